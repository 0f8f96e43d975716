import PyProof.Rows.All
import Wide.All
import OpenK.AllK
import Wide.FinOn
import Lean
import PyProof.EqAt
import PyProof.EqKinds
import PyProof.TupleCall
import PyProof.NeKinds
import PyProof.StrLawsTight
import PyProof.Conv_int
import PyProof.StrLawsRepr
import PyProof.ReprStr
import KE.KSortTup
import KE.KRevSl
import PyProof.DictIter
import PyProof.DictValues
import PyProof.DictTruth
import KE.KDictList
import PySem.Challenge.RW_haltline_k07_latest_tables
open List(all_eq_true all_map any_cons any_map any_toArray append_assoc append_nil ext_getElem? filterMap_cons filterMap_map find?_cons flatMap_append flatMap_cons flatMap_singleton flatten_cons getD_eq_getElem?_getD getElem?_append_right getElem?_eq_none getElem?_map getElem?_set getElem?_set_ne getElem?_set_self getElem_mem length_append length_cons length_map length_nil length_pos_iff length_range length_reverse length_set length_singleton length_take length_zip length_zipIdx lookup_cons map_append map_congr_left map_cons map_map map_nil mem_append mem_append_left mem_append_right mem_cons mem_cons_of_mem mem_cons_self mem_filter mem_filterMap mem_flatMap mem_map mem_of_getElem? mem_range mem_reverse mem_singleton nil_append nodup_append nodup_cons nodup_nil nodup_range not_mem_nil of_mem_zip pairwise_map replicate replicate_succ reverse_cons set_set size_toArray take_length)
open Nat(le_add_right le_of_lt le_refl le_succ le_trans lt_irrefl lt_of_lt_of_le lt_succ_of_lt lt_succ_self ne_of_gt ne_of_lt sub_self zero_le)
open Bool(and_eq_true false_eq_true or_eq_true)
open Int(le_antisymm toNat_natCast)
open Array(getElem?_eq_getElem getElem?_toList length_toList toList)
open Option(bind_some getD_none map_some)
set_option Elab.async false
set_option linter.all false
set_option maxRecDepth 100000
set_option bootstrap.genMatcherCode false
set_option genSizeOf false
set_option compiler.extract_closed false
section
open PySem
def Zx:=@wpAny_bind
def Zq:=@wpAny_pure
def Zo:=@decide_eq_true
def Zm:=@of_decide_eq_true
def Zj:=@decide_eq_false
def Zb:=@PassesOwn.leaving
def Yu:=@Heap.lt_size
theorem Yo.{u} {c:Prop}{h:Decidable c}(k:c){α:Sort u}{t e:α}:ite c t e=t:=if_pos k
theorem Ym.{u} {c:Prop}{h:Decidable c}(k:¬c){α:Sort u}{t e:α}:ite c t e=e:=if_neg k
end
section
open PySem
abbrev Z9:=List (Addr×Obj)
abbrev Z8:=W.Frag
abbrev Z6:=Value→Shared→Prop
abbrev Z4:=Str→Option Value
abbrev Z3:=Shared
abbrev Z2:=Addr
abbrev Z1:=List Int
abbrev Z0:=List Value
abbrev Zz:=List Nat
abbrev Zw:=List Str
abbrev Zv:=Program
abbrev Zt:=List Addr
abbrev Zs:=List (List Nat)
abbrev Zn:=List (Option Nat)
abbrev Zk:=World
abbrev Zh:=Nat→List Addr
abbrev Zg:=Around
abbrev Ze:=List Expr
abbrev Zd:=List (Str×NameKind)
abbrev Zc:=Value
abbrev Y9:=List (Str×Nat×Value)
abbrev Y7:=FuncData
abbrev Y6:=Heap
abbrev Y4:=Addr→Prop
abbrev Y3:=Expr
abbrev Y2:=List (Str×Addr)
abbrev Y1:=List Env
abbrev Y0:=Option Value→Shared→Prop
abbrev Yz:=Scope
abbrev Yy:=Option Int
abbrev Yx:=List (List Int)
abbrev Yw:=List (Str×Value)
abbrev Ys:=Pos
abbrev Yr:=Str
abbrev Yq:=Stmt
abbrev Yp:=(Str→Option Value)→Heap→Prop
abbrev Yn:=Result→Shared→Prop
abbrev Yl:=Str→Option NameKind
end
namespace L2
open PySem PySem.Spec PyProof.Rows
def fR {α:Type}{l:List α}{i:Nat}{a:α}(h:l[i]?=some a):∃h:i<l.length,l[i]=a:=List.getElem?_eq_some_iff.mp h
def dk {α:Type}{a b:α}{l:List α}(h:a∈l):a∈b::l:=.tail _ h
def gd {α:Type}{l:List α}{i:Nat}(h:i<l.length):l[i]?=some l[i]:=List.getElem?_eq_getElem h
abbrev bL:=Sum Int Str
def qr:bL→Value→Bool
 |.inl k,v=>Value.isInt k v
 |.inr x,v=>Value.isStrOf x v
def HH (w:Zk):bL→Int
 |.inl k=>hashInt k
 |.inr x=>hashStr w x
theorem b7:∀{k:bL} {v:Value},qr k v=true→(∃i t,k=Sum.inl i∧v=Value.int i t)∨(∃x t,k=Sum.inr x∧v=Value.str x t)
 |.inl i,v,h=>by
  obtain⟨t,e⟩:=Value.isInt_shape (k:=i) (v:=v) h;exact .inl ⟨i,t,rfl,e⟩
 |.inr x,v,h=>by
  obtain⟨t,e⟩:=Value.isStrOf_shape (x:=x) (v:=v) h;exact .inr ⟨x,t,rfl,e⟩
def xP (i:Int)(t:Tok):qr (.inl i) (.int i t)=true:=by simp[qr,Value.isInt]
def xQ (x:Yr)(t:Tok):qr (.inr x) (.str x t)=true:=by simp[qr,Value.isStrOf]
def EB (a b:Int):decide ((Sum.inl a:bL)=Sum.inl b)=(a==b):=by
 by_cases e:a=b
 ·subst e;simp
 ·have h:¬(Sum.inl a:bL)=Sum.inl b:=λq=>e (Sum.inl.inj q);rw[Zj h];exact(beq_eq_false_iff_ne.mpr e).symm
def EE (a b:Yr):decide ((Sum.inr a:bL)=Sum.inr b)=decide (a=b):=by
 by_cases e:a=b
 ·subst e;simp
 ·have h:¬(Sum.inr a:bL)=Sum.inr b:=λq=>e (Sum.inr.inj q);rw[Zj h,Zj e]
def EC (a:Int)(b:Yr):decide ((Sum.inl a:bL)=Sum.inr b)=false:=Zj (λq=>nomatch q)
def ED (a:Yr)(b:Int):decide ((Sum.inr a:bL)=Sum.inl b)=false:=Zj (λq=>nomatch q)
def bP (prog:Zv)(w:Zk):PySem.KeyKind prog w bL where
 is:=qr
 hash:=HH w
 inj:=λv a b ha hb=>by
  rcases b7 ha with ⟨i,t,rfl,rfl⟩|⟨x,t,rfl,rfl⟩
  ·rcases b7 hb with ⟨j,u,rfl,e⟩|⟨y,u,rfl,e⟩
   ·injection e with e1 _;rw[e1]
   ·exact nomatch e
  ·rcases b7 hb with ⟨j,u,rfl,e⟩|⟨y,u,rfl,e⟩
   ·exact nomatch e
   ·injection e with e1 _;rw[e1]
 byValue:=λk v h=>by
  rcases b7 h with ⟨i,t,rfl,rfl⟩|⟨x,t,rfl,rfl⟩ <;> rfl
 pyHash:=λhv h=>by
  rcases b7 hv with ⟨i,t,rfl,rfl⟩|⟨x,t,rfl,rfl⟩
  ·exact wpAny_pyHash_int h
  ·exact wpAny_pyHash_str h
 eqBool:=λhu hv h=>by
  rcases b7 hu with ⟨i,t,rfl,rfl⟩|⟨x,t,rfl,rfl⟩
  ·rcases b7 hv with ⟨j,u,rfl,rfl⟩|⟨y,u,rfl,rfl⟩
   ·rw[EB]at h;exact wpAny_eqBool_int h
   ·rw[EC]at h;exact SeqAt.EqAt.int_str i t y u _ _ _ _ h
  ·rcases b7 hv with ⟨j,u,rfl,rfl⟩|⟨y,u,rfl,rfl⟩
   ·rw[ED]at h;exact SeqAt.EqAt.str_int x t j u _ _ _ _ h
   ·rw[EE]at h;exact wpAny_eqBool_str h
 «strs»:=λk x t v h=>by
  rcases b7 h with ⟨i,u,rfl,e⟩|⟨y,u,rfl,e⟩
  ·exact nomatch e
  ·injection e with e1 _
   subst e1;cases v <;> rfl
def tW (prog:Zv)(w:Zk)(i:Int)(t:Tok):(bP prog w).is (.inl i) (.int i t)=true:=xP i t
def tX (prog:Zv)(w:Zk)(x:Yr)(t:Tok):(bP prog w).is (.inr x) (.str x t)=true:=xQ x t
inductive V where
 |non|bl (b:Bool)|int (i:Int)|str (x:Str)|byt (b:Array UInt8)|flt (b:UInt64)|ref (a:Addr)|ty (n:String)
 deriving DecidableEq
def RelV:V→Value→Prop
 |.non,u=>u=Value.none
 |.bl b,u=>u=Value.bool b
 |.int i,u=>∃t,u=Value.int i t
 |.str x,u=>∃t,u=Value.str x t
 |.byt b,u=>∃t,u=Value.bytes b t
 |.flt b,u=>∃t,u=Value.float b t
 |.ref a,u=>u=Value.ref a
 |.ty n,u=>u=Value.type n
abbrev Vals:List V→List Value→Prop:=Paired RelV
def Vals.length {xs:List V}{us:Z0}(r:Vals xs us):xs.length=us.length:=Paired.length r
theorem Vals.get:∀{xs:List V} {us:Z0} {i:Nat} {x:V},Vals xs us→xs[i]?=some x→∃u,us[i]?=some u∧RelV x u
 |_,_,_,_,.nil,e=>by simp at e
 |_,_,0,_,.cons r _,e=>by simp at e;subst e;exact⟨_,rfl,r⟩
 |_,_,i+1,x,.cons _ t,e=>by
  obtain⟨u,h1,h2⟩:=Vals.get (i:=i) (x:=x) t (by simpa using e);exact⟨u,by simpa using h1,h2⟩
theorem Vals.set {x:V}(r:RelV x u):∀{xs:List V} {us:Z0} (i:Nat),Vals xs us→Vals (xs.set i x) (us.set i u)
 |_,_,_,.nil=>.nil
 |_,_,0,.cons _ t=>.cons r t
 |_,_,i+1,.cons q t=>.cons q (Vals.set r i t)
theorem Vals.append:∀{xs ys:List V} {us ws:List Value},Vals xs us→Vals ys ws→Vals (xs ++ ys) (us ++ ws)
 |_,_,_,_,.nil,s=>s
 |_,_,_,_,.cons r t,s=>.cons r (Vals.append t s)
theorem Vals.take:∀{xs:List V} {us:Z0} (n:Nat),Vals xs us→Vals (xs.take n) (us.take n)
 |_,_,0,_=>.nil
 |_,_,_+1,.nil=>.nil
 |_,_,n+1,.cons r t=>.cons r (Vals.take n t)
theorem Vals.drop:∀{xs:List V} {us:Z0} (n:Nat),Vals xs us→Vals (xs.drop n) (us.drop n)
 |_,_,0,r=>r
 |_,_,_+1,.nil=>.nil
 |_,_,n+1,.cons _ t=>Vals.drop n t
def RelO:Option V→Option Value→Prop
 |some v,some u=>RelV v u
 |none,none=>True
 |_,_=>False
def KV {κ:Type}:List (κ×V)→List (κ×Value)→Prop:=Paired λ(p:κ×V) (q:κ×Value)=>p.1=q.1∧RelV p.2 q.2
def kV:bL→V
 |.inl i=>.int i
 |.inr x=>.str x
inductive HO where
 /-- a list -/
 |lst (xs:List V)
 /-- a tuple (never changes) -/
 |tup (xs:List V)
 /-- a dict whose keys are ints and texts;one whose keys are tuples of ints and texts (the empty one is both) -/
 |dK (kvs:List (bL×V))|dT (kvs:List (List bL×V))
 /-- a set of ints:its members,its size -/
 |set (S:Int→Bool) (n:Nat)
 /-- an instance of the class at C,its dict at dx,its attributes -/
 |ins (C dx:Z2) (fs:List (Str×V))
 /-- the dict of the instance at x -/
 |own (x:Addr)
 /-- the dict of an exception -/
 |xd (fs:List (Str×V))
 /-- a bound method,f of x -/
 |met (f x:Addr)
 /-- a range object lo,lo+1,.. below hi -/
 |rng (lo hi:Int)
 /-- a thing that is known to the object (the script;a dict while a loop walks it):read,never written while it is so -/
 |frz (o:Obj) (u:HO)
 /-- a code object's table -/
 |tbl (ps:Array Value)
 /-- any other thing,by what is true of its one object (a def of one's own:SetO a S n:=HO.ext λh=> ..) -/
 |ext (φ:Heap→Prop)
abbrev Hp:=Addr→Option HO
def bc (H:Hp)(a:Z2)(o:HO):Hp:=λb=>if b=a then some o else H b
def au {H:Hp}{o:HO}:bc H a o a=some o:=by unfold bc;rw[Yo rfl]
def am {H:Hp}{o:HO}(h:b≠a):bc H a o b=H b:=by unfold bc;rw[Ym h]
def GF {H:Hp}{o u:HO}(h:H a=some o)(h':H b=some u)(d:o≠u):a≠b:=by
 intro e;subst e;rw[h]at h';exact d (Option.some.inj h')
def aD {H:Hp}{o:HO}(h:H a=some o)(h':H b=none):a≠b:=by
 intro e;subst e;rw[h]at h';cases h'
section
variable(P:Zv)(w:World)
def ObjOk (H:Hp)(h:Y6)(a:Z2):HO→Prop
 |.lst xs=>xs.length≤sizeLine∧∃(its:Z0) (n:Nat),Vals xs its∧h.get? a=some {cls:=.type "list",data:=.seq its.toArray n}
 |.tup xs=>xs.length≤sizeLine∧∃its:List Value,Vals xs its∧IsTup h a its.toArray
 |.dK kvs=>kvs.length≤sizeLine∧(a==sysModules)=false∧∃vs,KV kvs vs∧h.DictOf (bP P w) a vs
 |.dT kvs=>kvs.length≤sizeLine∧(a==sysModules)=false∧∃xs:List (List bL×Addr×Value),
   Paired (λ(p:List bL×V) (q:List bL×Addr×Value)=>p.1=q.1∧H q.2.1=some (.tup (p.1.map kV))∧RelV p.2 q.2.2) kvs xs∧
   ∃o es ep,h.get? a=some o∧o.ExactDict∧o.data= .dict es ep∧es.toList=xs.map (entryOfKey (tupleKind (bP P w)))∧(xs.map (·.1)).Nodup
 |.set S n=>h.SetOf (intKind P w) a S n
 |.ins C dx fs=>H dx=some (.own a)∧fs.length≤1000∧dx≠a∧h.get? a=some (W.instObj C dx)∧
   ∃mA,h.Ns1 dx mA∧(∀f,RelO (fs.lookup f) (mA f))∧PySem.Within mA (fs.map (·.1))
 |.own _=>∃o,h.get? a=some o
 |.xd fs=>∃mA,h.Ns1 a mA∧∀f,RelO (fs.lookup f) (mA f)
 |.rng lo hi=>∃t u v,h.get? a=some {cls:=.type "range",data:=.fields #[.int lo t,.int hi u,.int 1 v]}
 |.frz o u=>h.get? a=some o∧ObjOk H h a u
 |.tbl ps=>h.get? a=some {cls:=.none,data:=.fields ps}
 |.met f x=>h.get? a=some (W.methodObj (.ref f) (.ref x))
 |.ext φ=>φ h∧(∃o,h.get? a=some o)∧∀h1 h2:Heap,φ h1→(∀o,h1.get? a=some o→h2.get? a=some o)→φ h2
def HOk (H:Hp)(h:Y6):Prop:=∀a o,H a=some o→ObjOk P w H h a o
end
section
variable{P:Zv}{w:Zk}{H H':Hp}{h h':Y6}{a:Z2}{o:HO}
def ObjOk.lt (x:ObjOk P w H h a o):a<h.objs.size:=by
 cases o with
 |lst xs=>obtain⟨_,_,_,_,e⟩:=x;exact Yu e
 |tup xs=>obtain⟨_,_,_,p⟩:=x;exact p.lt
 |dK kvs=>obtain⟨_,_,_,_,o,_,_,e,_⟩:=x;exact Yu e
 |dT kvs=>obtain⟨_,_,_,_,o,_,_,e,_⟩:=x;exact Yu e
 |set S n=>obtain⟨o,_,_,_,e,_⟩:=x;exact Yu e
 |ins C dx fs=>obtain⟨_,_,_,e,_⟩:=x;exact Yu e
 |own y=>obtain⟨_,e⟩:=x;exact Yu e
 |xd fs=>obtain⟨_,⟨_,_,_,e,_⟩,_⟩:=x;exact Yu e
 |rng lo hi=>obtain⟨_,_,_,e⟩:=x;exact Yu e
 |frz ob u=>obtain⟨e,_⟩:=x;exact Yu e
 |tbl ps=>exact Yu (show h.get? a=some _ from x)
 |met f y=>exact Yu (show h.get? a=some _ from x)
 |ext φ=>obtain⟨_,⟨_,e⟩,_⟩:=x;exact Yu e
theorem Paired.mapP {α β:Type}{F G:α→β→Prop}:∀{l₁:List α} {l₂:List β},Paired F l₁ l₂→(∀a b,F a b→G a b)→Paired G l₁ l₂
 |_,_,.nil,_=>.nil
 |_,_,.cons r t,f=>.cons (f _ _ r) (Paired.mapP t f)
def ObjOk.stay (x:ObjOk P w H h a o)(k:∀b u,(b=a∨H b=some (.own a))→h.get? b=some u→h'.get? b=some u)(ho:∀b,H b=some (.own a)→H' b=some (.own a)) (ht:∀b xs,H b=some (.tup xs)→H' b=some (.tup xs)):ObjOk P w H' h' a o:=by
 induction o with
 |lst xs=>obtain⟨z,its,n,r,e⟩:=x;exact⟨z,its,n,r,k _ _ (.inl rfl) e⟩
 |tup xs=>obtain⟨z,its,r,g,e,c⟩:=x;exact⟨z,its,r,g,k _ _ (.inl rfl) e,c⟩
 |dK kvs=>obtain⟨z,y,vs,r,g,j,i,e,c⟩:=x;exact⟨z,y,vs,r,g,j,i,k _ _ (.inl rfl) e,c⟩
 |dT kvs=>
  obtain⟨z,y,xs,r,g,j,i,e,c⟩:=x;exact⟨z,y,xs,Paired.mapP r λp q z=>⟨z.1,ht _ _ z.2.1,z.2.2⟩,g,j,i,k _ _ (.inl rfl) e,c⟩
 |set S n=>obtain⟨g,j,i,t,e,c⟩:=x;exact⟨g,j,i,t,k _ _ (.inl rfl) e,c⟩
 |ins C dx fs=>
  obtain⟨d,z,ne,e,mA,⟨od,j,i,e2,c⟩,r⟩:=x;exact⟨ho _ d,z,ne,k _ _ (.inl rfl) e,mA,⟨od,j,i,k _ _ (.inr d) e2,c⟩,r⟩
 |own y=>obtain⟨g,e⟩:=x;exact⟨g,k _ _ (.inl rfl) e⟩
 |xd fs=>obtain⟨mA,⟨od,j,i,e,c⟩,r⟩:=x;exact⟨mA,⟨od,j,i,k _ _ (.inl rfl) e,c⟩,r⟩
 |rng lo hi=>obtain⟨t,u,v,e⟩:=x;exact⟨t,u,v,k _ _ (.inl rfl) e⟩
 |frz g u ih=>obtain⟨e,q⟩:=x;exact⟨k _ _ (.inl rfl) e,ih q⟩
 |tbl ps=>
  have e:h.get? a=some {cls:=.none,data:=.fields ps}:=x;show h'.get? a=some {cls:=.none,data:=.fields ps};exact k a _ (.inl rfl) e
 |met f y=>
  have e:h.get? a=some (W.methodObj (.ref f) (.ref y)):=x;show h'.get? a=some (W.methodObj (.ref f) (.ref y));exact k a _ (.inl rfl) e
 |ext φ=>obtain⟨p,⟨o,e⟩,st⟩:=x;exact⟨st _ _ p λo q=>k _ _ (.inl rfl) q,⟨o,k _ _ (.inl rfl) e⟩,st⟩
def HOk.lt (x:HOk P w H h)(e:H a=some o):a<h.objs.size:=(x a o e).lt
def HOk.fresh (x:HOk P w H h)(e:h.objs.size≤a):H a=none:=by
 cases q:H a with
 |none=>rfl
 |some u=>exact absurd (lt_of_lt_of_le (x.lt q) e) (lt_irrefl _)
def HOk.kept (x:HOk P w H h)(k:∀b u,h.get? b=some u→h'.get? b=some u):HOk P w H h':=λa o e=>
 (x a o e).stay (λb u _ q=>k b u q) (λ_ q=>q) λ_ _ q=>q
def HOk.laid (x:HOk P w H h)(k:∀b u,h.get? b=some u→h'.get? b=some u)(hp:h.objs.size≤a)(new:ObjOk P w (bc H a o) h' a o):HOk P w (bc H a o) h':=λb u e=>by
 have hn:=x.fresh hp;by_cases hb:b=a
 ·subst hb;rw[au]at e;cases e;exact new
 ·rw[am hb]at e;exact(x b u e).stay (λc v _ q=>k c v q) (λc q=>by rw[am (aD q hn)];exact q) λc xs q=>by rw[am (aD q hn)];exact q
end
def Rd (H:Hp)(a:Z2)(u:HO):Prop:=H a=some u∨∃o,H a=some (.frz o u)
def Rd.ok {P:Zv}{w:Zk}{H:Hp}{h:Y6}{u:HO}(r:Rd H a u)(x:HOk P w H h):ObjOk P w H h a u:=by
 rcases r with r|⟨o,r⟩
 ·exact x a u r
 ·obtain⟨_,q⟩:=x a _ r;exact q
def FS:Option HO→Prop
 |some (.lst _)=>True
 |some (.dK _)=>True
 |some (.dT _)=>True
 |some (.set _ _)=>True
 |some (.ins _ _ _)=>True
 |some (.ext _)=>True
 |_=>False
section
variable{P:Zv}{w:Zk}{H:Hp}{h h':Y6}{x e:Z2}{o':HO}
def HOk.write (ok:HOk P w H h)(mu:FS (H x))(he:e=x∨H e=some (.own x))(k:∀b u,b≠e→h.get? b=some u→h'.get? b=some u)(heo:∃u,h'.get? e=some u)(new:ObjOk P w (bc H x o') h' x o'):HOk P w (bc H x o') h':=λb u q=>by
 have nown:∀c y,H c=some (.own y)→c≠x:=λc y r z=>by subst z;rw[r]at mu;exact mu
 have ntup:∀c xs,H c=some (.tup xs)→c≠x:=λc xs r z=>by subst z;rw[r]at mu;exact mu
 by_cases hb:b=x
 ·subst hb;rw[au]at q;cases q;exact new
 ·rw[am hb]at q;by_cases d:b=e
  ·have q':H b=some (.own x):=by
    rcases he with z|z
    ·exact absurd (d.trans z) hb
    ·rw[d];exact z
   rw[q]at q';cases q';obtain⟨v,hv⟩:=heo;exact⟨v,by rw[d];exact hv⟩
  ·refine(ok b u q).stay (λc v hc r=>k c v ?_ r) (λc r=>by rw[am (nown c b r)];exact r) λc xs r=>by rw[am (ntup c xs r)];exact r
   rcases hc with rfl|hc
   ·exact d
   ·rintro rfl
    rcases he with z|z
    ·exact nown c b hc z
    ·rw[hc]at z;cases z;exact hb rfl
end
structure Un (fs ex:Zt)(H H':Hp)(h h':Y6):Prop where
 keep:∀b o,h.get? b=some o→H b=none→b∉fs→b∉ex→h'.get? b=some o
 slot:∀b o,h.get? b=some o→H b=none→b∈fs→b∉ex→∃sl,h'.get? b=some {o with slots:=sl}
 free:∀b o,h.get? b=some o→H b=none→b∉ex→H' b=none
 there:∀b o,h.get? b=some o→b∉ex→∃o',h'.get? b=some o'
 tups:∀b xs,H b=some (.tup xs)→H' b=some (.tup xs)
 frzs:∀b o u,H b=some (.frz o u)→H' b=some (.frz o u)
 tbls:∀b ps,H b=some (.tbl ps)→∃more,H' b=some (.tbl (ps ++ more))
section
variable{fs fs' ex ex':Zt}{H H1 H2:Hp}{h h1 h2 h':Y6}{a x e:Z2}{o:HO}
def Un.any (u:Un fs ex H H1 h h1){b:Z2}{ob:Obj}(q:h.get? b=some ob)(n:H b=none)(hx:b∉ex):∃sl,h1.get? b=some {ob with slots:=sl}:=by
 by_cases hb:b∈fs
 ·exact u.slot b ob q n hb hx
 ·exact⟨ob.slots,u.keep b ob q n hb hx⟩
def Un.kept (k:∀b u,h.get? b=some u→h'.get? b=some u):Un fs ex H H h h':=
 ⟨λb ob q _ _ _=>k b ob q,λb ob q _ _ _=>⟨ob.slots,k b ob q⟩,λ_ _ _ n _=>n,λb ob q _=>⟨ob,k b ob q⟩,λ_ _ q=>q,λ_ _ _ q=>q,λ_ ps q=>⟨#[],by rw[q];simp⟩⟩
def Un.refl:Un fs ex H H h h:=Un.kept λ_ _ q=>q
def Un.laid (k:∀b u,h.get? b=some u→h'.get? b=some u)(hp:h.objs.size≤a)(hn:H a=none):Un fs ex H (bc H a o) h h' where
 keep:=λb u q _ _ _=>k b u q
 slot:=λb u q _ _ _=>⟨u.slots,k b u q⟩
 free:=λb u q n _=>by rw[am (ne_of_lt (lt_of_lt_of_le (Yu q) hp))];exact n
 there:=λb u q _=>⟨u,k b u q⟩
 tups:=λb xs q=>by rw[am (aD q hn)];exact q
 frzs:=λb u xs q=>by rw[am (aD q hn)];exact q
 tbls:=λb ps q=>⟨#[],by rw[am (aD q hn),q];simp⟩
def Un.write (mu:FS (H x))(he:e=x∨H e=some (.own x))(k:∀b u,b≠e→h.get? b=some u→h'.get? b=some u)(heo:∃u,h'.get? e=some u):Un fs ex H (bc H x o) h h':=by
 have hx:∀b,H b=none→b≠x:=λb n z=>by subst z;rw[n]at mu;exact mu
 have hb:∀b,H b=none→b≠e:=λb n z=>by
  subst z
  rcases he with r|r
  ·exact hx b n r
  ·rw[n]at r;cases r
 have hm:∀b u,H b=some u→¬FS (some u)→b≠x:=λb u q nm z=>by subst z;rw[q]at mu;exact nm mu
 refine⟨λb u q n _ _=>k b u (hb b n) q,λb u q n _ _=>⟨u.slots,k b u (hb b n) q⟩,λb u q n _=>by rw[am (hx b n)];exact n,λb u q _=>?_,
  λb xs q=>by rw[am (hm b _ q λz=>z)];exact q,λb u xs q=>by rw[am (hm b _ q λz=>z)];exact q,λb ps q=>⟨#[],by rw[am (hm b _ q λz=>z),q];simp⟩⟩
 by_cases hbe:b=e
 ·subst hbe;exact heo
 ·exact⟨u,k b u hbe q⟩
end
def Ho (h:Y6)(H:Hp):List Addr:=(List.range h.objs.size).filter λa=>(H a).isSome
def rD (h:Y6)(H:Hp):Heap:=W.hideAll h (Ho h H)
def xN (h:Y6)(H:Hp):(rD h H).objs.size=h.objs.size:=W.hideAll_size _ _
def zo {h:Y6}{H:Hp}{o:Obj}(e:h.get? b=some o)(n:H b=none):(rD h H).get? b=some o:=
 W.hideAll_get _ e λhm=>by
  have q:(H b).isSome=true:=(mem_filter.mp hm).2;rw[n]at q;simp at q
def Ca {h:Y6}{H:Hp}{o:Obj}(e:(rD h H).get? b=some o):h.get? b=some o∧H b=none:=by
 have e':h.get? b=some o:=W.of_hideAll (Ho h H) e;refine⟨e',?_⟩;cases q:H b with
 |none=>rfl
 |some x=>
  have hm:b∈Ho h H:=mem_filter.mpr ⟨mem_range.mpr (Yu e'),by simp[q]⟩;have z:(rD h H).get? b=none:=W.hideAll_none (Ho h H) hm;rw[z]at e;cases e
structure Mod (K:Z8)(mg:Z4)(base:Y6):Prop where
 kin:K.In base
 glob:base.Ns mainGlobals mg
 blt:∃mb,base.Ns builtinsNs mb∧∀x:Str,x≠ "__name__" →mb x=bootBuiltins x
 nolimit:base.NoLimit
structure Cx where
 prog:Program
 w:World
 K:W.Frag
 mg:Str→Option Value
 base:Heap
 A:Around
 N:List Str
 s₀:Shared
 H₀:Hp
 env:Env
 outer:List Env
 stack:List Env
 ex:List Addr
 fn:Str→Bool
 calm:Bool
 pn:List (Addr×Obj)
 xe:Value→Shared→Prop
abbrev zQ1(x:Yr):Prop:=(x==("__debug__":Str))=false
abbrev zQ2(X:Cx)(e:Y3)(es:Ze):Prop:=starEach (e::es) X.env=(false,eval e X.env)::starEach es X.env
def gc (l:Y1):List Addr:=l.filterMap (·.frame)
abbrev Cx.fs (X:Cx):List Addr:=gc X.outer
def uJ (sc:Yz)(x:Yr):Prop:=sc.names.lookup x=some .local∨sc.names.lookup x=some .cell∨sc.names.lookup x=some .free
def sP (sc:Yz)(x:Yr):Prop:=sc.names.lookup x=some .local∨sc.names.lookup x=some .cell
def Hu (env:Env)(h:Y6)(m:Z4)(x:Yr)(u:Zc):Prop:=
 (env.kindOf x=some .local∧m x=some u)∨((env.kindOf x=some .cell∨env.kindOf x=some .free)∧∃c,env.cells.lookup x=some c∧h.IsCell c (some u))
structure Cx.Ok (X:Cx):Prop where
 mod:Mod X.K X.mg X.base
 kind:X.env.scope.kind= .function
 glob:X.env.globals=mainGlobals
 blt:X.env.builtins=builtinsNs
 above:X.s₀.heap.objs.size≤X.env.locals
 inj:∀x y c,X.env.cells.lookup x=some c→X.env.cells.lookup y=some c→x=y
 has:∀x,(X.env.kindOf x=some .cell∨X.env.kindOf x=some .free)→∃c,X.env.cells.lookup x=some c
 cab:∀x c,X.fn x=true→X.env.cells.lookup x=some c→X.s₀.heap.objs.size≤c
 hd:X.calm=true→X.A.handled=none
 frames:X.A.frames=some X.stack
 stk:X.stack=X.outer∨(X.stack=X.env::X.outer∧X.env.frame=some X.env.locals)
 exf:∀b∈X.ex,b≠X.env.locals∧∀x c,X.env.cells.lookup x=some c→c≠b
 bs:∀b o,X.base.get? b=some o→X.s₀.heap.get? b=some o∧X.H₀ b=none
 bsz:X.base.objs.size≤X.s₀.heap.objs.size
 noex:∀b o,X.base.get? b=some o→b∉X.ex
 exfs:∀b∈X.ex,b∉X.fs
 funs:X.s₀.heap.FunFrames X.base X.outer
 frf:∀b∈X.fs,X.H₀ b=none
structure Inv (X:Cx)(pins:Z9)(σ:List (Option V))(H:Hp)(s:Z3):Prop where
 ok:X.Ok
 os:s.os=X.s₀.os
 bare:AllBare s.gens
 base:Un X.fs X.ex X.H₀ H X.s₀.heap s.heap
 loc:∃m,s.heap.Ns X.env.locals m∧∀(i:Nat) (x:Yr) (v:V),X.N[i]?=some x→σ[i]?=some (some v)→uJ X.env.scope x→∃u,RelV v u∧Hu X.env s.heap m x u
 cell:∀x c,X.env.cells.lookup x=some c→∃v,s.heap.IsCell c v
 free:H X.env.locals=none
 freeC:∀x c,X.env.cells.lookup x=some c→H c=none
 pin:∀p∈X.pn ++ pins,s.heap.get? p.1=some p.2∧H p.1=none∧p.1≠X.env.locals∧p.1∉X.fs∧∀v,p.2.data≠ .cell v
 hok:HOk X.prog X.w H s.heap
 len:σ.length=X.N.length
section
variable{X:Cx}{pins:Z9}{σ:List (Option V)}{H H':Hp}{s:Z3}{h':Heap}
def Cx.Ok.nofr (ok:X.Ok){b:Z2}{o:Obj}(e:X.base.get? b=some o):b∉X.fs:=λhb=>by
 have:=(ok.funs.mem hb).1;rw[e]at this;cases this
def Inv.bs (I:Inv X pins σ H s):∀b o,X.base.get? b=some o→s.heap.get? b=some o∧H b=none:=λb o e=>
 ⟨I.base.keep b o (I.ok.bs b o e).1 (I.ok.bs b o e).2 (I.ok.nofr e) (I.ok.noex b o e),I.base.free b o (I.ok.bs b o e).1 (I.ok.bs b o e).2 (I.ok.noex b o e)⟩
def Inv.bk (I:Inv X pins σ H s):∀b o,X.base.get? b=some o→s.heap.get? b=some o:=λb o e=>(I.bs b o e).1
def Inv.mod (I:Inv X pins σ H s):Mod X.K X.mg X.base:=I.ok.mod
def Inv.kIn (I:Inv X pins σ H s):X.K.In s.heap:=I.ok.mod.kin.keeps I.bk
def Inv.lt (I:Inv X pins σ H s):X.env.locals<s.heap.objs.size:=let ⟨_,hn,_⟩:=I.loc;hn.lt
def Inv.sz (I:Inv X pins σ H s):X.s₀.heap.objs.size≤s.heap.objs.size:=le_trans I.ok.above (le_of_lt I.lt)
def Inv.nofs (I:Inv X pins σ H s){a:Z2}(h:s.heap.objs.size≤a):a∉X.fs:=λhb=>by
 obtain⟨_,o,ho,_⟩:=I.ok.funs.mem hb;exact absurd (lt_of_lt_of_le (Yu ho) (le_trans I.sz h)) (lt_irrefl _)
def Inv.cne (I:Inv X pins σ H s):∀x c,X.env.cells.lookup x=some c→c≠X.env.locals:=λx c e z=>by
 obtain⟨v,o,ho,hd⟩:=I.cell x c e;obtain⟨m,⟨o',es,ep,ho',hd',_⟩,_⟩:=I.loc;rw[z,ho']at ho;cases ho;rw[hd']at hd;cases hd
def Inv.funs (I:Inv X pins σ H s):s.heap.FunFrames X.base X.outer:=by
 have all:∀(l:List Env),(∀b∈gc l,b∈X.fs)→X.s₀.heap.FunFrames X.base l→s.heap.FunFrames X.base l:=by
  intro l
  induction l with
  |nil=>intro _ _;trivial
  |cons env r ih=>
   intro hs hl;obtain⟨hk,⟨L,o,hf,hn,ho,hd⟩,hr⟩:=hl;have hL:L∈X.fs:=hs L (by unfold gc;rw[filterMap_cons,hf];exact mem_cons_self);obtain⟨sl,e⟩:=I.base.slot L o ho (I.ok.frf L hL) hL λz=>I.ok.exfs L z hL;exact⟨hk,⟨L,_,hf,hn,e,hd⟩,ih (λb hb=>hs b (by unfold gc;rw[filterMap_cons,hf];exact dk hb)) hr⟩
 exact all X.outer (λ_ hb=>hb) I.ok.funs
def Inv.stack (I:Inv X pins σ H s):s.heap.FunFrames X.base X.stack:=by
 rcases I.ok.stk with e|⟨e,hf⟩
 ·rw[e];exact I.funs
 ·rw[e];obtain⟨m,hn,_⟩:=I.loc;refine .cons (by rw[I.ok.kind];decide) hf hn ?_ I.funs;exact Heap.get?_none_of_le (le_trans I.ok.bsz I.ok.above)
def Inv.stkSub (I:Inv X pins σ H s):∀b∈gc X.stack,b∈X.env.locals::X.fs:=λb hb=>by
 rcases I.ok.stk with e|⟨e,hf⟩
 ·rw[e]at hb;exact dk hb
 ·rw[e]at hb;unfold gc at hb;rw[filterMap_cons,hf]at hb;exact hb
def Inv.stkFree (I:Inv X pins σ H s):∀b∈gc X.stack,H b=none:=λb hb=>by
 rcases mem_cons.mp (I.stkSub b hb) with e|hb
 ·rw[e];exact I.free
 ·obtain⟨_,o,ho,_⟩:=I.ok.funs.mem hb;exact I.base.free b o ho (I.ok.frf b hb) λz=>I.ok.exfs b z hb
def Inv.step {g':Array GenState}{t':Nat}{d':Drawn}{ch:Zt}(I:Inv X pins σ H s)(hch:∀b∈ch,(b∈X.ex∨X.s₀.heap.objs.size≤b)∧b≠X.env.locals∧(∀x c,X.env.cells.lookup x=some c→c≠b)∧∀p∈X.pn ++ pins,p.1≠b)(keep:∀b o,b≠X.env.locals→b∉X.fs→b∉ch→s.heap.get? b=some o→H b=none→h'.get? b=some o)(slot:∀b o,b≠X.env.locals→b∈X.fs→b∉ch→s.heap.get? b=some o→H b=none→∃sl,h'.get? b=some {o with slots:=sl}) (free:∀b o,b∉ch→s.heap.get? b=some o→H b=none→H' b=none)
  (there:∀b o,b∉ch→s.heap.get? b=some o→∃o',h'.get? b=some o')
  (tups:∀b xs,H b=some (.tup xs)→H' b=some (.tup xs)) (frzs:∀b o u,H b=some (.frz o u)→H' b=some (.frz o u)) (tbls:∀b ps,H b=some (.tbl ps)→∃more,H' b=some (.tbl (ps ++ more)))
  (ns:∀m,s.heap.Ns X.env.locals m→h'.Ns X.env.locals m) (hok:HOk X.prog X.w H' h') (hg:AllBare g') :
  Inv X pins σ H' {s with heap:=h',gens:=g',drawn:=d',toks:=t'}:=by
 have neL:∀b o,X.s₀.heap.get? b=some o→b≠X.env.locals:=λb o e=>ne_of_lt (lt_of_lt_of_le (Yu e) I.ok.above);have t:∀b o,X.s₀.heap.get? b=some o→b∉X.ex→b∉ch:=λb o e f hb=>by
  rcases (hch b hb).1 with z|z
  ·exact f z
  ·exact absurd (lt_of_lt_of_le (Yu e) z) (lt_irrefl _)
 have h:∀x c,X.env.cells.lookup x=some c→∀v,s.heap.IsCell c v→h'.IsCell c v:=λx c e v hZ51=>by
  obtain⟨o,ho,hd⟩:=hZ51;have g:c∉ch:=λz=>(hch c z).2.2.1 x c e rfl;by_cases hc:c∈X.fs
  ·obtain⟨sl,q⟩:=slot c o (I.cne x c e) hc g ho (I.freeC x c e);exact⟨_,q,hd⟩
  ·exact⟨o,keep c o (I.cne x c e) hc g ho (I.freeC x c e),hd⟩
 refine⟨I.ok,I.os,hg,⟨λb o e n hb f=>?_,λb o e n hb f=>?_,λb o e n f=>?_,λb o e f=>?_,λb xs e=>tups b xs (I.base.tups b xs e),λb o xs e=>frzs b o xs (I.base.frzs b o xs e),λb ps e=>?_⟩,?_,λx c e=>?_,?_,λx c e=>?_,λp hp=>?_,hok,I.len⟩
 ·exact keep b o (neL b o e) hb (t b o e f) (I.base.keep b o e n hb f) (I.base.free b o e n f)
 ·obtain⟨sl,j⟩:=I.base.slot b o e n hb f;obtain⟨sl',e2⟩:=slot b _ (neL b o e) hb (t b o e f) j (I.base.free b o e n f);exact⟨sl',e2⟩
 ·obtain⟨o',j⟩:=I.base.there b o e f;exact free b o' (t b o e f) j (I.base.free b o e n f)
 ·obtain⟨o',j⟩:=I.base.there b o e f;exact there b o' (t b o e f) j
 ·obtain⟨m1,j⟩:=I.base.tbls b ps e;obtain⟨m2,e2⟩:=tbls b _ j;exact⟨m1 ++ m2,by rw[e2,Array.append_assoc]⟩
 ·obtain⟨m,hn,hl⟩:=I.loc;refine⟨m,ns m hn,λi x v j e2 e3=>?_⟩;obtain⟨u,r,l⟩:=hl i x v j e2 e3;refine⟨u,r,?_⟩
  rcases l with l|⟨k,c,e,z⟩
  ·exact .inl l
  ·exact .inr ⟨k,c,e,h x c e _ z⟩
 ·obtain⟨v,z⟩:=I.cell x c e;exact⟨v,h x c e v z⟩
 ·obtain⟨m,⟨o,_,_,ho,_⟩,_⟩:=I.loc;exact free _ o (λz=>(hch _ z).2.1 rfl) ho I.free
 ·obtain⟨v,o,ho,hd⟩:=I.cell x c e;exact free c o (λz=>(hch c z).2.2.1 x c e rfl) ho (I.freeC x c e)
 ·obtain⟨e,n,ne,nf,d⟩:=I.pin p hp;have g:p.1∉ch:=λz=>(hch p.1 z).2.2.2 p hp rfl;exact⟨keep p.1 p.2 ne nf g e n,free p.1 p.2 g e n,ne,nf,d⟩
def Inv.un {t':Nat}(I:Inv X pins σ H s)(u:Un X.fs [] H H' s.heap h')(hok:HOk X.prog X.w H' h'):Inv X pins σ H' {s with heap:=h',toks:=t'}:=by
 obtain⟨m,⟨o,es,ep,ho,r⟩,_⟩:=id I.loc;obtain⟨sl,hL⟩:=u.any ho I.free (by simp);exact I.step (g':=s.gens) (d':=s.drawn) (ch:=[]) (λ_ z=>nomatch z) (λb o _ hb _ e n=>u.keep b o e n hb (by simp)) (λb o _ hb _ e n=>u.slot b o e n hb (by simp)) (λb o _ e n=>u.free b o e n (by simp)) (λb o _ e=>u.there b o e (by simp)) u.tups u.frzs u.tbls (λm' hm=>by
  obtain⟨o',es',ep',ho',r'⟩:=hm;rw[ho]at ho';cases ho';exact⟨_,es',ep',hL,r'⟩) hok I.bare
def Inv.call {g':Array GenState}{t':Nat}{d':Drawn}{ch:Zt}(I:Inv X pins σ H s)(u:Un (gc X.stack) ch H H' s.heap h')(hok:HOk X.prog X.w H' h')(hg:AllBare g')(hch:∀b∈ch,(b∈X.ex∨X.s₀.heap.objs.size≤b)∧b≠X.env.locals∧(∀x c,X.env.cells.lookup x=some c→c≠b)∧∀p∈X.pn ++ pins,p.1≠b) :
  Inv X pins σ H' {s with heap:=h',gens:=g',drawn:=d',toks:=t'}:=by
 obtain⟨m,⟨o,es,ep,ho,r⟩,_⟩:=id I.loc;obtain⟨sl,hL⟩:=u.any ho I.free λz=>(hch _ z).2.1 rfl;exact I.step (ch:=ch) hch (λb o hL hb hc e n=>u.keep b o e n (λz=>(mem_cons.mp (I.stkSub b z)).elim hL hb) hc) (λb o _ _ hc e n=>u.any e n hc) (λb o hc e n=>u.free b o e n hc) (λb o hc e=>u.there b o e hc) u.tups u.frzs u.tbls (λm' hm=>by
  obtain⟨o',es',ep',ho',r'⟩:=hm;rw[ho]at ho';cases ho';exact⟨_,es',ep',hL,r'⟩) hok hg
def Inv.turned {t':Nat}(I:Inv X pins σ H s)(k:∀b o,b≠it→s.heap.get? b=some o→h'.get? b=some o)(hn:H it=none)(hL:it≠X.env.locals)(h1:it∈X.ex∨X.s₀.heap.objs.size≤it) (h2:∀x c,X.env.cells.lookup x=some c→c≠it) (h3:∀p∈X.pn ++ pins,p.1≠it):Inv X pins σ H {s with heap:=h',toks:=t'}:=by
 have nit:∀b u,H b=some u→b≠it:=λb u e z=>by rw[z,hn]at e;cases e
 refine I.step (g':=s.gens) (d':=s.drawn) (ch:=[it]) (λb hb=>?_) (λb o _ _ hc e _=>k b o (λz=>hc (by simp[z])) e) (λb o _ _ hc e _=>⟨o.slots,k b o (λz=>hc (by simp[z])) e⟩) (λ_ _ _ _ n=>n)
  (λb o hc e=>⟨o,k b o (λz=>hc (by simp[z])) e⟩) (λ_ _ e=>e) (λ_ _ _ e=>e) (λb ps e=>⟨#[],by rw[e];simp⟩) (λm hm=>?_) (λb u e=>?_) I.bare
 ·have e:b=it:=by simpa using hb
  subst e;exact⟨h1,hL,h2,h3⟩
 ·obtain⟨o,es,ep,ho,r⟩:=hm;exact⟨o,es,ep,k _ o (Ne.symm hL) ho,r⟩
 ·refine(I.hok b u e).stay (λc v hc q=>k c v ?_ q) (λ_ q=>q) λ_ _ q=>q
  rcases hc with z|z
  ·rw[z];exact nit b u e
  ·exact nit c _ z
def Inv.tok (I:Inv X pins σ H s)(t:Nat):Inv X pins σ H {s with toks:=t}:=I.un (h':=s.heap) (t':=t) Un.refl I.hok
def Inv.kept {t':Nat}(I:Inv X pins σ H s)(k:∀b u,s.heap.get? b=some u→h'.get? b=some u):Inv X pins σ H {s with heap:=h',toks:=t'}:=I.un (Un.kept k) (I.hok.kept k)
def Inv.laid {o:HO}{t':Nat}(I:Inv X pins σ H s)(k:∀b u,s.heap.get? b=some u→h'.get? b=some u)(hp:s.heap.objs.size≤a)(new:ObjOk X.prog X.w (bc H a o) h' a o) :
  Inv X pins σ (bc H a o) {s with heap:=h',toks:=t'}:=I.un (Un.laid k hp (I.hok.fresh hp)) (I.hok.laid k hp new)
def Inv.write {o:HO}{t':Nat}(I:Inv X pins σ H s)(mu:FS (H x))(he:e=x∨H e=some (.own x))(k:∀b u,b≠e→s.heap.get? b=some u→h'.get? b=some u)(heo:∃u,h'.get? e=some u)(new:ObjOk X.prog X.w (bc H x o) h' x o):Inv X pins σ (bc H x o) {s with heap:=h',toks:=t'}:=I.un (Un.write mu he k heo) (I.hok.write mu he k heo new)
def Inv.weak {σ':List (Option V)}(I:Inv X pins σ H s)(hl:σ'.length=σ.length)(w:∀(i:Nat) v,σ'[i]?=some (some v)→σ[i]?=some (some v)):Inv X pins σ' H s:=
 ⟨I.ok,I.os,I.bare,I.base,let ⟨m,hn,hl'⟩:=I.loc;⟨m,hn,λi x v e1 e2 e3=>hl' i x v e1 (w i v e2) e3⟩,I.cell,I.free,I.freeC,I.pin,I.hok,hl.trans I.len⟩
def Inv.pins_of {pins':Z9}(I:Inv X pins σ H s)(h:∀p∈pins',s.heap.get? p.1=some p.2∧H p.1=none∧p.1≠X.env.locals∧p.1∉X.fs∧∀v,p.2.data≠ .cell v):Inv X pins' σ H s:=
 ⟨I.ok,I.os,I.bare,I.base,I.loc,I.cell,I.free,I.freeC,λp hp=>(mem_append.mp hp).elim (λz=>I.pin p (mem_append_left _ z)) (h p),I.hok,I.len⟩
def tY {N:Zw}(hN:N.Nodup){i j:Nat}{x:Yr}(a:N[i]?=some x)(b:N[j]?=some x):i=j:=by
 obtain⟨h1,e1⟩:=fR a;obtain⟨h2,e2⟩:=fR b;exact(List.getElem_inj hN).mp (e1.trans e2.symm)
def qO {M:Model}{A:Zg}{E:Z6}{i:Nat}{v:V}{Q:Unit→Shared→Prop}(I:Inv X pins σ H s)(hN:X.N.Nodup)(hi:X.N[i]?=some x)(hx:sP X.env.scope x)(r:RelV v u)(h:∀s',Inv X pins (σ.set i (some v)) H s'→(∃a,Heap.SameBut a s.heap s'.heap∧(a=X.env.locals∨X.env.cells.lookup x=some a))→Q () s') (hf:X.fn x=true∨X.env.scope.names.lookup x=some .local:=by first|exact .inl rfl|exact .inr rfl|assumption):wpAny M A (storeName X.env x u) Q E s:=by
 obtain⟨m,hn,hl⟩:=id I.loc;have hcls:(X.env.scope.kind==.class||(X.env.scope.kind==.module&&X.env.locals != X.env.globals))=false:=by rw[I.ok.kind];rfl
 have hiσ:i<σ.length:=by rw[I.len];exact(fR hi).1
 have cne:=I.cne;have B:∀{a:Z2} {h':Heap},(∃o,s.heap.get? a=some o∧H a=none)→Heap.SameBut a s.heap h'→HOk X.prog X.w H h':=λ{a h'} ha l b ob e=>by
  obtain⟨_,_,C⟩:=ha;refine(I.hok b ob e).stay (λc w' hc q=>(l.2 c ?_).trans q) (λ_ q=>q) λ_ _ q=>q;rintro rfl
  rcases hc with rfl|hc
  ·rw[C]at e;cases e
  ·rw[C]at hc;cases hc
 rcases hx with hk|hk
 ·refine wpAny_storeName_local hk hn (λh' hn' l=>?_) hcls;obtain⟨oL,_,_,hoL,_⟩:=id hn;refine h _ ⟨I.ok,I.os,I.bare,⟨λb o e n hb hx=>?_,λb o e n hb hx=>?_,I.base.free,λb o e hx=>?_,I.base.tups,I.base.frzs,I.base.tbls⟩,⟨_,hn',λj y v' t D e3=>?_⟩,λy c e=>?_,I.free,I.freeC,λp hp=>?_,B ⟨oL,hoL,I.free⟩ l,by simpa using I.len⟩ ⟨_,l,.inl rfl⟩
  ·exact(l.2 b (ne_of_lt (lt_of_lt_of_le (Yu e) I.ok.above))).trans (I.base.keep b o e n hb hx)
  ·obtain⟨sl,t⟩:=I.base.slot b o e n hb hx;exact⟨sl,(l.2 b (ne_of_lt (lt_of_lt_of_le (Yu e) I.ok.above))).trans t⟩
  ·obtain⟨o',t⟩:=I.base.there b o e hx;exact⟨o',(l.2 b (ne_of_lt (lt_of_lt_of_le (Yu e) I.ok.above))).trans t⟩
  ·by_cases hj:j=i
   ·subst hj;rw[hi]at t;cases t;rw[getElem?_set_self hiσ]at D;cases D;exact⟨u,r,.inl ⟨hk,by simp⟩⟩
   ·rw[getElem?_set_ne (Ne.symm hj)]at D;obtain⟨u',r',q⟩:=hl j y v' t D e3;refine⟨u',r',?_⟩
    rcases q with ⟨k,e⟩|⟨k,c,e,z⟩
    ·refine .inl ⟨k,?_⟩;have:y≠x:=λe=>hj (tY hN t (e ▸ hi));simp[this,e]
    ·exact .inr ⟨k,c,e,z.sameBut l (cne y c e)⟩
  ·obtain⟨w',z⟩:=I.cell y c e;exact⟨w',z.sameBut l (cne y c e)⟩
  ·obtain⟨e,n,ne,nf,d⟩:=I.pin p hp;exact⟨(l.2 p.1 ne).trans e,n,ne,nf,d⟩
 ·have hfn:X.fn x=true:=by
   rcases hf with z|z
   ·exact z
   ·rw[z]at hk;cases hk
  obtain⟨c,hc⟩:=I.ok.has x (.inl hk);obtain⟨w',z⟩:=I.cell x c hc;refine wpAny_storeName_cell I.ok.kind hk hc z (λh' hc' l=>?_);obtain⟨oc,hoc,hocd⟩:=id z;refine h {s with heap:=h'} ⟨I.ok,I.os,I.bare,⟨λb o e n hb hx=>?_,λb o e n hb hx=>?_,I.base.free,λb o e hx=>?_,I.base.tups,I.base.frzs,I.base.tbls⟩,⟨m,hn.sameBut l (Ne.symm (cne x c hc)),λj y v' t D e3=>?_⟩,λy c' e=>?_,I.free,I.freeC,λp hp=>?_,B ⟨oc,hoc,I.freeC x c hc⟩ l,by simpa using I.len⟩ ⟨c,l,.inr hc⟩
  ·exact(l.2 b (ne_of_lt (lt_of_lt_of_le (Yu e) (I.ok.cab x c hfn hc)))).trans (I.base.keep b o e n hb hx)
  ·obtain⟨sl,t⟩:=I.base.slot b o e n hb hx;exact⟨sl,(l.2 b (ne_of_lt (lt_of_lt_of_le (Yu e) (I.ok.cab x c hfn hc)))).trans t⟩
  ·obtain⟨o',t⟩:=I.base.there b o e hx;exact⟨o',(l.2 b (ne_of_lt (lt_of_lt_of_le (Yu e) (I.ok.cab x c hfn hc)))).trans t⟩
  ·by_cases hj:j=i
   ·subst hj;rw[hi]at t;cases t;rw[getElem?_set_self hiσ]at D;cases D;exact⟨u,r,.inr ⟨.inl hk,c,hc,hc'⟩⟩
   ·rw[getElem?_set_ne (Ne.symm hj)]at D;obtain⟨u',r',q⟩:=hl j y v' t D e3;refine⟨u',r',?_⟩
    rcases q with q|⟨k,c',e,z'⟩
    ·exact .inl q
    ·refine .inr ⟨k,c',e,z'.sameBut l ?_⟩;rintro rfl;exact hj (tY hN t (I.ok.inj _ _ _ e hc ▸ hi))
  ·by_cases hcc:c'=c
   ·subst hcc;exact⟨_,hc'⟩
   ·obtain⟨w2,z2⟩:=I.cell y c' e;exact⟨w2,z2.sameBut l hcc⟩
  ·obtain⟨e,n,ne,nf,d⟩:=I.pin p hp;refine⟨(l.2 p.1 ?_).trans e,n,ne,nf,d⟩;intro q;rw[q,hoc]at e;have q':oc=p.2:=Option.some.inj e;exact d w' (by rw[←q'];exact hocd)
def lO {M:Model}{A:Zg}{E:Z6}{i:Nat}{v:V}{Q:Unit→Shared→Prop}(I:Inv X pins σ H s)(hN:X.N.Nodup)(hi:X.N[i]?=some x)(hx:sP X.env.scope x)(r:RelV v u)(h:∀s',Inv X pins (σ.set i (some v)) H s'→Q () s') (hf:X.fn x=true∨X.env.scope.names.lookup x=some .local:=by first|exact .inl rfl|exact .inr rfl|assumption):wpAny M A (storeName X.env x u) Q E s:=
 qO I hN hi hx r (λs' I' _=>h s' I') hf
def Inv.call' {s':Z3}{ch:Zt}(I:Inv X pins σ H s)(ho:s'.os=s.os)(u:Un (gc X.stack) ch H H' s.heap s'.heap)(hok:HOk X.prog X.w H' s'.heap)(hg:AllBare s'.gens)(hch:∀b∈ch,(b∈X.ex∨X.s₀.heap.objs.size≤b)∧b≠X.env.locals∧(∀x c,X.env.cells.lookup x=some c→c≠b)∧∀p∈X.pn ++ pins,p.1≠b):Inv X pins σ H' s':=by
 obtain⟨h',g',d',t',o'⟩:=s';have e:o'=s.os:=ho;subst e;exact I.call (g':=g') (t':=t') (d':=d') u hok hg hch
end
abbrev XK:=Value→Option Addr→Hp→Prop
abbrev St:=List (Option V)
abbrev VK:=V→Hp→Prop
abbrev TE:=St→Hp→VK→Prop
abbrev TT:=St→Hp→(Bool→Hp→Prop)→Prop
abbrev TA:=St→Hp→(List V→Hp→Prop)→Prop
structure Ends where
 nx:St→Hp→Prop
 rt:VK
 bk:St→Hp→Prop:=λ_ _=>False
 ct:St→Hp→Prop:=λ_ _=>False
abbrev TS:=Ends→St→Hp→Prop
inductive EP (X:Cx)(pins:Z9)(σ:St)(Q:VK)(u:Zc)(s':Z3):Prop
 |mk (v:V) (H':Hp) (i:Inv X pins σ H' s') (r:RelV v u) (q:Q v H')
inductive TP (X:Cx)(pins:Z9)(σ:St)(Q:Bool→Hp→Prop)(b:Bool)(s':Z3):Prop
 |mk (H':Hp) (i:Inv X pins σ H' s') (q:Q b H')
inductive AP (X:Cx)(pins:Z9)(σ:St)(Q:List V→Hp→Prop)(us:Z0)(s':Z3):Prop
 |mk (vs:List V) (H':Hp) (i:Inv X pins σ H' s') (r:Vals vs us) (q:Q vs H')
inductive SN (X:Cx)(pins:Z9)(P:St→Hp→Prop)(s':Z3):Prop
 |mk (σ':St) (H':Hp) (i:Inv X pins σ' H' s') (q:P σ' H')
inductive SRt (X:Cx)(pins:Z9)(P:VK)(u:Zc)(s':Z3):Prop
 |mk (v:V) (σ':St) (H':Hp) (i:Inv X pins σ' H' s') (r:RelV v u) (q:P v H')
def SP (X:Cx)(pins:Z9)(D:Ends)(f:Flow)(s':Z3):Prop:=
 match f with
 |.next=>SN X pins D.nx s'
 |.brk=>SN X pins D.bk s'
 |.cont=>SN X pins D.ct s'
 |.ret u=>SRt X pins D.rt u s'
def PE (X:Cx)(e:Y3)(t:TE):Prop:=
 ∀(pins:Z9) (s:Z3) (σ:St) (H:Hp) (Q:VK),Inv X pins σ H s→t σ H Q→wpAny (model X.prog X.w) X.A (eval e X.env) (EP X pins σ Q) X.xe s
def PT (X:Cx)(e:Y3)(t:TT):Prop:=
 ∀(pins:Z9) (s:Z3) (σ:St) (H:Hp) (Q:Bool→Hp→Prop),Inv X pins σ H s→t σ H Q→wpAny (model X.prog X.w) X.A (isTrue e X.env (eval e X.env)) (TP X pins σ Q) X.xe s
def PA (X:Cx)(es:Ze)(t:TA):Prop:=
 ∀(pos:Ys) (pins:Z9) (s:Z3) (σ:St) (H:Hp) (Q:List V→Hp→Prop),Inv X pins σ H s→t σ H Q→wpAny (model X.prog X.w) X.A (spliced (backTo pos (starEach es X.env))) (AP X pins σ Q) X.xe s
def PS (X:Cx)(st:Yq)(t:TS):Prop:=
 ∀(pins:Z9) (s:Z3) (σ:St) (H:Hp) (D:Ends),Inv X pins σ H s→t D σ H→wpAny (model X.prog X.w) X.A (exec st X.env) (SP X pins D) X.xe s
def FL (X:Cx)(st:List Stmt)(t:TS):Prop:=
 ∀(pins:Z9) (s:Z3) (σ:St) (H:Hp) (D:Ends),Inv X pins σ H s→t D σ H→wpAny (model X.prog X.w) X.A (execs st X.env) (SP X pins D) X.xe s
def aV {α:Type}{t:Sem α}{Q Q':α→Shared→Prop}{M:Model}{A:Zg}{E:Z6}{s:Z3}(h:wpAny M A t Q E s)(hQ:∀a s,Q a s→Q' a s):wpAny M A t Q' E s:=wpAny_mono h hQ λ_ _ x=>x
section
variable{X:Cx}
def Fz (i:Nat):TE:=λσ H Q=>∃v,σ[i]?=some (some v)∧Q v H
def tC (v:V):TE:=λ_ H Q=>Q v H
def en {i:Nat}(hN:X.N[i]?=some x)(hv:uJ X.env.scope x)(hd:zQ1 x:=by decide)(hcd:(x==("__classdict__" :Str))=false:=by decide):PE X (.Name x pos) (Fz i):=by
 intro pins s σ H Q I h;obtain⟨v,e,h⟩:=h;obtain⟨m,hn,hl⟩:=I.loc;obtain⟨u,r,l⟩:=hl i x v hN e hv;have fin:EP X pins σ Q u s:=⟨v,H,I,r,h⟩
 rcases l with ⟨hk,hm⟩|⟨hk,c,hc,n⟩
 ·exact wpAny_Name (wpAny_loadName_local I.ok.kind hk hn hm fin) hd
 ·rcases hk with hk|hk
  ·exact wpAny_Name (wpAny_loadName_cell I.ok.kind hk hc n fin) hd
  ·exact wpAny_Name (wpAny_loadName_free I.ok.kind hk hc n fin hcd) hd
def zZ {i j pos}:PE X (.Constant (.int i) j pos) (tC (.int i)):=λ_ _ _ H _ I h=>wpAny_Constant_int ⟨.int i,H,I.tok _,⟨_,rfl⟩,h⟩
def GP {b j pos}:PE X (.Constant (.bool b) j pos) (tC (.bl b)):=λ_ _ _ H _ I h=>Constant_bool ⟨.bl b,H,I,rfl,h⟩
def E_ {j pos}:PE X (.Constant .none j pos) (tC .non):=λ_ _ _ H _ I h=>Constant_none ⟨.non,H,I,rfl,h⟩
def Fd {x j pos}:PE X (.Constant (.str x) j pos) (tC (.str x)):=λ_ _ _ H _ I h=>Calls.Constant_str ⟨.str x,H,I.tok _,⟨_,rfl⟩,h⟩
def Gl (X:Cx)(x:Yr):Prop:=X.env.kindOf x=some .globalImplicit
def jY {E:Z6}{pins:Z9}{s:Z3}{σ:St}{H:Hp}{pos:Ys}{Q:Z6}(I:Inv X pins σ H s)(hg:Gl X x)(hm:X.mg x=some u)(h:Q u s)(hd:zQ1 x:=by decide):wpAny (model X.prog X.w) X.A (eval (.Name x pos) X.env) Q E s:=
 Calls.Name_function_global I.ok.kind hg (Calls.loadGlobal_global (by rw[I.ok.glob];exact I.mod.glob.keeps I.bk) hm h) hd
def iK {E:Z6}{pins:Z9}{s:Z3}{σ:St}{H:Hp}{pos:Ys}{Q:Z6}(I:Inv X pins σ H s)(hg:Gl X x)(hm:X.mg x=none)(hv:bootBuiltins x=some u)(h:Q u s)(hn:x≠ "__name__" :=by decide) (hd:zQ1 x:=by decide):wpAny (model X.prog X.w) X.A (eval (.Name x pos) X.env) Q E s:=by
 obtain⟨mb,h1,h2⟩:=I.mod.blt;exact Calls.Name_function_global I.ok.kind hg (Calls.loadGlobal_builtin (by rw[I.ok.glob];exact I.mod.glob.keeps I.bk) hm (by rw[I.ok.blt];exact h1.keeps I.bk) ((h2 x hn).trans hv) h) hd
def wL {v:V}(hg:Gl X x)(hm:X.mg x=some u)(r:RelV v u)(hd:zQ1 x:=by decide):PE X (.Name x pos) (tC v):=
 λ_ _ _ H _ I h=>jY I hg hm ⟨v,H,I,r,h⟩ hd
def sf {v:V}(hg:Gl X x)(hm:X.mg x=none)(hv:bootBuiltins x=some u)(r:RelV v u)(hn:x≠ "__name__" :=by decide)(hd:zQ1 x:=by decide):PE X (.Name x pos) (tC v):=
 λ_ _ _ H _ I h=>iK I hg hm hv ⟨v,H,I,r,h⟩ hn hd
variable{a b:Y3}{ta tb:TE}{pos:Pos}
variable{tA tB':TT}{rest:List Expr}
end
def gy (K:Z8)(H:Hp)(a:Z2)(xs:List V):Prop:=
 Rd H a (.lst xs)∨
  ∃(o:Obj) (its:Array Value) (n:Nat),K.lookup a=some o∧o.cls= .type "list" ∧o.dict=none∧o.data= .seq its n∧its.size≤sizeLine∧Vals xs its.toList
def nr (K:Z8)(H:Hp)(a:Z2)(xs:List V):Prop:=
 Rd H a (.tup xs)∨
  ∃(o:Obj) (its:Array Value) (n:Nat),K.lookup a=some o∧o.cls= .type "tuple" ∧o.data= .seq its n∧its.size≤sizeLine∧Vals xs its.toList
def Hw:Value→Option V
 |.none=>some .non
 |.bool b=>some (.bl b)
 |.int i _=>some (.int i)
 |.str x _=>some (.str x)
 |.bytes b _=>some (.byt b)
 |.float b _=>some (.flt b)
 |.ref a=>some (.ref a)
 |.type n=>some (.ty n)
 |_=>none
def RelV.abs {x:V}(r:RelV x u):Hw u=some x:=by
 cases x with
 |non=>cases r;rfl
 |bl _=>cases r;rfl
 |int _=>obtain⟨t,rfl⟩:=r;rfl
 |str _=>obtain⟨t,rfl⟩:=r;rfl
 |byt _=>obtain⟨t,rfl⟩:=r;rfl
 |flt _=>obtain⟨t,rfl⟩:=r;rfl
 |ref _=>cases r;rfl
 |ty _=>cases r;rfl
def RelV.inj {x y:V}(r:RelV x u)(q:RelV y u):x=y:=Option.some.inj (r.abs.symm.trans q.abs)
theorem Vals.inj:∀{xs ys:List V} {us:List Value},Vals xs us→Vals ys us→xs=ys
 |_,_,_,.nil,.nil=>rfl
 |_,_,_,.cons r t,.cons r' t'=>by rw[r.inj r',Vals.inj t t']
section
variable{X:Cx}{pins:Z9}{σ:St}{H:Hp}{s:Z3}{a:Z2}{xs ys:List V}
def Inv.list (I:Inv X pins σ H s)(h:gy X.K H a xs):∃its:List Value,Vals xs its∧PlainL s.heap a its.toArray∧xs.length≤sizeLine:=by
 rcases h with h|⟨o,its,n,hk,hc,hd,hs,hz,r⟩
 ·obtain⟨z,its,n,r,e⟩:=h.ok I.hok;exact⟨its,r,⟨_,n,e,rfl,rfl,rfl⟩,z⟩
 ·refine⟨its.toList,r,⟨o,n,I.kIn a o hk,hc,hd,by simpa using hs⟩,?_⟩;have e:=r.length;simp only[length_toList]at e;omega
def Inv.tuple (I:Inv X pins σ H s)(h:nr X.K H a xs):∃its:List Value,Vals xs its∧IsTup s.heap a its.toArray∧xs.length≤sizeLine:=by
 rcases h with h|⟨o,its,n,hk,hc,hs,hz,r⟩
 ·obtain⟨z,its,r,p⟩:=h.ok I.hok;exact⟨its,r,p,z⟩
 ·refine⟨its.toList,r,⟨o,I.kIn a o hk,hc,n,by simpa using hs⟩,?_⟩;have e:=r.length;simp only[length_toList]at e;omega
def Inv.list_inj (I:Inv X pins σ H s)(h:gy X.K H a xs)(h':gy X.K H a ys):xs=ys:=by
 obtain⟨its,r,⟨o,n,e,_,_,d⟩,_⟩:=I.list h;obtain⟨its',r',⟨o',n',e',_,_,d'⟩,_⟩:=I.list h';rw[e]at e';cases e';rw[d]at d';injection d' with d1 _
 have:its=its':=by simpa using congrArg toList d1
 subst this;exact r.inj r'
def Inv.tuple_inj (I:Inv X pins σ H s)(h:nr X.K H a xs)(h':nr X.K H a ys):xs=ys:=by
 obtain⟨its,r,⟨o,e,_,n,d⟩,_⟩:=I.tuple h;obtain⟨its',r',⟨o',e',_,n',d'⟩,_⟩:=I.tuple h';rw[e]at e';cases e';rw[d]at d';injection d' with d1 _
 have:its=its':=by simpa using congrArg toList d1
 subst this;exact r.inj r'
end
section
variable{X:Cx}{pins:Z9}{σ:St}{H:Hp}{s:Z3}{E:Value→Shared→Prop}
end
section
variable{X:Cx}{st:Yq}{rest:List Stmt}{t u:TS}{e:Y3}{te:TE}{pos:Pos}
def Ie (t u:TS):TS:=λD σ H=>t {D with nx:=u D} σ H
def uk (h1:PS X st t)(h2:FL X rest u):FL X (st::rest) (Ie t u):=by
 intro pins s σ H D I h;refine wpAny_execs_cons (aV (h1 pins s σ H {D with nx:=u D} I h) λf s1 q=>?_)
 cases f with
 |next=>
  obtain⟨σ',H',I',q⟩:=q;exact h2 pins s1 σ' H' D I' q
 |ret v=>exact q
 |brk=>exact q
 |cont=>exact q
def wW (h1:PS X st t):FL X [st] t:=by
 intro pins s σ H D I h;refine wpAny_execs_cons (aV (h1 pins s σ H D I h) λf s1 q=>?_);cases f with
 |next=>exact wpAny_execs_nil q
 |ret v=>exact q
 |brk=>exact q
 |cont=>exact q
def Inv.quiet {pins:Z9}{σ:St}{H:Hp}{s:Z3}(I:Inv X pins σ H s):interactive X.env=false:=by simp[interactive,I.ok.kind]
def Hd (te:TE):TS:=λD σ H=>te σ H λ_ H1=>D.nx σ H1
def fK (he:PE X e te)(hs:swapsWith e none pos.line X.env=pure false:=by rfl):PS X (.Expr e pos) (Hd te):=by
 intro pins s σ H D I h;exact wpAny_Expr_any (aV (he pins s σ H _ I h) λv s1 hZ52=>(by obtain⟨x,H1,I1,r1,q1⟩:=hZ52;exact⟨σ,H1,I1,q1⟩)) I.quiet hs
def Ia (te:TE):TS:=λD σ H=>te σ H D.rt
def su (he:PE X e te):PS X (.Return (some e) pos) (Ia te):=by
 intro pins s σ H D I h;exact wpAny_Return_some (aV (he pins s σ H _ I h) λv s1 hZ53=>(by obtain⟨x,H1,I1,r1,q1⟩:=hZ53;exact⟨x,σ,H1,I1,r1,q1⟩))
end
abbrev TG:=V→St→Hp→(St→Hp→Prop)→Prop
abbrev DJ:=List V→St→Hp→(St→Hp→Prop)→Prop
def PG (X:Cx)(target:Y3)(t:TG):Prop:=
 ∀(pins:Z9) (s:Z3) (σ:St) (H:Hp) (v:V) (u:Zc) (Q:St→Hp→Prop),Inv X pins σ H s→RelV v u→t v σ H Q→
  wpAny (model X.prog X.w) X.A (assign target X.env u) (λ_ s'=>SN X pins Q s') X.xe s
def Hk (X:Cx)(ts:Ze)(t:DJ):Prop:=
 ∀(pins:Z9) (s:Z3) (σ:St) (H:Hp) (vs:List V) (us:Z0) (Q:St→Hp→Prop),Inv X pins σ H s→Vals vs us→t vs σ H Q→
  wpAny (model X.prog X.w) X.A (assignInOrder ((assignEach ts X.env).map (·.2)) us) (λ_ s'=>SN X pins Q s') X.xe s
abbrev DK:=V→V→V→Hp→(Hp→Prop)→Prop
def FW (X:Cx)(t:DK):Prop:=
 ∀(pins:Z9) (s:Z3) (σ:St) (H:Hp) (o i v:V) (ov iv u:Zc) (Q:Hp→Prop),Inv X pins σ H s→RelV o ov→RelV i iv→RelV v u→t o i v H Q→
  wpAny (model X.prog X.w) X.A (setItem ov iv u) (λ_ s'=>∃H',Inv X pins σ H' s'∧Q H') X.xe s
section
variable{X:Cx}{pos:Pos}
def cC (i:Nat):TG:=λv σ H Q=>Q (σ.set i (some v)) H
def eG {i:Nat}(hN:X.N.Nodup)(hi:X.N[i]?=some x)(hx:sP X.env.scope x)(hf:X.fn x=true∨X.env.scope.names.lookup x=some .local:=by first|exact .inl rfl|exact .inr rfl|assumption):PG X (.Name x pos) (cC i):=by
 intro pins s σ H v u Q I r h;exact wpAny_assign_Name (lO I hN hi hx r (λs' I'=>⟨_,H,I',h⟩) hf)
def xI:DJ:=λvs σ H Q=>vs=[]∧Q σ H
def jw (t:TG)(u:DJ):DJ:=λvs σ H Q=>∃v r,vs=v::r∧t v σ H λσ' H'=>u r σ' H' Q
def sk:Hk X [] xI:=by
 intro pins s σ H vs us Q I r h;obtain⟨e,h⟩:=h;subst e;cases r;exact assignInOrder_nil ⟨σ,H,I,h⟩
def hJ {t:TG}{u:DJ}(h1:PG X e t)(h2:Hk X es u)(hs:(assignEach (e::es) X.env).map (·.2)=assign e X.env::(assignEach es X.env).map (·.2):=by rfl):Hk X (e::es) (jw t u):=by
 intro pins s σ H vs us Q I r h;obtain⟨v,vr,e1,h⟩:=h;subst e1;cases r with
 |cons r rr=>
  rw[hs];refine assignInOrder_cons (aV (h1 pins s σ H _ _ _ I r h) λ_ s1 hZ54=>?_);obtain⟨σ1,H1,I1,q1⟩:=hZ54;exact h2 pins s1 σ1 H1 _ _ Q I1 rr q1
def xJ (K:Z8)(n:Nat)(t:DJ):TG:=λv σ H Q=>∃a xs,v= .ref a∧nr K H a xs∧xs.length=n∧t xs σ H Q
def vx {k:Nat}{t:DJ}{n:Nat}(hc:X.calm=true)(h:Hk X es t)(hn:(assignEach es X.env).length=n:=by rfl) (hst:(assignEach es X.env).findIdx? (·.1)=none:=by rfl):PG X (.Tuple es k pos) (xJ X.K n t):=by
 intro pins s σ H v u Q I r hw;obtain⟨a,xs,e1,hq,hl,hw⟩:=hw;subst e1;cases r;obtain⟨its,rv,ht,hz⟩:=I.tuple hq;refine assign_Tuple_tuple (I.ok.hd hc) ht (by simp[hn,←hl,rv.length]) hst λh' hx=>?_;have I1:Inv X pins σ H {s with heap:=h'}:=I.kept (t':=s.toks) λb o e=>hx b o (ne_of_lt (Yu e)) e
 exact h pins _ σ H xs _ Q I1 (by simpa using rv) hw
def HD (to ti:TE)(t:DK):TG:=λv σ H Q=>to σ H λo H1=>ti σ H1 λi H2=>t o i v H2 λH3=>Q σ H3
def Fe {to ti:TE}{t:DK}(ho:PE X o to)(hi:PE X i ti)(hs:FW X t)(ha:∀v,assign (.Subscript o i pos) X.env v=(do
   let ov ←holding [v] (eval o X.env)
   let iv ←holding [v,ov] (eval i X.env)
   standAt pos
   holding [v,ov,iv] (setItem ov iv v)
   release [v,ov,iv] []):=by intro _;rfl):PG X (.Subscript o i pos) (HD to ti t):=by
 intro p s σ H v u Q I r h;rw[ha];refine Zx (wpAny_holding (aV (ho p s σ H _ I h) λov s1 hZ55=>?_));obtain⟨x,H1,I1,r1,q1⟩:=hZ55;refine Zx (wpAny_holding (aV (hi p s1 σ H1 _ I1 q1) λiv s2 hZ56=>?_));obtain⟨y,H2,I2,r2,q2⟩:=hZ56;refine Zx (wpAny_standAt (Zx (wpAny_holding (aV (hs p s2 σ H2 x y v ov iv u _ I2 r1 r2 r q2) λ_ s3 hZ57=>?_))));obtain⟨H3,I3,q3⟩:=hZ57;exact wpAny_release ⟨σ,H3,I3,q3⟩
def uz (te:TE)(g:TG):TS:=λD σ H=>te σ H λx H1=>g x σ H1 D.nx
def Fo {te:TE}{g:TG}(he:PE X e te)(hg:PG X tg g)(hs:swapsWithSole [tg] e pos.line X.env=pure false:=by rfl)(hw:swappedStores [tg] e X.env=pure none:=by rfl)(h1:(assignEach [tg] X.env).map (·.2)=[assign tg X.env]:=by rfl):PS X (.Assign [tg] e pos) (uz te g):=by
 intro pins s σ H D I h;refine wpAny_Assign_stores (aV (he pins s σ H _ I h) λv s1 hZ58=>?_) hs hw;obtain⟨x,H1,I1,r1,q1⟩:=hZ58;rw[h1];exact aV (hg pins s1 σ H1 x v _ I1 r1 q1) λ_ s2 q=>q
def Fq {i:Nat}{te:TE}(hN:X.N.Nodup)(hi:X.N[i]?=some x)(hx:sP X.env.scope x)(he:PE X e te)(hs:swapsWith e (some (.Name x pos')) pos.line X.env=pure false:=by rfl)(hf:X.fn x=true∨X.env.scope.names.lookup x=some .local:=by first|exact .inl rfl|exact .inr rfl|assumption) :
  PS X (.Assign [.Name x pos'] e pos) (uz te (cC i)):=by
 intro pins s σ H D I h;refine wpAny_Assign_Name (aV (he pins s σ H _ I h) λv s1 hZ59=>?_) hs;obtain⟨y,H1,I1,r1,q1⟩:=hZ59;exact lO I1 hN hi hx r1 (λs2 I2=>⟨_,H1,I2,q1⟩) hf
end
structure It where
 go:Nat→Hp→Prop
 yld:Nat→Hp→V→Hp→Prop
 stop:Nat→Hp→Prop
def jc (X:Cx)(pins:Z9)(H:Hp)(b:Z2):Prop:=
 H b=none∧b≠X.env.locals∧b∉X.fs∧(b∈X.ex∨X.s₀.heap.objs.size≤b)∧(∀x c,X.env.cells.lookup x=some c→c≠b)∧∀p∈X.pn ++ pins,p.1≠b
def Inv.fpOk {X:Cx}{pins:Z9}{σ:St}{H H':Hp}{s:Z3}(I:Inv X pins σ H s)(hb:s.heap.objs.size≤b)(hn:H' b=none):jc X pins H' b:=by
 refine⟨hn,ne_of_gt (lt_of_lt_of_le I.lt hb),I.nofs hb,.inr (le_trans I.sz hb),λx c e z=>?_,λp hp z=>?_⟩
 ·obtain⟨v,q⟩:=I.cell x c e;exact absurd (lt_of_lt_of_le q.lt (by rw[z];exact hb)) (lt_irrefl _)
 ·exact absurd (lt_of_lt_of_le (Yu (I.pin p hp).1) (by rw[z];exact hb)) (lt_irrefl _)
structure Turn (P:Zv)(w:Zk)(K:Z8)(tg:Y3)(J:It)(fp:Zt)(it:Z2)(tn:Nat→Heap→Prop):Prop where
 mem:it∈fp
 obj:∀i h,tn i h→∀b∈fp,∃o,h.get? b=some o∧∀v,o.data≠ .cell v
 keep:∀i h h',tn i h→(∀b∈fp,∀o,h.get? b=some o→h'.get? b=some o)→tn i h'
 item:∀(X:Cx),X.prog=P→X.w=w→X.K=K→X.calm=true→∀(i:Nat) (pins:Z9) (s:Z3) (σ:St) (H:Hp) (E:Value→Shared→Prop),Inv X pins σ H s→(∀b∈fp,jc X pins H b)→tn i s.heap→J.go i H→
  wpAny (model P w) X.A (pyNext (.ref it)) (λr s1=>∃u,r=some u∧
   wpAny (model P w) X.A (letOwnedTupleGo tg (.ref it) u) (λ_ s2=>∃x H',Inv X pins σ H' s2∧RelV x u∧J.yld i H x H'∧tn (i+1) s2.heap∧∀b∈fp,H' b=none) E s1) E s
 done:∀(X:Cx),X.prog=P→X.w=w→X.K=K→X.calm=true→∀(i:Nat) (pins:Z9) (s:Z3) (σ:St) (H:Hp) (E:Value→Shared→Prop),Inv X pins σ H s→(∀b∈fp,jc X pins H b)→tn i s.heap→J.stop i H→
  wpAny (model P w) X.A (pyNext (.ref it)) (λr s1=>r=none∧Inv X pins σ H s1) E s
 self:∀(A:Zg) (i:Nat) (s:Z3) (Q:Z6) (E:Value→Shared→Prop),tn i s.heap→Q (.ref it) s→wpAny (model P w) A (pyIter (.ref it)) Q E s
abbrev TI:=St→Hp→(It→Hp→Prop)→Prop
inductive PIE (X:Cx)(pins:Z9)(σ:St)(tg:Y3)(R:It→Hp→Prop)(itv:Zc)(s2:Z3):Prop
 |mk (it:Z2) (fp:Zt) (tn:Nat→Heap→Prop) (J:It) (H':Hp) (e:itv= .ref it) (i:Inv X pins σ H' s2) (T:Turn X.prog X.w X.K tg J fp it tn) (st:tn 0 s2.heap) (f:∀b∈fp,jc X pins H' b) (q:R J H')
def PI (X:Cx)(tg iter:Y3)(wi:TI):Prop:=
 ∀(pins:Z9) (s:Z3) (σ:St) (H:Hp) (R:It→Hp→Prop),Inv X pins σ H s→wi σ H R→
  wpAny (model X.prog X.w) X.A (eval iter X.env) (λv s1=>wpAny (model X.prog X.w) X.A (pyIter v) (PIE X pins σ tg R) X.xe s1) X.xe s
def tL {M:Model}{A:Zg}{E:Z6}{s:Z3}{tg:Y3}{u:Zc}{o:Obj}{n:String}{vs:Array Value}{Q:Unit→Shared→Prop}(ho:s.heap.get? it=some o)(hc:o.cls= .type n)(hd:o.data= .fields vs)(hn:["enumerate","zip","dict_itemiterator","dict_reverseitemiterator","odict_iterator","itertools.zip_longest","itertools.pairwise"].contains n=false) (hQ:Q () s):wpAny M A (letOwnedTupleGo tg (.ref it) u) Q E s:=by
  unfold letOwnedTupleGo;cases tg <;> first
    |exact Zq hQ
    | (cases u <;> first
        |exact Zq hQ
        | (refine Zx (wpAny_load ho ?_)
           rw[hc,hd];show wpAny M A (if (["enumerate","zip","dict_itemiterator","dict_reverseitemiterator","odict_iterator","itertools.zip_longest","itertools.pairwise"].contains n&&vs[0]?==some (rawInt _))=true then _ else _) Q E s
           rw[Ym (by intro h;rw[hn,Bool.false_and]at h;cases h)];exact Zq hQ))
def Da (K:Z8)(a:Z2):It:=
 ⟨λi H=>∃xs x,gy K H a xs∧xs[i]?=some x,λi H x H'=>H'=H∧∀xs,gy K H a xs→xs[i]?=some x,λi H=>∃xs,gy K H a xs∧xs.length≤i⟩
def Hi (K:Z8)(a:Z2):It:=
 ⟨λi H=>∃xs x,nr K H a xs∧xs[i]?=some x,λi H x H'=>H'=H∧∀xs,nr K H a xs→xs[i]?=some x,λi H=>∃xs,nr K H a xs∧xs.length≤i⟩
def FR (lo:Int)(n:Nat):It:=⟨λi _=>i<n,λi H x H'=>H'=H∧x= .int (lo+i),λi _=>n≤i⟩
def yt {P:Zv}{w:Zk}{K:Z8}(a it:Z2):Turn P w K tg (Da K a) [it] it (λi h=>h.IsListIter it a i) where
 mem:=by simp
 obj:=λi h q b hb=>by
  have e:b=it:=by simpa using hb
  subst e;obtain⟨o,e,c,d⟩:=q;exact⟨o,e,λv z=>by rw[d]at z;cases z⟩
 keep:=λi h h' q k=>q.at λo e=>k it (by simp) o e
 item:=by
  intro X hP hw hK hc i pins s σ H E I hf q hg;subst hP hw hK;obtain⟨xs,x,hq,hx⟩:=hg;obtain⟨its,rv,p,hz⟩:=I.list hq;obtain⟨u,hu,ru⟩:=rv.get hx;obtain⟨f0,f1,f2,f3,f4,f5⟩:=hf it (by simp);refine wpAny_pyNext_list_item q p.isList (x:=u) (by simpa using hu) λh' st' sb=>?_;have I1:Inv X pins σ H {s with heap:=h'}:=I.turned (t':=s.toks) (λb o hb e=>(sb.2 b hb).trans e) f0 f1 f3 f4 f5
  obtain⟨o,e,c,d⟩:=id st';exact⟨u,rfl,tL (s:={s with heap:=h'}) e c d (by decide) ⟨x,H,I1,ru,⟨rfl,λys hy=>by rw[I.list_inj hy hq];exact hx⟩,st',λb hb=>(hf b hb).1⟩⟩
 done:=by
  intro X hP hw hK hc i pins s σ H E I hf q hg;subst hP hw hK;obtain⟨xs,hq,hx⟩:=hg;obtain⟨its,rv,p,hz⟩:=I.list hq;obtain⟨f0,f1,f2,f3,f4,f5⟩:=hf it (by simp);have hl:=rv.length;exact wpAny_pyNext_list_end (I.ok.hd hc) q p.isList (by simp;omega) λh' eb=>⟨rfl,I.turned (t':=s.toks) (λb o hb e=>eb b o hb e) f0 f1 f3 f4 f5⟩
 self:=λ_ _ _ _ _ q h=>wpAny_pyIter_listiter q h
def vK {P:Zv}{w:Zk}{K:Z8}(a it:Z2):Turn P w K tg (Hi K a) [it] it (λi h=>h.IsTupleIter it a i) where
 mem:=by simp
 obj:=λi h q b hb=>by
  have e:b=it:=by simpa using hb
  subst e;obtain⟨o,e,c,d⟩:=q;exact⟨o,e,λv z=>by rw[d]at z;cases z⟩
 keep:=λi h h' q k=>q.at λo e=>k it (by simp) o e
 item:=by
  intro X hP hw hK hc i pins s σ H E I hf q hg;subst hP hw hK;obtain⟨xs,x,hq,hx⟩:=hg;obtain⟨its,rv,p,hz⟩:=I.tuple hq;obtain⟨u,hu,ru⟩:=rv.get hx;obtain⟨f0,f1,f2,f3,f4,f5⟩:=hf it (by simp);refine wpAny_pyNext_tuple_item q (show s.heap.IsTuple a its.toArray from p) (x:=u) (by simpa using hu) λh' st' sb=>?_;have I1:Inv X pins σ H {s with heap:=h'}:=I.turned (t':=s.toks) (λb o hb e=>(sb.2 b hb).trans e) f0 f1 f3 f4 f5
  obtain⟨o,e,c,d⟩:=id st';exact⟨u,rfl,tL (s:={s with heap:=h'}) e c d (by decide) ⟨x,H,I1,ru,⟨rfl,λys hy=>by rw[I.tuple_inj hy hq];exact hx⟩,st',λb hb=>(hf b hb).1⟩⟩
 done:=by
  intro X hP hw hK hc i pins s σ H E I hf q hg;subst hP hw hK;obtain⟨xs,hq,hx⟩:=hg;obtain⟨its,rv,p,hz⟩:=I.tuple hq;obtain⟨f0,f1,f2,f3,f4,f5⟩:=hf it (by simp);have hl:=rv.length;exact wpAny_pyNext_tuple_end (I.ok.hd hc) q (show s.heap.IsTuple a its.toArray from p) (by simp;omega) λh' eb=>⟨rfl,I.turned (t':=s.toks) (λb o hb e=>eb b o hb e) f0 f1 f3 f4 f5⟩
 self:=λ_ _ _ _ _ q h=>wpAny_pyIter_tupleiter q h
def vJ {P:Zv}{w:Zk}{K:Z8}(it:Z2)(lo:Int)(n:Nat):Turn P w K tg (FR lo n) [it] it (λi h=>IsRangeIter h it (lo+(i:Nat)*1) ((n:Int)-(i:Nat)) 1) where
 mem:=by simp
 obj:=λi h p b hb=>by
  have e:b=it:=by simpa using hb
  subst e;exact⟨_,p,λv z=>by
   have z':Data.fields _=Data.cell v:=z;cases z'⟩
 keep:=λi h h' p k=>k it (by simp) _ p
 item:=by
  intro X hP hw hK hc i pins s σ H E I hf p hg;subst hP hw hK;obtain⟨f0,f1,f2,f3,f4,f5⟩:=hf it (by simp);have W:=Walks.range (prog:=X.prog) (w:=X.w) (I.ok.hd hc) it lo 1 n;refine W.item i s _ _ hg p λv h' tk hv st' kk=>?_;obtain⟨t,rfl⟩:=hv;have I1:Inv X pins σ H {s with heap:=h',toks:=tk}:=I.turned (λb o hb e=>kk b o (by simpa using hb) e) f0 f1 f3 f4 f5
  refine⟨_,rfl,tL (s:={s with heap:=h',toks:=tk}) (n:= "range_iterator") st' rfl rfl (by decide) ⟨.int (lo+i),H,I1,⟨t,?_⟩,⟨rfl,rfl⟩,st',λb hb=>(hf b hb).1⟩⟩
  rw[Int.mul_one]
 done:=by
  intro X hP hw hK hc i pins s σ H E I hf p hg;subst hP hw hK;obtain⟨f0,f1,f2,f3,f4,f5⟩:=hf it (by simp);exact wpAny_pyNext_range_end (I.ok.hd hc) p (by have:n≤i:=hg;omega) λh' eb=>⟨rfl,I.turned (t':=s.toks) (λb o hb e=>eb b o hb e) f0 f1 f3 f4 f5⟩
 self:=λ_ _ _ _ _ p h=>wpAny_pyIter_rangeiter p h
section
variable{X:Cx}{tg:Expr}
def Gk (K:Z8)(tl:TE):TI:=λσ H R=>tl σ H λx H1=>∃a,x= .ref a∧(∃xs,gy K H1 a xs)∧R (Da K a) H1
def HF (K:Z8)(tl:TE):TI:=λσ H R=>tl σ H λx H1=>∃a,x= .ref a∧(∃xs,nr K H1 a xs)∧R (Hi K a) H1
def sm {tl:TE}(hl:PE X l tl):PI X tg l (Gk X.K tl):=by
 intro pins s σ H R I h;refine aV (hl pins s σ H _ I h) λv s1 hZ60=>?_;obtain⟨x,H1,I1,r1,q1⟩:=hZ60;obtain⟨a,e,⟨xs,hq⟩,q⟩:=q1;subst e;cases r1;obtain⟨its,rv,p,hz⟩:=I1.list hq;refine wpAny_pyIter_list p.isList ?_;refine⟨s1.heap.objs.size,[s1.heap.objs.size],_,_,H1,rfl,I1.kept (t':=s1.toks) λb o e=>Heap.get?_push_of_some _ e,yt a _,⟨_,Heap.get?_push_size _ rfl,rfl,rfl⟩,λb hb=>?_,q⟩;have e:b=s1.heap.objs.size:=by simpa using hb
 subst e;exact I1.fpOk (le_refl _) (I1.hok.fresh (le_refl _))
def Ff {tl:TE}(hl:PE X l tl):PI X tg l (HF X.K tl):=by
 intro pins s σ H R I h;refine aV (hl pins s σ H _ I h) λv s1 hZ61=>?_;obtain⟨x,H1,I1,r1,q1⟩:=hZ61;obtain⟨a,e,⟨xs,hq⟩,q⟩:=q1;subst e;cases r1;obtain⟨its,rv,p,hz⟩:=I1.tuple hq;refine wpAny_pyIter_tuple (show s1.heap.IsTuple a its.toArray from p) ?_;refine⟨s1.heap.objs.size,[s1.heap.objs.size],_,_,H1,rfl,I1.kept (t':=s1.toks) λb o e=>Heap.get?_push_of_some _ e,vK a _,⟨_,Heap.get?_push_size _ rfl,rfl,rfl⟩,λb hb=>?_,q⟩;have e:b=s1.heap.objs.size:=by simpa using hb
 subst e;exact I1.fpOk (le_refl _) (I1.hok.fresh (le_refl _))
def ul {pins:Z9}{σ:St}{H:Hp}{s:Z3}{R:It→Hp→Prop}{E:Z6}{lo hi:Int}{t u v:Tok}{tk:Nat}(I:Inv X pins σ H s)(h1: -(2 ^ 62)≤lo)(h2:lo<2 ^ 62)(h3: -(2 ^ 62)≤hi)(h4:hi<2 ^ 62)(q:R (FR lo (hi-lo).toNat) H):wpAny (model X.prog X.w) X.A (pyIter (.ref s.heap.objs.size)) (PIE X pins σ tg R) E {s with heap:=s.heap.push {cls:=.type "range",data:=.fields #[.int lo t,.int hi u,.int 1 v]},toks:=tk}:=by
 refine wpAny_pyIter_range (IsRange.new ..) (small_one h1 h2 h3 h4) ?_;have I1:Inv X pins σ H {s with heap:=s.heap.push {cls:=.type "range",data:=.fields #[.int lo t,.int hi u,.int 1 v]},toks:=tk}:=I.kept λb o e=>Heap.get?_push_of_some _ e
 refine⟨(s.heap.push {cls:=.type "range",data:=.fields #[.int lo t,.int hi u,.int 1 v]}).objs.size,[(s.heap.push {cls:=.type "range",data:=.fields #[.int lo t,.int hi u,.int 1 v]}).objs.size],_,_,H,rfl,
  I1.kept (t':=tk) λb o e=>Heap.get?_push_of_some _ e,vJ _ lo (hi-lo).toNat,?_,λb hb=>?_,q⟩
 ·have e1:lo+((0:Nat):Int)*1=lo:=by simp
  have e2:(((hi-lo).toNat:Nat):Int)-((0:Nat):Int)=Builtin.Range.rangeSize lo hi 1:=by rw[rangeSize_one];split <;> omega
  show IsRangeIter _ _ (lo+((0:Nat):Int)*1) ((((hi-lo).toNat:Nat):Int)-((0:Nat):Int)) 1;rw[e1,e2];exact Heap.get?_push_size _ rfl
 ·have e:b=(s.heap.push {cls:=.type "range",data:=.fields #[.int lo t,.int hi u,.int 1 v]}).objs.size:=by simpa using hb
  subst e;exact I1.fpOk (le_refl _) (I1.hok.fresh (le_refl _))
def Gm (ta:TA):TI:=λσ H R=>ta σ H λvs H1=>∃j:Int,vs=[.int j]∧ -(2 ^ 62)≤j∧j<2 ^ 62∧R (FR 0 j.toNat) H1
def Gn (ta:TA):TI:=λσ H R=>ta σ H λvs H1=>∃i j:Int,vs=[.int i,.int j]∧(-(2 ^ 62)≤i∧i<2 ^ 62∧ -(2 ^ 62)≤j∧j<2 ^ 62)∧R (FR i (j-i).toNat) H1
def qG {ta:TA}(hg:Gl X "range")(hm:X.mg "range" =none)(ha:PA X [a] ta)(hs:starEach [a] X.env=[(false,eval a X.env)]:=by rfl):PI X tg (.Call (.Name "range" p) [a] [] pos) (Gm ta):=by
 intro pins s σ H R I h;refine Call_ (iK I hg hm boot_range (PyProof.Rows.callWith_type1 (aV (ha pos pins s σ H _ I h) λus s1 hZ62=>?_) hs rfl));obtain⟨vs,H1,I1,r1,q1⟩:=hZ62;obtain⟨j,e,q1,q2,q⟩:=q1;subst e;cases r1 with
 |cons r rr=>
  cases rr;obtain⟨t,rfl⟩:=r;exact call_range_1 (ul I1 (by omega) (by omega) q1 q2 (by simpa using q))
def ya {ta:TA}{p pos:Ys}(hg:Gl X "range")(hm:X.mg "range" =none)(ha:PA X [a,b] ta)(hs:starEach [a,b] X.env=[(false,eval a X.env),(false,eval b X.env)]:=by rfl)(hs2:starEach [b] X.env=[(false,eval b X.env)]:=by rfl) :
  PI X tg (.Call (.Name "range" p) [a,b] [] pos) (Gn ta):=by
 intro pins s σ H R I h;refine Call_ (iK I hg hm boot_range (PyProof.Rows.callWith_type1 (aV (ha pos pins s σ H _ I h) λus s1 hZ63=>?_) (by rw[hs,hs2]) (by rw[hs2];rfl)));obtain⟨vs,H1,I1,r1,q1⟩:=hZ63;obtain⟨i,j,e,⟨q1,q2,q3,q4⟩,q⟩:=q1;subst e;cases r1 with
 |cons r rr=>
  cases rr with
  |cons r' rr=>
   cases rr;obtain⟨t,rfl⟩:=r;obtain⟨t',rfl⟩:=r';exact call_range_2 (ul I1 q1 q2 q3 q4 q)
def HZ (wi:TI)(g:TG)(tb:TS):TS:=λD σ H=>wi σ H λJ H1=>∃W:Nat→Nat→St→Hp→Prop,(∃m,W 0 m σ H1)∧∀i m σ H,W i m σ H→
 (J.stop i H∧D.nx σ H)∨(J.go i H∧∃N:St→Hp→Prop,(∀σ' H',N σ' H'→∃m',m'<m∧W (i+1) m' σ' H')∧∀x H',J.yld i H x H'→g x σ H' λσ2 H2=>tb {D with nx:=N,ct:=N,bk:=D.nx} σ2 H2)
def mr (fp:Zt)(h:Y6):List (Addr×Obj):=fp.filterMap λb=>(h.get? b).map λo=>(b,o)
def d_ {fp:Zt}{h:Y6}{o:Obj}(hb:b∈fp)(e:h.get? b=some o):(b,o)∈mr fp h:=mem_filterMap.mpr ⟨b,hb,by rw[e];rfl⟩
def x6 {fp:Zt}{h:Y6}{p:Addr×Obj}(hp:p∈mr fp h):p.1∈fp∧h.get? p.1=some p.2:=by
 obtain⟨b,hb,e⟩:=mem_filterMap.mp hp;cases q:h.get? b with
 |none=>rw[q]at e;cases e
 |some o=>
  rw[q]at e;have e':(b,o)=p:=Option.some.inj e;subst e';exact⟨hb,q⟩
def Inv.pinned {pins:Z9}{σ:St}{H:Hp}{s:Z3}{fp:Zt}(I:Inv X pins σ H s)(hf:∀b∈fp,jc X pins H b)(ho:∀b∈fp,∃o,s.heap.get? b=some o∧∀v,o.data≠ .cell v):Inv X (pins ++ mr fp s.heap) σ H s:=
 I.pins_of λp hp=>(mem_append.mp hp).elim (λz=>I.pin p (mem_append_right _ z)) λz=>by
  obtain⟨hb,e⟩:=x6 z;obtain⟨f0,f1,f2,_⟩:=hf p.1 hb;obtain⟨o,e',d⟩:=ho p.1 hb;rw[e]at e';cases e';exact⟨e,f0,f1,f2,d⟩
def Inv.unpinned {pins pl:Z9}{σ:St}{H:Hp}{s:Z3}(I:Inv X (pins ++ pl) σ H s):Inv X pins σ H s:=I.pins_of λp hp=>I.pin p (mem_append_right _ (mem_append_left _ hp))
def Fp {wi:TI}{g:TG}{tb:TS}{pos:Ys}(hp:PassesOwn (model X.prog X.w) X.A X.env X.xe)(hc:X.calm=true)(hi:PI X tg iter wi)(hg:PG X tg g)(hb:FL X body tb)(hs:∀x,foldedSetIterable iter X.env x=pure x:=by intro _;rfl):PS X (.For tg iter body [] pos) (HZ wi g tb):=by
 intro p s σ H D I h;refine wpAny_For (aV (hi p s σ H _ I h) λv s1 h1=>aV h1 λitv s2 h2=>?_) hs;obtain⟨it,fp,tn,J,H2,e,I2,T,st2,f2,W,⟨m0,w0⟩,turn⟩:=h2;subst e
 -- what stays true of the iterator's objects through the loop
 have C:∀{H':Hp},(∀b∈fp,H' b=none)→∀b∈fp,jc X p H' b:=λhn b hb=>⟨hn b hb,(f2 b hb).2⟩;refine codeAny_forLoop_any (λn s'=>∃i σ' H',Inv X p σ' H' s'∧tn i s'.heap∧(∀b∈fp,H' b=none)∧W i n σ' H') ?_ m0 ⟨0,σ,H2,I2,st2,λb hb=>(f2 b hb).1,w0⟩;intro n s3 hZ1;obtain⟨i,t,H3,I3,st3,fr3,w3⟩:=hZ1
 rcases turn i n t H3 w3 with ⟨stop,qn⟩|⟨go,N,hN,step⟩
 ·refine wpAny_passesOwn hp (aV (T.done X rfl rfl rfl hc i p s3 t H3 X.xe I3 (C fr3) st3 stop) λr s4 hZ64=>?_);obtain⟨hr,I4⟩:=hZ64;subst hr;exact wpAny_execs_nil ⟨t,H3,I4,qn⟩
 ·refine wpAny_passesOwn hp (aV (T.item X rfl rfl rfl hc i p s3 t H3 X.xe I3 (C fr3) st3 go) λr s4 hZ65=>?_);obtain⟨u,hr,h4⟩:=hZ65;subst hr;refine wpAny_passesOwn hp (aV h4 λ_ s5 hZ66=>?_);obtain⟨x,H5,I5,r5,y5,st5,fr5⟩:=hZ66;have I5':=I5.pinned (C fr5) (T.obj _ _ st5);refine wpAny_passesOwn hp (aV (hg _ s5 t H5 x u _ I5' r5 (step x H5 y5)) λ_ s6 hZ67=>?_);obtain⟨σ6,H6,I6,q6⟩:=hZ67;refine wpAny_passesOwn hp (aV (hb _ s6 σ6 H6 _ I6 q6) λf s7 q7=>?_);have B:∀{q:St} {y:Hp},Inv X (p ++ mr fp s5.heap) q y s7→N q y→∃m,m<n∧∃i σ' H',Inv X p σ' H' s7∧tn i s7.heap∧(∀b∈fp,H' b=none)∧W i m σ' H':=λ{q y} z n7=>by
   obtain⟨m',hm,w7⟩:=hN q y n7;refine⟨m',hm,i+1,q,y,z.unpinned,T.keep _ _ _ st5 λb hb o e=>(z.pin (b,o) (mem_append_right _ (mem_append_right _ (d_ hb e)))).1,λb hb=>?_,w7⟩;obtain⟨o,e,d⟩:=T.obj _ _ st5 b hb;exact(z.pin (b,o) (mem_append_right _ (mem_append_right _ (d_ hb e)))).2.1
  cases f with
  |next=>obtain⟨q,y,z,n7⟩:=q7;exact B z n7
  |cont=>obtain⟨q,y,z,n7⟩:=q7;exact B z n7
  |brk=>obtain⟨q,y,z,q7⟩:=q7;exact⟨q,y,z.unpinned,q7⟩
  |ret v=>obtain⟨x7,q,y,z,r7,q7⟩:=q7;exact⟨x7,q,y,z.unpinned,r7,q7⟩
end
def zh {K:Z8}{xs:List V}{g:TG}{tb:TS}{D:Ends}{σ:St}{H:Hp}(Pv:Nat→St→Hp→Prop)(h0:Pv 0 σ H)(hl:∀i σ H,i≤xs.length→Pv i σ H→gy K H a xs)(hs:∀i x σ H,xs[i]?=some x→Pv i σ H→g x σ H λσ2 H2=>tb {D with nx:=Pv (i+1),ct:=Pv (i+1),bk:=D.nx} σ2 H2) (hd:∀σ H,Pv xs.length σ H→D.nx σ H) :
  ∃W:Nat→Nat→St→Hp→Prop,(∃m,W 0 m σ H)∧∀i m σ H,W i m σ H→
   ((Da K a).stop i H∧D.nx σ H)∨((Da K a).go i H∧∃N:St→Hp→Prop,(∀σ' H',N σ' H'→∃m',m'<m∧W (i+1) m' σ' H')∧∀x H',(Da K a).yld i H x H'→g x σ H' λσ2 H2=>tb {D with nx:=N,ct:=N,bk:=D.nx} σ2 H2):=by
 refine⟨λi m σ H=>m=xs.length-i∧i≤xs.length∧Pv i σ H,⟨xs.length,by simp,zero_le _,h0⟩,?_⟩;intro i m σ H hZ2;obtain⟨rfl,hi,p⟩:=hZ2;have q:=hl i σ H hi p;by_cases hlt:i<xs.length
 ·refine .inr ⟨⟨xs,xs[i],q,by simp[hlt]⟩,Pv (i+1),λσ' H' p'=>⟨xs.length-(i+1),by omega,rfl,hlt,p'⟩,λx H' y=>?_⟩;obtain⟨e,y⟩:=y;subst e;exact hs i x σ _ (y xs q) p
 ·have e:i=xs.length:=by omega
  subst e;exact .inl ⟨⟨xs,q,le_refl _⟩,hd σ H p⟩
abbrev R2:=V→V→Hp→VK→Prop
def pK (X:Cx)(f:Value→Value→Sem Value)(r:R2):Prop:=
 ∀(pins:Z9) (s:Z3) (σ:St) (H:Hp) (x y:V) (v u:Zc) (Q:VK),Inv X pins σ H s→RelV x v→RelV y u→r x y H Q→
  wpAny (model X.prog X.w) X.A (f v u) (EP X pins σ Q) X.xe s
def Im (X:Cx)(f:Value→Sem Value)(r:V→Hp→VK→Prop):Prop:=
 ∀(pins:Z9) (s:Z3) (σ:St) (H:Hp) (x:V) (v:Zc) (Q:VK),Inv X pins σ H s→RelV x v→r x H Q→
  wpAny (model X.prog X.w) X.A (f v) (EP X pins σ Q) X.xe s
def eJ (X:Cx)(f:Zc)(r:List V→Hp→VK→Prop):Prop:=
 ∀(pins:Z9) (s:Z3) (σ:St) (H:Hp) (xs:List V) (us:Z0) (Q:VK),Inv X pins σ H s→Vals xs us→r xs H Q→
  wpAny (model X.prog X.w) X.A (call f us) (EP X pins σ Q) X.xe s
def H_ (r:R2)(ta tb:TE):TE:=λσ H Q=>ta σ H λx H1=>tb σ H1 λy H2=>r x y H2 Q
def rI (C:Int→Int→Prop)(g:Int→Int→V):R2:=λx y H Q=>∃i j,x= .int i∧y= .int j∧C i j∧Q (g i j) H
def Dx (g:Int→Int→V):R2:=λx y H Q=>∃i j,x= .int i∧y= .int j∧Q (g i j) H
def rU (g:Int→V):V→Hp→VK→Prop:=λx H Q=>∃i,x= .int i∧Q (g i) H
section
variable{X:Cx}{a b c:Y3}{ta tb tc:TE}{pos:Pos}
def F1 (ha:PE X a ta)(hb:PE X b tb){pins:Z9}{s:Z3}{σ:St}{H:Hp}{R:V→V→Hp→Prop}(I:Inv X pins σ H s)(h:ta σ H λx H1=>tb σ H1 λy H2=>R x y H2) {Q:Z6} {f:Value→Value→Sem Value}(hf:∀v u s2 x y H2,Inv X pins σ H2 s2→RelV x v→RelV y u→R x y H2→wpAny (model X.prog X.w) X.A (f v u) Q X.xe s2) :
  wpAny (model X.prog X.w) X.A (eval a X.env) (λv s₁=>wpAny (model X.prog X.w) X.A (eval b X.env) (λu s₂=>wpAny (model X.prog X.w) X.A (f v u) Q X.xe s₂) X.xe s₁) X.xe s:=by
 refine aV (ha pins s σ H _ I h) λv s1 hZ68=>?_;obtain⟨x,H1,I1,r1,q1⟩:=hZ68;refine aV (hb pins s1 σ H1 _ I1 q1) λu s2 hZ69=>?_;obtain⟨y,H2,I2,r2,q2⟩:=hZ69;exact hf v u s2 x y H2 I2 r1 r2 q2
def GQ {op:Operator}{r:R2}(ho:pK X (binaryOp op) r)(ha:PE X a ta)(hb:PE X b tb):PE X (.BinOp a op b pos) (H_ r ta tb):=by
 intro pins s σ H Q I h;exact wpAny_BinOp (F1 ha hb I h λv u s2 x y H2 I2 rx ry q=>ho pins s2 σ H2 x y v u Q I2 rx ry q)
def Hn {f:Value→Value→Sem Value}{C:Int→Int→Prop}{g:Int→Int→Int}(rule:∀(i j:Int) (t u:Tok) (s:Z3) (Q:Z6) (E:Value→Shared→Prop),C i j→Q (.int (g i j) s.toks) {s with toks:=s.toks+1}→wpAny (model X.prog X.w) X.A (f (.int i t) (.int j u)) Q E s) :
  pK X f (rI C λi j=>.int (g i j)):=by
 intro pins s σ H x y v u Q I rx ry h;obtain⟨i,j,rfl,rfl,hc,q⟩:=h;obtain⟨t,rfl⟩:=rx;obtain⟨t',rfl⟩:=ry;exact rule i j t t' s _ _ hc ⟨.int (g i j),H,I.tok _,⟨_,rfl⟩,q⟩
def GI {f:Value→Value→Sem Value}{g:Int→Int→Int}(rule:∀(i j:Int) (t u:Tok) (s:Z3) (Q:Z6) (E:Value→Shared→Prop),Q (.int (g i j) s.toks) {s with toks:=s.toks+1}→wpAny (model X.prog X.w) X.A (f (.int i t) (.int j u)) Q E s) :
  pK X f (Dx λi j=>.int (g i j)):=by
 intro pins s σ H x y v u Q I rx ry h;obtain⟨i,j,rfl,rfl,q⟩:=h;obtain⟨t,rfl⟩:=rx;obtain⟨t',rfl⟩:=ry;exact rule i j t t' s _ _ ⟨.int (g i j),H,I.tok _,⟨_,rfl⟩,q⟩
def ER {f:Value→Value→Sem Value}{g:Int→Int→Bool}(rule:∀(i j:Int) (t u:Tok) (s:Z3) (Q:Z6) (E:Value→Shared→Prop),Q (.bool (g i j)) s→wpAny (model X.prog X.w) X.A (f (.int i t) (.int j u)) Q E s) :
  pK X f (Dx λi j=>.bl (g i j)):=by
 intro pins s σ H x y v u Q I rx ry h;obtain⟨i,j,rfl,rfl,q⟩:=h;obtain⟨t,rfl⟩:=rx;obtain⟨t',rfl⟩:=ry;exact rule i j t t' s _ _ ⟨.bl (g i j),H,I,rfl,q⟩
def yA (i j:Int):Prop:=0<j∧j<1073741824
def A9 (i j:Int):Prop:=0≤j∧j≤1000000∧i.natAbs<2 ^ 64
def CMul (i j:Int):Prop:=(-(2 ^ 64)<i∧i<2 ^ 64)∨(-(2 ^ 64)<j∧j<2 ^ 64)
def CMul.ok {i j:Int}(h:CMul i j):IntMulOk i j:=by
 rcases h with ⟨h1,h2⟩|⟨h1,h2⟩
 ·exact .of_left (intBits_le_64 h1 h2)
 ·exact .of_right (intBits_le_64 h1 h2)
def ES:pK X (binaryOp .Add) (Dx λi j=>.int (i+j)):=GI λ_ _ _ _ _ _ _ q=>add_int q
def EY:pK X (binaryOp .Sub) (Dx λi j=>.int (i-j)):=GI λ_ _ _ _ _ _ _ q=>sub_int q
def EV:pK X (binaryOp .Mult) (rI CMul λi j=>.int (i*j)):=Hn λ_ _ _ _ _ _ _ hc q=>mul_int q hc.ok
def Ci:pK X (binaryOp .FloorDiv) (rI yA λi j=>.int (i / j)):=Hn λi j _ _ _ _ _ hc q=>by
 have h1:(0:Int)<j:=hc.1;have h2:j<1073741824:=hc.2;exact floordiv_int (by omega) (by rw[Int.fdiv_eq_ediv_of_nonneg i (by omega)];exact q) (.inl (PyProof.noPylong_small (by omega)))
def EU:pK X (binaryOp .Mod) (rI (λ_ j=>0<j) λi j=>.int (i % j)):=Hn λi j _ _ _ _ _ hc q=>by
 have h1:(0:Int)<j:=hc;exact mod_int' (by omega) (by rw[Int.fmod_eq_emod_of_nonneg i (by omega)];exact q)
def EW:pK X (binaryOp .Pow) (rI A9 λi j=>.int (i ^ j.toNat)):=Hn λ_ _ _ _ _ _ _ hc q=>pow_int_small hc.1 hc.2.1 hc.2.2 q
def IE {f:Value→Sem Value}{g:Int→Int}(rule:∀(i:Int) (t:Tok) (s:Z3) (Q:Z6) (E:Value→Shared→Prop),Q (.int (g i) s.toks) {s with toks:=s.toks+1}→wpAny (model X.prog X.w) X.A (f (.int i t)) Q E s) :
  Im X f (rU λi=>.int (g i)):=by
 intro pins s σ H x v Q I rx h;obtain⟨i,rfl,q⟩:=h;obtain⟨t,rfl⟩:=rx;exact rule i t s _ _ ⟨.int (g i),H,I.tok _,⟨_,rfl⟩,q⟩
def FE:Im X (unaryOp .USub) (rU λi=>.int (-i)):=IE λ_ _ _ _ _ q=>neg_int q
def zd {pins:Z9}{σ:St}{H:Hp}{s:Z3}{Q:VK}{k k':Bool}(I:Inv X pins σ H s)(q:Q (.bl k) H)(e:k=k'):EP X pins σ Q (.bool k') s:=by
 subst e;exact⟨.bl k,H,I,rfl,q⟩
def GM:pK X (compareOp .Lt) (Dx λi j=>.bl (decide (i<j))):=ER λ_ _ _ _ _ _ _ q=>lt_int q
def GK:pK X (compareOp .LtE) (Dx λi j=>.bl (decide (i≤j))):=ER λ_ _ _ _ _ _ _ q=>le_int q
def GJ:pK X (compareOp .Gt) (Dx λi j=>.bl (decide (j<i))):=ER λ_ _ _ _ _ _ _ q=>gt_int q
def ET:pK X (compareOp .Is) (λx y H Q=>y= .non∧Q (.bl (decide (x= .non))) H):=by
 intro pins s σ H x y v u Q I rx ry h;obtain⟨rfl,q⟩:=h;cases ry;refine is_none_gen (zd I q ?_);cases x <;> first
  |(cases rx;rfl)
  |(obtain⟨t,rfl⟩:=rx;rfl)
def Cj:pK X (compareOp .IsNot) (λx y H Q=>y= .non∧Q (.bl (!decide (x= .non))) H):=by
 intro pins s σ H x y v u Q I rx ry h;obtain⟨rfl,q⟩:=h;cases ry;refine isnot_none_gen (zd I q ?_);cases x <;> first
  |(cases rx;rfl)
  |(obtain⟨t,rfl⟩:=rx;rfl)
def bo (b:Y3){op:CmpOp}(h:op≠ .In:=by decide)(h2:op≠ .NotIn:=by decide):behindInMarks op b=false:=by
 have e1:(op==CmpOp.In)=false:=by cases op <;> first|rfl|exact absurd rfl h
 have e2:(op==CmpOp.NotIn)=false:=by cases op <;> first|rfl|exact absurd rfl h2
 cases b <;> simp[behindInMarks,e1,e2]
def oO:(sizeLine:Nat)<2 ^ 63:=by rw[sizeLine_eq];decide
def vn:pK X (binaryOp .Add) (λx y H Q=>∃i j,x= .str i∧y= .str j∧i.length+j.length≤sizeLine∧Q (.str (i ++ j)) H):=by
 intro pins s σ H x y v u Q I rx ry h;obtain⟨i,j,rfl,rfl,hz,q⟩:=h;obtain⟨t,rfl⟩:=rx;obtain⟨t',rfl⟩:=ry;exact add_str (λt' tk=>⟨.str (i ++ j),H,I.tok _,⟨_,rfl⟩,q⟩) hz
def jL {x:V}{us:Z0}(r:Vals [x] us):∃u,us=[u]∧RelV x u:=by
 cases r with
 |cons r1 r2=>cases r2;exact⟨_,rfl,r1⟩
def AZ {x y:V}{us:Z0}(r:Vals [x,y] us):∃u w',us=[u,w']∧RelV x u∧RelV y w':=by
 cases r with
 |cons r1 r2=>
  cases r2 with
  |cons r3 r4=>cases r4;exact⟨_,_,rfl,r1,r3⟩
def xm (hc:X.calm=true):eJ X (.builtin "min") (λxs H Q=>∃i j,xs=[.int i,.int j]∧Q (.int (if j<i then j else i)) H):=by
 intro pins s σ H xs us Q I r h;obtain⟨i,j,rfl,q⟩:=h;obtain⟨u,w',rfl,⟨t,rfl⟩,⟨t',rfl⟩⟩:=AZ r;refine min_two_ints (I.ok.hd hc) λh' tk k=>⟨_,H,I.kept k,?_,q⟩;by_cases hj:j<i
 ·rw[Yo hj,Yo hj];exact⟨_,rfl⟩
 ·rw[Ym hj,Ym hj];exact⟨_,rfl⟩
end
structure ObjM (h:Y6)(x dx C:Z2)(mA:Z4):Prop where
 obj:h.get? x=some (W.instObj C dx)
 ns:h.Ns1 dx mA
 ne:dx≠x
def xV {h:Y6}{mA:Z4}(n:h.Ns1 dx mA):∃od,h.get? dx=some od∧∀name,W.lookIn name od=some (mA name):=by
 obtain⟨o,es,ep,ho,hd,hk,_,hm⟩:=n;refine⟨o,ho,λname=>?_⟩;have e:=hm name;unfold nsFind findBy at e;rw[←Array.find?_toList]at e;unfold W.lookIn;rw[hd];dsimp only;split
 ·rename_i y q;rw[q]at e;exact congrArg some e
 ·rename_i q;rw[q]at e;have a:es.toList.any (·.refKey)=false:=by
   rw[List.any_eq_false];intro y hy;obtain⟨z,t,hkey⟩:=hk y (Array.mem_toList_iff.mp hy);simp[DictEntry.refKey,hkey]
  have a':¬es.toList.any (·.refKey)=true:=by rw[a];exact Bool.false_ne_true
  rw[Ym a'];exact congrArg some e
def ObjM.look {h:Y6}{x dx C:Z2}{mA:Z4}(I:ObjM h x dx C mA):∃od,W.InstAt h x (W.instObj C dx) C (some od)∧∀name,W.lookIn name od=some (mA name):=
 let ⟨od,ho,hl⟩:=xV I.ns
 ⟨od,⟨I.obj,rfl,rfl,ho⟩,hl⟩
section
variable{prog:Zv}{w:Zk}{A:Zg}{E:Z6}{s:Z3}{K:Z8}{x dx C f:Z2}{mA:Z4}{name:Yr}{v:Value}
def B0 {expr:Bool}{Q:Z6}(X:K.In s.heap)(I:ObjM s.heap x dx C mA)(hg:W.plainGet K C name=true)(hh:W.hasDictIn K C=true)(ha:W.findIn K (.ref C) name=some none) (hv:mA name=some v) (hv':W.handedIn v=true) (h:Q v {s with toks:=s.toks+1}) :
  wpAny (model prog w) A (getAttr (.ref x) name expr) Q E s:=by
 obtain⟨od,J,hl⟩:=I.look;exact W.get_value X J (W.plainGet_of hg).1 (W.findObj_own hh ha rfl (by rw[hl,hv])) hv' h
def zl {pl:Sem Bool}{Q:Value×List Value→Shared→Prop}(X:K.In s.heap)(I:ObjM s.heap x dx C mA)(hg:W.plainGet K C name=true)(hf:W.findIn K (.ref C) name=some (some (.ref f))) (ht:W.isFn K (.ref f)=true) (hv:mA name=none) (h:Q (.ref f,[.ref x]) s) :
  wpAny (model prog w) A (getMethod (.ref x) name pl) Q E s:=by
 obtain⟨od,J,hl⟩:=I.look;exact W.method_fn X J (W.plainGet_of hg).1 (W.plainGet_of hg).2 hf (beq_iff_eq.mp ht) (by show (W.lookIn name od).map (·.isSome)=some false;rw[hl,hv];rfl) h
def CW {ns:Zw}{Q:Unit→Shared→Prop}(X:K.In s.heap)(I:ObjM s.heap x dx C mA)(hs:W.findIn K (.ref C) "__setattr__" =some (some (.builtin "object.__setattr__"))) (hp:W.plainOver K C=true) (ht:W.takerIn K C name=some none) (hh:W.hasDictIn K C=true)(hw:PySem.Within mA ns) (hsz:ns.length≤sizeLine)(h:∀h',ObjM h' x dx C (λy=>if y=name then some v else mA y)→Heap.SameBut dx s.heap h'→Q () {s with heap:=h',toks:=s.toks+2}) :
  wpAny (model prog w) A (setAttr (.ref x) name v) Q E s:=by
 obtain⟨od,J,hl⟩:=I.look;refine W.set_plain X J hs (W.osa_open (s:={s with toks:=s.toks+1}) (r:=none) X J hp ht λb=>?_)
 obtain⟨cd,hc,hd'⟩:=W.any_some hh;have hx:s.heap.get? x=some ⟨.ref C,some dx,.plain,#[]⟩:=I.obj;refine Zx (Zq (Zx (Zx (wpAny_loadPart hx (Zx (W.Looks.here (s:={s with toks:=s.toks+1}) (W.looks_clsIn X hc) ?_))))))
 rw[hd'];refine Zq (a:=some dx) (Zx (Zq (Zx ?_)));refine wpAny_nsSet1 (s:={s with toks:=s.toks+1}) I.ns λh' hn2 hs2=>?_
 obtain⟨oD,esD,epD,hoD,hdD,hcD⟩:=hn2.count (PySem.Within.cons name v hw);refine Zx (wpAny_lookBehind hoD (by rw[hdD];exact pastItsLine_dict (le_trans hcD (by rw[length_cons];omega))) ?_);exact Zq (h _ ⟨(hs2.2 _ (Ne.symm I.ne)).trans I.obj,hn2,I.ne⟩ hs2)
def zJ {R:Yn}{vs:Z0}{kw:Yw}(X:K.In s.heap)(hm:W.makesIn K C=true)(hi:W.findIn K (.ref C) "__init__" =some (some (.ref f))) (hf:W.typeIn K (.ref f)=some (.type "function"))(h:codeAny (model prog w) (A.under (.builtin "type.__call__" ⟨.ref C::vs,kw⟩)) (.call (.ref f) ⟨.ref (s.heap.objs.size+1)::vs,kw⟩) (W.InitBack (s.heap.objs.size+1) R)
   {s with heap:=(s.heap.push W.emptyDict).push (W.instObj C s.heap.objs.size)}) :
  codeAny (model prog w) A (.call (.ref C) ⟨vs,kw⟩) R s:=by
 obtain⟨hh,g,d,t,os⟩:=s;exact W.make_core (W.makes_of X hm) (W.looks_findIn X hi) (λself=>W.bind_fn X self hf) (.inl rfl) h
end
def iN (f:Yr)(v:V):List (Str×V)→List (Str×V)
 | []=>[(f,v)]
 |(g,x)::r=>if g=f then (g,v)::r else (g,x)::iN f v r
theorem mW (f g:Yr)(v:V):∀fs:List (Str×V),(iN f v fs).lookup g=if g=f then some v else fs.lookup g
 | []=>by
  show List.lookup g [(f,v)]=_;by_cases h:g=f
  ·have w:(g==f)=true:=beq_iff_eq.mpr h;simp only[List.lookup,w,Yo h]
  ·have w:(g==f)=false:=beq_eq_false_iff_ne.mpr h;simp only[List.lookup,w,Ym h]
 |(k,x)::r=>by
  have ih:=mW f g v r;rw[show iN f v ((k,x)::r)=(if k=f then (k,v)::r else (k,x)::iN f v r) from rfl]
  by_cases hk:k=f
  ·rw[Yo hk];by_cases h:g=k
   ·have w:(g==k)=true:=beq_iff_eq.mpr h;simp only[List.lookup,w,Yo (h.trans hk)]
   ·have w:(g==k)=false:=beq_eq_false_iff_ne.mpr h;simp only[List.lookup,w,Ym (λe:g=f=>h (e.trans hk.symm))]
  ·rw[Ym hk];by_cases h:g=k
   ·have w:(g==k)=true:=beq_iff_eq.mpr h;simp only[List.lookup,w,Ym (λe:g=f=>hk (h.symm.trans e))]
   ·have w:(g==k)=false:=beq_eq_false_iff_ne.mpr h;simp only[List.lookup,w];exact ih
theorem me (f:Yr)(v:V):∀fs:List (Str×V),f∈(iN f v fs).map (·.1)∧∀g,g∈fs.map (·.1)→g∈(iN f v fs).map (·.1)
 | []=>⟨by simp[iN],λg h=>by simp at h⟩
 |(k,x)::r=>by
  obtain⟨i1,i2⟩:=me f v r;rw[show iN f v ((k,x)::r)=(if k=f then (k,v)::r else (k,x)::iN f v r) from rfl]
  by_cases hk:k=f
  ·rw[Yo hk];subst hk;exact⟨by simp,λg h=>by simpa using h⟩
  ·rw[Ym hk];refine⟨?_,λg h=>?_⟩
   ·rw[map_cons];exact dk i1
   ·rw[map_cons]at h ⊢
    rcases mem_cons.mp h with e|e
    ·exact mem_cons.mpr (.inl e)
    ·exact dk (i2 g e)
theorem mQ (f:Yr)(v:V):∀fs:List (Str×V),(iN f v fs).length≤fs.length+1
 | []=>by simp[iN]
 |(k,x)::r=>by
  have ih:=mQ f v r;rw[show iN f v ((k,x)::r)=(if k=f then (k,v)::r else (k,x)::iN f v r) from rfl]
  by_cases hk:k=f
  ·rw[Yo hk,length_cons,length_cons];omega
  ·rw[Ym hk,length_cons,length_cons];omega
def RelO.some_of {v:V}{o:Option Value}(r:RelO (some v) o):∃u,o=some u∧RelV v u:=by
 cases o with
 |none=>exact(show False from r).elim
 |some u=>exact⟨u,rfl,r⟩
def RelO.none_of {o:Option Value}(r:RelO none o):o=none:=by
 cases o with
 |none=>rfl
 |some u=>exact(show False from r).elim
def xL {v:V}(r:RelV v u):W.handedIn u=true:=by
 cases v with
 |non=>cases (show u=Value.none from r);rfl
 |bl b=>cases (show u=Value.bool b from r);rfl
 |int i=>obtain⟨t,e⟩:=(show ∃t,u=Value.int i t from r);cases e;rfl
 |str x=>obtain⟨t,e⟩:=(show ∃t,u=Value.str x t from r);cases e;rfl
 |byt b=>obtain⟨t,e⟩:=(show ∃t,u=Value.bytes b t from r);cases e;rfl
 |flt b=>obtain⟨t,e⟩:=(show ∃t,u=Value.float b t from r);cases e;rfl
 |ref a=>cases (show u=Value.ref a from r);rfl
 |ty n=>cases (show u=Value.type n from r);rfl
section
variable{P:Zv}{w:Zk}{H H':Hp}{h h':Y6}{a C dx:Z2}{fs fs':List (Str×V)}
def rH (hok:HOk P w H h)(e:H a=some (.ins C dx fs)):∃mA,ObjM h a dx C mA∧(∀f,RelO (fs.lookup f) (mA f))∧PySem.Within mA (fs.map (·.1))∧fs.length≤1000∧H dx=some (.own a):=by
 obtain⟨d,z,ne,ob,mA,n,r,q⟩:=(show ObjOk P w H h a (.ins C dx fs) from hok a _ e);exact⟨mA,⟨ob,n,ne⟩,r,q,z,d⟩
end
structure Cls (K:Z8)(C:Z2):Prop where
 pg:W.plainGet K C Str.empty=true
 hd:W.hasDictIn K C=true
 po:W.plainOver K C=true
 sa:W.findIn K (.ref C) "__setattr__" =some (some (.builtin "object.__setattr__"))
def Cls.get {K:Z8}{C:Z2}(c:Cls K C)(f:Yr):W.plainGet K C f=true:=c.pg
def NoAttr (K:Z8)(C:Z2)(f:Yr):Prop:=W.findIn K (.ref C) f=some none
def NoAttr.taker {K:Z8}{C:Z2}(n:NoAttr K C f):W.takerIn K C f=some none:=by
 unfold W.takerIn;rw[show W.findIn K (.ref C) f=some none from n];rfl
structure Meth (K:Z8)(C:Z2)(m:Yr)(f:Z2):Prop where
 at_:W.findIn K (.ref C) m=some (some (.ref f))
 fn:W.isFn K (.ref f)=true
 kp:W.keepIn K (.ref f)=true
section
variable{X:Cx}{pins:Z9}{σ:St}{H:Hp}{s:Z3}{a C dx:Z2}{fs:List (Str×V)}{f:Yr}{v:V}{A:Zg}{E:Value→Shared→Prop}
def u5 {b:Bool}{Q:Z6}(I:Inv X pins σ H s)(e:H a=some (.ins C dx fs))(c:Cls X.K C)(n:NoAttr X.K C f)(l:fs.lookup f=some v)(h:∀u s',Inv X pins σ H s'→RelV v u→Q u s'):wpAny (model X.prog X.w) A (getAttr (.ref a) f b) Q E s:=by
 obtain⟨mA,O,r,_,_,_⟩:=rH I.hok e;obtain⟨u,hu,ru⟩:=RelO.some_of (v:=v) (o:=mA f) (by rw[←l];exact r f);exact B0 I.kIn O (c.get f) c.hd n hu (xL ru) (h u _ (I.tok _) ru)
def u6 {pl:Sem Bool}{Q:Value×List Value→Shared→Prop}(I:Inv X pins σ H s)(e:H a=some (.ins C dx fs))(c:Cls X.K C)(k:Meth X.K C m g)(l:fs.lookup m=none)(h:Q (.ref g,[.ref a]) s):wpAny (model X.prog X.w) A (getMethod (.ref a) m pl) Q E s:=by
 obtain⟨mA,O,r,_,_,_⟩:=rH I.hok e;have hn:mA m=none:=RelO.none_of (by rw[←l];exact r m);exact zl I.kIn O (c.get m) k.at_ k.fn hn h
def vG {y:V}{Q:Unit→Shared→Prop}(I:Inv X pins σ H s)(e:H a=some (.ins C dx fs))(c:Cls X.K C)(n:NoAttr X.K C f)(hl:fs.length<1000)(ry:RelV y u)(h:∀s',Inv X pins σ (bc H a (.ins C dx (iN f y fs))) s'→Q () s'):wpAny (model X.prog X.w) A (setAttr (.ref a) f u) Q E s:=by
 obtain⟨mA,O,r,wi,_,ho⟩:=rH I.hok e;have hz:(fs.map (·.1)).length≤sizeLine:=by rw[length_map,sizeLine_eq];omega
 refine CW I.kIn O c.sa c.po n.taker c.hd wi hz λh' O' sb=>h _ ?_;have hd:∃o,h'.get? dx=some o:=let ⟨o,_,_,e',_⟩:=O'.ns;⟨o,e'⟩
 refine I.write (x:=a) (e:=dx) (by rw[e];exact True.intro) (.inr ho) (λb q hb z=>(sb.2 b hb).trans z) hd ?_;refine⟨by rw[am O.ne];exact ho,?_,O.ne,O'.obj,_,O'.ns,λg=>?_,λg hg=>?_⟩
 ·have:=mQ f y fs;omega
 ·show RelO ((iN f y fs).lookup g) (if g=f then some u else mA g)
  rw[mW];by_cases q:g=f
  ·rw[Yo q,Yo q];exact ry
  ·rw[Ym q,Ym q];exact r g
 ·by_cases q:g=f
  ·rw[q];exact(me f y fs).1
  ·refine(me f y fs).2 g (wi g λz=>hg ?_);show (if g=f then some u else mA g)=none
   rw[Ym q];exact z
def Inv.made (I:Inv X pins σ H s):Inv X pins σ (bc (bc H s.heap.objs.size (.own (s.heap.objs.size+1))) (s.heap.objs.size+1) (.ins C s.heap.objs.size []))
  {s with heap:=(s.heap.push W.emptyDict).push (W.instObj C s.heap.objs.size)}:=by
 have e1:(s.heap.push W.emptyDict).get? s.heap.objs.size=some W.emptyDict:=Heap.get?_push_size s.heap rfl;have e2:((s.heap.push W.emptyDict).push (W.instObj C s.heap.objs.size)).get? (s.heap.objs.size+1)=some (W.instObj C s.heap.objs.size):=by
  have:=Heap.get?_push_size (s.heap.push W.emptyDict) (o:=W.instObj C s.heap.objs.size) rfl;rwa[Heap.size_push]at this
 have e3:(s.heap.push W.emptyDict).Ns s.heap.objs.size (λ_=>none):=⟨W.emptyDict,#[],_,e1,rfl,(λe he=>absurd he (by simp)),λ_=>rfl⟩;have I1:=I.laid (a:=s.heap.objs.size) (o:=.own (s.heap.objs.size+1)) (h':=s.heap.push W.emptyDict) (t':=s.toks) (λb u q=>Heap.get?_push_of_some _ q) (le_refl _) ⟨_,e1⟩;refine I1.laid (a:=s.heap.objs.size+1) (o:=.ins C s.heap.objs.size []) (t':=s.toks) (λb u q=>Heap.get?_push_of_some _ q) (Nat.le_of_eq (Heap.size_push _ _)) ?_;have ne:s.heap.objs.size≠s.heap.objs.size+1:=ne_of_lt (lt_succ_self _);refine⟨by rw[am ne,au],zero_le _,ne,e2,λ_=>none,(Heap.Ns1.of_empty e3).at λo q=>Heap.get?_push_of_some _ q,λ_=>True.intro,λy hy=>absurd rfl hy⟩
def Bi {prog:Zv}{w:Zk}{env:Env}{pos:Ys}{s:Z3}{Q:Z6}(hb:attributeBase e f env (eval e env)=eval e env)(h:wpAny (model prog w) A (eval e env) (λo s₁=>wpAny (model prog w) A (getAttr o f true) Q E s₁) E s):wpAny (model prog w) A (eval (.Attribute e f pos) env) Q E s:=
 Attribute_any_ h (by rw[arm_eval_Attribute,hb])
end
def HY (K:Z8)(ta:TE)(f:Yr):TE:=λσ H Q=>ta σ H λx H1=>∃a C dx fs v,x= .ref a∧H1 a=some (.ins C dx fs)∧Cls K C∧NoAttr K C f∧fs.lookup f=some v∧Q v H1
def HS (K:Z8)(ta tv:TE)(f:Yr):TS:=λD σ H=>tv σ H λy H1=>ta σ H1 λx H2=>∃a C dx fs,x= .ref a∧H2 a=some (.ins C dx fs)∧Cls K C∧NoAttr K C f∧fs.length<1000∧
 D.nx σ (bc H2 a (.ins C dx (iN f y fs)))
section
variable{X:Cx}{o e value:Y3}{f:Yr}{pos pos' tpos:Ys}{ta tv:TE}
def E9 (he:PE X e ta)(hb:attributeBase e f X.env (eval e X.env)=eval e X.env):PE X (.Attribute e f pos) (HY X.K ta f):=by
 intro pins s σ H Q I h;refine Bi hb (aV (he pins s σ H _ I h) λu s1 hZ70=>?_);obtain⟨x,H1,I1,rx,a,C,dx,fs,v,ex,ea,c,n,l,q⟩:=hZ70;subst ex;obtain rfl:u=Value.ref a:=rx;exact u5 I1 ea c n l λu' s2 I2 ru=>⟨v,H1,I2,ru,q⟩
def Aq (ha:PE X o ta)(hv:PE X value tv)(hs:swapsWith value (some (.Attribute o f pos')) pos.line X.env=pure false):PS X (.Assign [.Attribute o f pos'] value pos) (HS X.K ta tv f):=by
 intro pins s σ H D I h;refine plainObj_wpAny_Assign_Attribute (aV (hv pins s σ H _ I h) λu s1 ⟨y,H1,I1,ry,q⟩=>aV (ha pins s1 σ H1 _ I1 q) λov s2 hZ72=>?_) hs;obtain⟨x,H2,I2,rx,a,C,dx,fs,ex,ea,c,n,l,q2⟩:=hZ72;subst ex;obtain rfl:ov=Value.ref a:=rx;exact vG I2 ea c n l ry λs3 I3=>⟨σ,_,I3,q2⟩
end
section
variable{X:Cx}{pins:Z9}{σ:St}{H:Hp}{s:Z3}{A:Zg}{E:Z6}{Q:Z6}{c:Zc}{b:Bool}
end
structure Room (k:Nat)(A:Zg):Prop where
 hd:A.handled=none
 dp:A.depth+3*k+5<recursionLimit
 un:A.units+16*k+200<cLine
def Room.mono {j k:Nat}{A:Zg}(r:Room k A)(h:j≤k):Room j A:=⟨r.hd,by have:=r.dp;omega,by have:=r.un;omega⟩
def Room.deeper {k:Nat}{A:Zg}(r:Room (k+1) A)(env:Env):Room k (A.deeper env):=
 ⟨r.hd,by have:=r.dp;show A.depth+1+3*k+5<_;omega,by have:=r.un;show A.units+3+16*k+200<_;omega⟩
def vd {A:Zg}{C:Z2}{us:Z0}{kw:Yw}:(A.under (.builtin "type.__call__" ⟨.ref C::us,kw⟩)).depth=A.depth+1:=by
 first|rfl|simp[Around.under,Code.weight,Code.isCreation,Code.isGuard,Code.isCaller,Code.frames,Code.isFrame,guardIds]
def ve {A:Zg}{C:Z2}{us:Z0}{kw:Yw}:(A.under (.builtin "type.__call__" ⟨.ref C::us,kw⟩)).units=A.units+1:=by
 first|rfl|simp[Around.under,Code.cUnits,Code.frames,Code.isFrame]
def Room.make {k:Nat}{A:Zg}(r:Room (k+1) A)(C:Z2)(us:Z0)(kw:Yw):Room k (A.under (.builtin "type.__call__" ⟨.ref C::us,kw⟩)):=
 ⟨r.hd,by have:=r.dp;rw[vd];omega,by have:=r.un;rw[ve];omega⟩
def Room.depth {k:Nat}{A:Zg}(r:Room k A):A.depth<recursionLimit:=by have:=r.dp;omega
def Room.units {k:Nat}{A:Zg}(r:Room k A):A.units+64<cLine:=by have:=r.un;omega
def C5:TA:=λ_ H Q=>Q [] H
def w9 (ta:TE)(tr:TA):TA:=λσ H Q=>ta σ H λx H1=>tr σ H1 λxs H2=>Q (x::xs) H2
section
variable{X:Cx}{e:Y3}{es:Ze}{te:TE}{t:TA}{pos:Pos}
def df:PA X [] C5:=λ_ _ _ _ H Q I h=>Calls.spliced_nil ⟨[],H,I,.nil,h⟩
def bQ (ha:PE X e te)(hr:PA X es t)(hs:zQ2 X e es:=by rfl):PA X (e::es) (w9 te t):=by
 intro pos pins s σ H Q I h;rw[hs];show wpAny _ _ (spliced ((false,eval e X.env)::backTo pos (starEach es X.env))) _ _ s;refine Calls.spliced_cons (aV (ha pins s σ H _ I h) λu s1 hZ73=>?_);obtain⟨x,H1,I1,r1,q1⟩:=hZ73;exact aV (hr pos pins s1 σ H1 _ I1 q1) λus s2 hZ74=>(by obtain⟨xs,H2,I2,r2,q2⟩:=hZ74;exact⟨x::xs,H2,I2,.cons r1 r2,q2⟩)
def Ig (t:TA):TE:=λσ H Q=>t σ H λxs H1=>xs.length≤sizeLine∧∀p,H1 p=none→Q (.ref p) (bc H1 p (.tup xs))
def H9 (t:TA):TE:=λσ H Q=>t σ H λxs H1=>xs.length≤sizeLine∧∀p,H1 p=none→Q (.ref p) (bc H1 p (.lst xs))
def vv {x1}(h:PA X es t):PE X (.Tuple es x1 pos) (Ig t):=by
 intro pins s σ H Q I hq;refine wpAny_Tuple_spliced (aV (h pos pins s σ H _ I hq) λus s1 ⟨xs,H1,I1,r,z,q⟩=>⟨by rw[←r.length];exact z,?_⟩);have hf:H1 s1.heap.objs.size=none:=I1.hok.fresh (le_refl _);refine⟨.ref s1.heap.objs.size,bc H1 s1.heap.objs.size (.tup xs),I1.laid (t':=s1.toks) (λb u e=>Heap.get?_push_of_some _ e) (le_refl _) ?_,rfl,q _ hf⟩;exact⟨z,us,r,⟨_,Heap.get?_push_size _ rfl,rfl,_,rfl⟩⟩
def vt (h:PA X es t):PE X (.List es pos) (H9 t):=by
 intro pins s σ H Q I hq;refine wpAny_List_spliced (aV (h pos pins s σ H _ I hq) λus s1 ⟨xs,H1,I1,r,z,q⟩=>⟨by rw[←r.length];exact z,?_⟩);have hf:H1 s1.heap.objs.size=none:=I1.hok.fresh (le_refl _);refine⟨.ref s1.heap.objs.size,bc H1 s1.heap.objs.size (.lst xs),I1.laid (t':=s1.toks) (λb u e=>Heap.get?_push_of_some _ e) (le_refl _) ?_,rfl,q _ hf⟩;exact⟨z,us,0,r,Heap.get?_push_size _ rfl⟩
end
abbrev Sp:=List V→Hp→VK→XK→Prop
abbrev sO:=List Env→Hp→Shared→XK→Value→Shared→Prop
structure Env0 (P:Zv)(w:Zk)(K:Z8)(mg:Z4)(base:Y6)(A:Zg)(outer:Y1)(s:Z3)(H:Hp):Prop where
 frames:A.frames=some outer
 mod:Mod K mg base
 bs:∀b o,base.get? b=some o→s.heap.get? b=some o∧H b=none
 bsz:base.objs.size≤s.heap.objs.size
 funs:s.heap.FunFrames base outer
 frf:∀b∈gc outer,H b=none
 hok:HOk P w H s.heap
 bare:AllBare s.gens
inductive CE (outer:Y1)(P:Zv)(w:Zk)(H:Hp)(s:Z3)(Q:VK)(u:Zc)(s':Z3):Prop
 |mk (v:V) (H':Hp) (o:s'.os=s.os) (g:AllBare s'.gens) (n:Un (gc outer) [] H H' s.heap s'.heap) (h:HOk P w H' s'.heap) (r:RelV v u) (q:Q v H')
def CR (CX:sO)(outer:Y1)(P:Zv)(w:Zk)(H:Hp)(s:Z3)(Q:VK)(E:XK)(r:Result)(s':Z3):Prop:=
 match r with
 |.ok (.ret u)=>CE outer P w H s Q u s'
 |.ok _=>False
 |.error e=>CX outer H s E e s'
structure FnOk (P:Zv)(w:Zk)(K:Z8)(mg:Z4)(base:Y6)(CX:sO)(k:Nat)(f:Z2)(fd:Y7)(ps:Zw)(sp:Sp):Prop where
 len:∀vs H Q E,sp vs H Q E→vs.length=ps.length
 run:∀(A:Zg) (outer:Y1) (s:Z3) (H:Hp) (args:Args) (us:Z0) (vs:List V) (Q:VK) (E:XK),Room k A→Env0 P w K mg base A outer s H→BindsTo s fd args (ps.zip us)→Vals vs us→sp vs H Q E→
  codeAny (model P w) A (.call (.ref f) args) (CR CX outer P w H s Q E) s
def FnOk.imp {P:Zv}{w:Zk}{K:Z8}{mg:Z4}{base:Y6}{CX:sO}{k:Nat}{fd:Y7}{ps:Zw}{sp sp':Sp}(F:FnOk P w K mg base CX k f fd ps sp)(h:∀vs H Q E,sp' vs H Q E→sp vs H Q E):FnOk P w K mg base CX k f fd ps sp':=
 ⟨λvs H Q E q=>F.len vs H Q E (h _ _ _ _ q),λA outer s H args us vs Q E hr he hb hv hs=>F.run A outer s H args us vs Q E hr he hb hv (h _ _ _ _ hs)⟩
def Env0.make {P:Zv}{w:Zk}{K:Z8}{mg:Z4}{base:Y6}{A:Zg}{outer:Y1}{s:Z3}{H:Hp}(e:Env0 P w K mg base A outer s H)(C:Z2)(us:Z0)(kw:Yw) :
  Env0 P w K mg base (A.under (.builtin "type.__call__" ⟨.ref C::us,kw⟩)) outer s H:=⟨by first|exact e.frames|(simpa [Around.under,Code.envs,Code.isFrame,pushEnvs] using e.frames),e.mod,e.bs,e.bsz,e.funs,e.frf,e.hok,e.bare⟩
section
variable{X:Cx}{pins:Z9}{σ:St}{H:Hp}{s s':Shared}
def Inv.env0 (I:Inv X pins σ H s):Env0 X.prog X.w X.K X.mg X.base X.A X.stack s H:=
 ⟨I.ok.frames,I.ok.mod,I.bs,le_trans I.ok.bsz I.sz,I.stack,I.stkFree,I.hok,I.bare⟩
def Inv.after {Q:VK}(I:Inv X pins σ H s)(h:CE X.stack X.prog X.w H s Q u s'):EP X pins σ Q u s':=by
 obtain⟨v,H',os,bare,un,hok,r,q⟩:=h;obtain⟨hh,g,d,t,os'⟩:=s';obtain rfl:os'=s.os:=os;exact⟨v,H',I.call (h':=hh) (g':=g) (d':=d) (t':=t) (ch:=[]) un hok bare (λb z=>absurd z (by simp)),r,q⟩
end
def Hc (sp:Sp)(dvs:List V)(E:XK)(t:TA):TE:=λσ H Q=>t σ H λvs H1=>sp (vs ++ dvs) H1 Q E
def DE (C:Z2)(m:Yr)(sp:Sp)(dvs:List V)(E:XK)(ta:TE)(t:TA):TE:=λσ H Q=>ta σ H λx H1=>∃a dx fs,x= .ref a∧H1 a=some (.ins C dx fs)∧fs.lookup m=none∧
 t σ H1 λvs H2=>sp (x::(vs ++ dvs)) H2 Q E
def DC (C:Z2)(sp:Sp)(dvs:List V)(E:XK)(t:TA):TE:=λσ H Q=>t σ H λvs H1=>∀x dx,H1 x=none→H1 dx=none→dx≠x→
 sp (.ref x::(vs ++ dvs)) (bc (bc H1 dx (.own x)) x (.ins C dx [])) (λv H2=>v= .non∧Q (.ref x) H2) E
def Binds (K:Z8)(fd:Y7)(ps:Zw)(ds:Z0):Prop:=
 ∀(s:Z3) (us:List Value),K.In s.heap→(us ++ ds).length=ps.length→BindsTo s fd ⟨us,[]⟩ (ps.zip (us ++ ds))
def Binds.all {K:Z8}{fd:Y7}{ps:Zw}(h:∀us:List Value,us.length=ps.length→bindArgs fd ⟨us,[]⟩=pure (ps.zip us)):Binds K fd ps []:=λs us _ hl=>by
 rw[append_nil]at hl ⊢;exact .of_eq (h us hl)
def de (CX:sO)(X:Cx)(E:XK):Prop:=∀(pins:Z9) (σ:St) (H:Hp) (s:Z3) (e:Zc) (s':Shared),Inv X pins σ H s→CX X.stack H s E e s'→X.xe e s'
section
variable{X:Cx}{CX:sO}{k:Nat}{f C:Z2}{fd:Y7}{ps:Zw}{sp:Sp}{dvs:List V}{ds:Z0}{E:XK}{x m:Yr}{p pos apos:Ys}{e o:Y3}{es:Ze}{ta:TE}{t:TA}
def AC {pins:Z9}{σ:St}{H:Hp}{s:Z3}{Q:VK}{us:Z0}{vs:List V}(F:FnOk X.prog X.w X.K X.mg X.base CX k f fd ps sp)(hr:Room k X.A)(hb:Binds X.K fd ps ds)(hd:Vals dvs ds)(hx:de CX X E)(I:Inv X pins σ H s) (r:Vals vs us) (h:sp (vs ++ dvs) H Q E):wpAny (model X.prog X.w) X.A (call (.ref f) us) (EP X pins σ Q) X.xe s:=by
 have r2:Vals (vs ++ dvs) (us ++ ds):=r.append hd;have hl:(us ++ ds).length=ps.length:=by rw[←r2.length];exact F.len _ _ _ _ h
 refine wpAny_call (codeAny_mono (F.run X.A X.stack s H ⟨us,[]⟩ (us ++ ds) (vs ++ dvs) Q E hr I.env0 (hb s us I.kIn hl) r2 h) λr s' hq=>?_);cases r with
 |error e=>exact hx pins σ H s e s' I hq
 |ok fl=>
  cases fl with
  |ret u=>exact I.after hq
  |next=>exact False.elim hq
  |brk=>exact False.elim hq
  |cont=>exact False.elim hq
def Co (F:FnOk X.prog X.w X.K X.mg X.base CX k f fd ps sp)(hr:Room k X.A)(hg:Gl X x)(hm:X.mg x=some (.ref f))(hk:W.keepIn X.K (.ref f)=true)(hb:Binds X.K fd ps ds)(hd:Vals dvs ds)(hx:de CX X E)(ha:PA X (e::es) t) (hdb:zQ1 x:=by decide) (he:zQ2 X e es:=by rfl) (hpl:(backTo pos (starEach es X.env)).any (·.1)=false:=by rfl) :
  PE X (.Call (.Name x p) (e::es) [] pos) (Hc sp dvs E t):=by
 intro pins s σ H Q I h;refine wpAny_Call_Name_kw (jY I hg hm ?_ hdb);refine W.callWith_K (h₀:=X.base) I.ok.mod.kin hk (aV (ha pos pins s σ H _ I h) λus s1 ⟨vs,H1,I1,r,q⟩=>⟨I1.kIn,?_⟩) he hpl;exact AC F hr hb hd hx I1 r q
def z_ {pl:Sem Bool}(he:PE X o ta)(c:Cls X.K C)(hm:Meth X.K C m f)(F:FnOk X.prog X.w X.K X.mg X.base CX k f fd ps sp)(hr:Room k X.A)(hb:Binds X.K fd ps ds)(hd:Vals dvs ds)(hx:de CX X E)(ht:eval (.Call (.Attribute o m apos) [] [] pos) X.env=(do
   let ov ←eval o X.env
   standAt apos.atName
   let (f,first) ←holding [ov] (getMethod ov m pl)
   callWith pos f first (backTo pos (starEach [] X.env)) (backToKw pos (keywordEach [] X.env))):=by rfl) :
  PE X (.Call (.Attribute o m apos) [] [] pos) (DE C m sp dvs E ta C5):=by
 intro pins s σ H Q I h;refine W.methodCall_KW (pl:=pl) (aV (he pins s σ H _ I h) λu s1 hZ78=>?_) ht;obtain⟨x,H1,I1,rx,a,dx,fs,ex,ea,l,q⟩:=hZ78;subst ex;obtain rfl:u=Value.ref a:=rx;refine u6 I1 ea c hm l ?_;exact W.callWith_K0 (first:=[.ref a]) I1.kIn hm.kp (AC (us:=[.ref a]) (vs:=[.ref a]) F hr hb hd hx I1 (.cons rfl .nil) q)
structure Mk (K:Z8)(C f:Z2):Prop where
 makes:W.makesIn K C=true
 init:W.findIn K (.ref C) "__init__" =some (some (.ref f))
 fn:W.isFn K (.ref f)=true
 kp:W.keepIn K (.ref C)=true
def AD {pins:Z9}{σ:St}{H:Hp}{s:Z3}{Q:VK}{us:Z0}{vs:List V}(M:Mk X.K C f)(F:FnOk X.prog X.w X.K X.mg X.base CX k f fd ps sp)(hr:Room (k+1) X.A)(hb:Binds X.K fd ps ds)(hd:Vals dvs ds)(hx:de CX X E) (I:Inv X pins σ H s) (r:Vals vs us)(h:∀x dx,H x=none→H dx=none→dx≠x→sp (.ref x::(vs ++ dvs)) (bc (bc H dx (.own x)) x (.ins C dx [])) (λv H2=>v= .non∧Q (.ref x) H2) E) :
  wpAny (model X.prog X.w) X.A (call (.ref C) us) (EP X pins σ Q) X.xe s:=by
 have hq:=h (s.heap.objs.size+1) s.heap.objs.size (I.hok.fresh (le_succ _)) (I.hok.fresh (le_refl _)) (ne_of_lt (lt_succ_self _));have I2:=Inv.made (C:=C) I;have r2:Vals (V.ref (s.heap.objs.size+1)::(vs ++ dvs)) (Value.ref (s.heap.objs.size+1)::(us ++ ds)):=.cons rfl (r.append hd);have hl:(Value.ref (s.heap.objs.size+1)::us ++ ds).length=ps.length:=by
  have e:=r2.length;rw[F.len _ _ _ _ hq]at e;exact e.symm
 refine wpAny_call (zJ (f:=f) I.kIn M.makes M.init (beq_iff_eq.mp M.fn) (codeAny_mono (F.run _ X.stack _ _ ⟨Value.ref (s.heap.objs.size+1)::us,[]⟩ (Value.ref (s.heap.objs.size+1)::(us ++ ds)) _ _ E (hr.make C us [])
  (I2.env0.make C us []) (hb _ (Value.ref (s.heap.objs.size+1)::us) I2.kIn hl) r2 hq) λr s' y=>?_))
 cases r with
 |error e=>exact hx pins σ _ _ e s' I2 y
 |ok fl=>
  cases fl with
  |ret u=>
   obtain⟨v,H',I3,rv,ev,q3⟩:=I2.after y;subst ev;exact⟨rv,⟨V.ref (s.heap.objs.size+1),H',I3,rfl,q3⟩⟩
  |next=>exact False.elim y
  |brk=>exact False.elim y
  |cont=>exact False.elim y
def Cq (M:Mk X.K C f)(F:FnOk X.prog X.w X.K X.mg X.base CX k f fd ps sp)(hr:Room (k+1) X.A)(hg:Gl X x)(hm:X.mg x=some (.ref C))(hb:Binds X.K fd ps ds)(hd:Vals dvs ds)(hx:de CX X E)(ha:PA X (e::es) t) (hdb:zQ1 x:=by decide) (he:zQ2 X e es:=by rfl) (hpl:(backTo pos (starEach es X.env)).any (·.1)=false:=by rfl) :
  PE X (.Call (.Name x p) (e::es) [] pos) (DC C sp dvs E t):=by
 intro pins s σ H Q I h;refine wpAny_Call_Name_kw (jY I hg hm ?_ hdb);refine W.callWith_K (h₀:=X.base) I.ok.mod.kin M.kp (aV (ha pos pins s σ H _ I h) λus s1 ⟨vs,H1,I1,r,q⟩=>⟨I1.kIn,?_⟩) he hpl;exact AD M F hr hb hd hx I1 r q
end
section
variable{X:Cx}{CX:sO}{k:Nat}{f C:Z2}{fd:Y7}{ps ks:Zw}{sp:Sp}{E:XK}{x m:Yr}{p pos apos kpos:Ys}{e o:Y3}{es:Ze}{kws:List Keyword}{te ta:TE}{t tk:TA}{nm:Option Str}
variable{g:List Value→List Value→List Value}{gV:List V→List V→List V}
end
structure FnScope (N P:Zw)(sc:Yz):Prop where
 kind:sc.kind= .function
 co:sc.isCoroutine=false
 gen:sc.isGenerator=false
 nd:N.Nodup
 pre:N.take P.length=P
 par:∀x∈P,sc.names.lookup x=some .local∨sc.names.lookup x=some .cell
 nofree:∀y∈sc.names,y.2≠ .free
theorem qd {kindOf:Yl}:∀{binds:Yw} {m:Str→Option Value},(∀v,(x,v)∉binds)→bindL kindOf binds m x=m x
 | [],_,_=>rfl
 |(n,v)::r,m,h=>by
  unfold bindL;rw[qd λw hw=>h w (dk hw)];split
  ·have:x≠n:=by rintro rfl;exact h v mem_cons_self
   simp[this]
  ·rfl
theorem qb {kindOf:Yl}:∀{binds:Yw} {m:Str→Option Value},(∀v,(x,v)∉binds)→bindC kindOf binds m x=m x
 | [],_,_=>rfl
 |(n,v)::r,m,h=>by
  unfold bindC;rw[qb λw hw=>h w (dk hw)];split
  ·rfl
  ·have:x≠n:=by rintro rfl;exact h v mem_cons_self
   simp[this]
theorem qc {kindOf:Yl}:∀{P:Zw} {vs:Z0} {i:Nat} {m:Str→Option Value},P.Nodup→P[i]?=some x→vs[i]?=some v→kindOf x=some .local→
  bindL kindOf (P.zip vs) m x=some v
 | [],_,_,_,_,h,_,_=>by simp at h
 |_::_,[],_,_,_,_,h,_=>by simp at h
 |p::P,w::vs,0,m,nd,h1,h2,hk=>by
  simp at h1 h2;subst h1;subst h2;show bindL kindOf ((p,w)::P.zip vs) m p=_;unfold bindL;rw[qd λv hv=>(nodup_cons.mp nd).1 (of_mem_zip hv).1,Yo hk];simp
 |p::P,w::vs,i+1,m,nd,h1,h2,hk=>by
  show bindL kindOf ((p,w)::P.zip vs) m x=_;unfold bindL;exact qc (i:=i) (nodup_cons.mp nd).2 (by simpa using h1) (by simpa using h2) hk
theorem p_ {kindOf:Yl}:∀{P:Zw} {vs:Z0} {i:Nat} {m:Str→Option Value},P.Nodup→P[i]?=some x→vs[i]?=some v→kindOf x≠some .local→
  bindC kindOf (P.zip vs) m x=some v
 | [],_,_,_,_,h,_,_=>by simp at h
 |_::_,[],_,_,_,_,h,_=>by simp at h
 |p::P,w::vs,0,m,nd,h1,h2,hk=>by
  simp at h1 h2;subst h1;subst h2;show bindC kindOf ((p,w)::P.zip vs) m p=_;unfold bindC;rw[qb λv hv=>(nodup_cons.mp nd).1 (of_mem_zip hv).1,Ym hk];simp
 |p::P,w::vs,i+1,m,nd,h1,h2,hk=>by
  show bindC kindOf ((p,w)::P.zip vs) m x=_;unfold bindC;exact p_ (i:=i) (nodup_cons.mp nd).2 (by simpa using h1) (by simpa using h2) hk
def gF (N:Zw)(vs:List V):St:=vs.map some ++ replicate (N.length-vs.length) none
def pO (CX:sO)(P:Zv)(w:Zk)(K:Z8)(mg:Z4)(base:Y6)(N:Zw)(qual:Yr)(scope:Yz)(f:Z2)(cd:Zc)(A:Zg)(outer:Y1)(s:Z3)(H:Hp)(E:XK):Cx where
 prog:=P
 w:=w
 K:=K
 mg:=mg
 base:=base
 A:=A.deeper (envOfC qual scope s.heap.objs.size f cd)
 N:=N
 s₀:=s
 H₀:=H
 env:=envOfC qual scope s.heap.objs.size f cd
 outer:=outer
 stack:=envOfC qual scope s.heap.objs.size f cd::outer
 ex:=[]
 calm:=true
 fn:=λ_=>true
 pn:=[]
 xe:=λe s'=>wpAny (model P w) (A.deeper (envOfC qual scope s.heap.objs.size f cd)) (leaving (envOfC qual scope s.heap.objs.size f cd) e) (λ_ s''=>CX outer H s E e s'') (λe' s''=>CX outer H s E e' s'') s'
def s9 {sc:Yz}{n:Nat}(h:sc.names.lookup x=some .cell):∃c,(cellsFrom n sc.names []).lookup x=some c:=by
 have q:=W.cellsFrom_some sc.names n [] (.inl h);exact Option.isSome_iff_exists.mp q
def xO {CX:sO}{P:Zv}{w:Zk}{K:Z8}{mg:Z4}{base:Y6}{N ps:Zw}{qual:Yr}{scope:Yz}{f:Z2}{cd:Zc}{A:Zg}{outer:Y1}{s s1:Z3}{H:Hp}{E:XK}{us:Z0}{vs:List V}(S:FnScope N ps scope) (hd:A.handled=none) (e0:Env0 P w K mg base A outer s H) (hl:vs.length=ps.length) (r:Vals vs us)(x:InCallC s s.heap.objs.size (bindL (envOfC qual scope s.heap.objs.size f cd).kindOf (ps.zip us) λ_=>none) (cellsFrom (s.heap.objs.size+1) scope.names []) (bindC (envOfC qual scope s.heap.objs.size f cd).kindOf (ps.zip us) λ_=>none) s1) :
  Inv (pO CX P w K mg base N qual scope f cd A outer s H E) [] (gF N vs) H s1:=by
 have hpl:ps.length≤N.length:=by have:=congrArg List.length S.pre;rw[length_take]at this;omega
 obtain ⟨h1,tk,rfl,hk⟩:=x.done;have noA:∀ b:Addr,b∉(pO CX P w K mg base N qual scope f cd A outer s H E).ex:=λb z=>absurd (show b∈([]:Zt) from z) (by simp);refine ⟨⟨e0.mod,S.kind,rfl,rfl,le_refl _,λy z c h1 B=> ?_,λy hy=> ?_,λy c _ h=> ?_,λ_=>hd,Around.frames_deeper e0.frames,.inr ⟨rfl,rfl⟩,λb z=>absurd z (noA b),e0.bs,e0.bsz,λb _ _=>noA b,λb z=>absurd z (noA b),e0.funs,e0.frf⟩,
  rfl,e0.bare,Un.kept hk,⟨_,x.toInCall.ns,λi y v h1 B h3=>?_⟩,λy c h=>⟨_,x.cell y c h⟩,e0.hok.fresh (le_refl _),λy c h=>?_,λp hp=>absurd (show p∈([]:Z9) from hp) (by simp),e0.hok.kept hk,?_⟩
 ·exact name_of_addr x.apart (PySem.mem_of_lookup h1) (PySem.mem_of_lookup B)
 ·have hy:scope.names.lookup y=some .cell∨scope.names.lookup y=some .free:=hy
  rcases hy with hy|hy
  ·exact s9 hy
  ·exact absurd rfl (S.nofree _ (PySem.mem_of_lookup hy))
 ·exact le_of_lt (x.above y c (PySem.mem_of_lookup h))
 ·have hi:i<vs.length:=by
   unfold gF at B;by_cases hi:i<vs.length
   ·exact hi
   ·rw[getElem?_append_right (by simpa using hi)]at B;rw[List.getElem?_replicate]at B;split at B <;> cases B
  have ha:vs[i]?=some v:=by
   unfold gF at B;rw[List.getElem?_append_left (by simpa using hi),getElem?_map]at B;cases e:vs[i]? with
   |none=>rw[e]at B;cases B
   |some a=>rw[e]at B;cases B;rfl
  obtain⟨u,hu,rv⟩:=r.get ha;have hp:ps[i]?=some y:=by
   rw[←S.pre,List.getElem?_take_of_lt (by omega)];exact h1
  have ndP:ps.Nodup:=by rw[←S.pre];exact S.nd.sublist (List.take_sublist _ _)
  refine⟨u,rv,?_⟩
  rcases S.par y (mem_of_getElem? hp) with k|k
  ·exact .inl ⟨k,qc ndP hp hu k⟩
  ·obtain⟨c,e⟩:=s9 (n:=s.heap.objs.size+1) k;refine .inr ⟨.inl k,c,e,?_⟩;have q:=x.cell y c e;rw[p_ ndP hp hu (by show scope.names.lookup y≠_;rw[k];decide)]at q;exact q
 ·exact e0.hok.fresh (le_of_lt (x.above y c (PySem.mem_of_lookup h)))
 ·unfold gF;show _=N.length;rw[length_append,length_map,List.length_replicate];omega
def zf {CX:sO}{P:Zv}{w:Zk}{K:Z8}{mg:Z4}{base:Y6}{k:Nat}{params:Arguments}{scope:Yz}{dV kV doc pm cdv ct oc:Zc}{an od:Option Addr}{osl:Array (Option Value)}{N ps:Zw}{sp:Sp} (lk:K.lookup f=some ⟨oc,od,.func (W.fnOf name qual params body scope dV kV doc pm an cdv ct),osl⟩) (hcd:W.codeIn K cdv qual=true) (S:FnScope N ps scope)(len:∀vs H Q E,sp vs H Q E→vs.length=ps.length)(hbody:∀(A:Zg) (outer:Y1) (s:Z3) (H:Hp) (vs:List V) (Q:VK) (E:XK),Room k (A.deeper (envOfC qual scope s.heap.objs.size f cdv))→sp vs H Q E→
   ∃t,FL (pO CX P w K mg base N qual scope f cdv A outer s H E) body t∧t {nx:=λ_ H'=>Q .non H',rt:=Q} (gF N vs) H) :
  FnOk P w K mg base CX (k+1) f (W.fnOf name qual params body scope dV kV doc pm an cdv ct) ps sp:=by
 refine⟨len,λA outer s H args us vs Q E hr e0 hb r hsp=>?_⟩;have hl:=len _ _ _ _ hsp;have KX:K.In s.heap:=e0.mod.kin.keeps λb o e=>(e0.bs b o e).1;have lim:s.heap.NoLimit:=e0.mod.nolimit.keeps λb o e=>(e0.bs b o e).1;have hkind:∀y∈ps.zip us,scope.names.lookup y.1=some .local∨(scope.names.lookup y.1=some .cell∧((cellsFrom (s.heap.objs.size+1) scope.names []).lookup y.1).isSome=true):=λ⟨n,v⟩ hy=>by
  rcases S.par n (of_mem_zip hy).1 with q|q
  ·exact .inl q
  ·exact .inr ⟨q,W.cellsFrom_some _ _ _ (.inl q)⟩
 refine codeAny_call_function hr.depth (KX _ _ lk) rfl S.co S.gen rfl (W.codeRec_of KX hcd) (hb _ _ _ _ ?_);refine wpAny_newFunctionEnv_cells S.kind hkind λenv he s1 x=>?_;subst he;refine⟨lim.keeps x.toInCall.keep,codeAny_func ?_⟩;obtain⟨t,ht,hq⟩:=hbody A outer s H vs Q E (hr.deeper _) hsp;have I:Inv (pO CX P w K mg base N qual scope f cdv A outer s H E) [] (gF N vs) H s1:=xO S hr.hd e0 hl r x;refine wpAny_mono (ht [] s1 (gF N vs) H _ I hq) (λfl s' hs=>?_) λe s' hs=>hs;have fin:∀{z:St} {H':Hp} {v:V} {u:Value},Inv (pO CX P w K mg base N qual scope f cdv A outer s H E) [] z H' s'→RelV v u→Q v H'→CE outer P w H s Q u s':=
  λ{z H' v u} J rv q=>⟨v,H',J.os,J.bare,J.base,J.hok,rv,q⟩
 cases fl with
 |ret u=>
  obtain⟨v,z,H',J,rv,q⟩:=hs;exact fin J rv q
 |next=>
  obtain⟨z,H',J,q⟩:=hs;exact fin (v:=V.non) (u:=Value.none) J rfl q
 |brk=>
  obtain⟨_,_,_,q⟩:=hs;exact False.elim q
 |cont=>
  obtain⟨_,_,_,q⟩:=hs;exact False.elim q
section
variable{X:Cx}{x:Yr}{p pos:Ys}{e:Y3}{es:Ze}{t:TA}{id T:String}{r:List V→Hp→VK→Prop}
def HW (r:List V→Hp→VK→Prop)(t:TA):TE:=λσ H Q=>t σ H λvs H1=>r vs H1 Q
def oW (hc:eJ X (.builtin id) r)(hg:Gl X x)(hm:X.mg x=none)(hv:bootBuiltins x=some (.builtin id))(ha:PA X (e::es) t)(hn:x≠ "__name__" :=by decide)(hdb:zQ1 x:=by decide)(he:zQ2 X e es:=by rfl) (hpl:(backTo pos (starEach es X.env)).any (·.1)=false:=by rfl):PE X (.Call (.Name x p) (e::es) [] pos) (HW r t):=by
 intro pins s σ H Q I h;refine wpAny_Call_Name_kw (iK I hg hm hv ?_ hn hdb);exact PyProof.Rows.callWith_builtin1 (aV (ha pos pins s σ H _ I h) λus s1 hZ80=>(by obtain⟨vs,H1,I1,r1,q1⟩:=hZ80;exact hc pins s1 σ H1 vs us Q I1 r1 q1)) he hpl
def eh (hc:eJ X (.type T) r)(hg:Gl X x)(hm:X.mg x=none)(hv:bootBuiltins x=some (.type T))(ha:PA X (e::es) t)(hn:x≠ "__name__" :=by decide)(hdb:zQ1 x:=by decide)(he:zQ2 X e es:=by rfl) (hpl:(backTo pos (starEach es X.env)).any (·.1)=false:=by rfl):PE X (.Call (.Name x p) (e::es) [] pos) (HW r t):=by
 intro pins s σ H Q I h;refine wpAny_Call_Name_kw (iK I hg hm hv ?_ hn hdb);exact PyProof.Rows.callWith_type1 (aV (ha pos pins s σ H _ I h) λus s1 hZ81=>(by obtain⟨vs,H1,I1,r1,q1⟩:=hZ81;exact hc pins s1 σ H1 vs us Q I1 r1 q1)) he hpl
end
end L2
namespace HT
open PySem PyProof.Rows
def i_:List Int→List Int→Bool
 | [],[]=>false
 | [],_::_=>true
 |_::_,[]=>false
 |x::xs,y::ys=>if x=y then i_ xs ys else decide (x<y)
def va (x y:Int)(xs ys:Z1):i_ (x::xs) (y::ys)=if x=y then i_ xs ys else decide (x<y):=rfl
def pR:i_ [] []=false:=rfl
def oM (y:Int)(ys:Z1):i_ [] (y::ys)=true:=rfl
def oK (x:Int)(xs:Z1):i_ (x::xs) []=false:=rfl
section
open PySem.SeqAt
open PySem.AutoSeq1 (wpAny_loadPart')
open PySem.MeetsSeq PySem.MeetsSeq2 PySem.MeetsSeq3
end
section
variable{prog:Zv}{w:Zk}{A:Zg}{E:Z6}{s:Shared}
def dg (n d:Nat):Option Int→Nat
 |none=>d
 |some v=>if v<0 then (v+(n:Int)).toNat else min v.toNat n
def CS (n d k:Nat):dg n d (some (k:Int))=min k n:=by
 show (if (k:Int)<0 then ((k:Int)+(n:Int)).toNat else min (k:Int).toNat n)=min k n
 rw[Ym (by omega),toNat_natCast]
def Fv (n d:Nat)(hd:d≤n)(o:Yy):dg n d o≤n:=by
 cases o with
 |none=>exact hd
 |some v=>
  show (if v<0 then (v+(n:Int)).toNat else min v.toNat n)≤n
  by_cases hv:v<0
  ·rw[Yo hv];omega
  ·rw[Ym hv];exact Nat.min_le_right _ _
def ny (v:Int)(n d:Nat):(if v<0 then max (v+(n:Int)) 0 else min v (n:Int))=((dg n d (some v):Nat):Int):=by
 show (if v<0 then max (v+(n:Int)) 0 else min v (n:Int))=(((if v<0 then (v+(n:Int)).toNat else min v.toNat n):Nat):Int)
 by_cases hv:v<0
 ·simp only[Yo hv];omega
 ·simp only[Ym hv];omega
def uN (lo hi:Yy)(n:Nat):Builtin.Slice.sliceAdjust lo hi 1 (n:Int)=(((dg n 0 lo:Nat):Int),((dg n n hi:Nat):Int)):=by
 have h1:¬((1:Int)<0):=by omega
 unfold Builtin.Slice.sliceAdjust;simp only[h1,if_false];refine Prod.ext ?_ ?_
 ·cases lo with
  |none=>rfl
  |some v=>exact ny v n 0
 ·cases hi with
  |none=>rfl
  |some v=>exact ny v n n
def vy (i j:Nat):Builtin.Slice.slicePlaces (i:Int) (j:Int) 1=j-i:=by
 unfold Builtin.Slice.slicePlaces;have h1:(1:Int)>0:=by omega
 simp only[h1,if_true,Int.ediv_one];split <;> omega
def pA {o:Yy}{Q:Option Int→Shared→Prop}(p:IsPart v o)(h:Q o s):wpAny (model prog w) A (Builtin.Slice.slicePartIndex v) Q E s:=by
 cases p with
 |none=>exact slicePart_none h
 |int i t=>exact slicePart_int h
def mE {lo hi:Yy}{n:Nat}{Q:Int×Int×Nat→Shared→Prop}(hs:s.heap.IsSliceOf sl vl vu .none)(pl:IsPart vl lo)(pu:IsPart vu hi)(h:Q (((dg n 0 lo:Nat):Int),1,dg n n hi-dg n 0 lo) s):wpAny (model prog w) A (Builtin.Slice.sliceApplied (.ref sl) (pure (n:Int))) Q E s:=by
 obtain⟨os,hos,hcs,hds⟩:=id hs;unfold Builtin.Slice.sliceApplied Builtin.Slice.sliceFields;refine Zx (Zx (wpAny_field hos hds (x:=vl) rfl (Zx (wpAny_field hos hds (x:=vu) rfl (Zx (wpAny_field hos hds (x:=.none) rfl (Zq ?_)))))));refine Zx (slicePart_none ?_);show wpAny _ _ (if ((1:Int)==0)=true then _ else _) _ _ s
 rw[Ym (by decide)];refine Zx (pA pl (Zx (pA pu (Zx (Zq ?_)))));show wpAny _ _ (match Builtin.Slice.sliceAdjust lo hi 1 (n:Int) with|(lo,hi)=>pure (lo,(1:Int),Builtin.Slice.slicePlaces lo hi 1)) _ _ s
 rw[uN lo hi n];show wpAny _ _ (pure (((dg n 0 lo:Nat):Int),(1:Int),Builtin.Slice.slicePlaces ((dg n 0 lo:Nat):Int) ((dg n n hi:Nat):Int) 1)) _ _ s;rw[vy];exact Zq h
def Ag (xs:Array Value)(i k:Nat):((List.range k).filterMap λ(m:Nat)=>xs[((i:Int)+(m:Int)*1).toNat]?).toArray=((xs.toList.drop i).take k).toArray:=by
 have e:(λ(m:Nat)=>xs[((i:Int)+(m:Int)*1).toNat]?)=λm=>xs[i+m]?:=by
  funext m;have:((i:Int)+(m:Int)*1).toNat=i+m:=by omega
  rw[this]
 rw[e];have:=pick_run xs i k;rw[filterMap_map]at this;have e2:((λx=>xs[x]?) ∘ λx=>i+x)=λm=>xs[i+m]?:=rfl;rw[e2]at this;rw[this]
def lm {items:Array Value}{lo hi:Yy}{Q:Z6}(ht:IsTup s.heap t items)(hs:s.heap.IsSliceOf sl vl vu .none)(pl:IsPart vl lo)(pu:IsPart vu hi)(hw:¬(dg items.size 0 lo=0∧dg items.size items.size hi=items.size))(h:Q (.ref s.heap.objs.size) {s with heap:=s.heap.push {cls:=.type "tuple",data:=.seq ((items.toList.drop (dg items.size 0 lo)).take (dg items.size items.size hi-dg items.size 0 lo)).toArray}})
  (hsz:items.size≤sizeLine):wpAny (model prog w) A (getItem (.ref t) (.ref sl)) Q E s:=by
 have B:sizeOk (.seq ((items.toList.drop (dg items.size 0 lo)).take (dg items.size items.size hi-dg items.size 0 lo)).toArray):=by
  show ((items.toList.drop (dg items.size 0 lo)).take (dg items.size items.size hi-dg items.size 0 lo)).toArray.size≤sizeLine;rw[size_toArray,length_take,List.length_drop,length_toList];omega
 have hj:dg items.size items.size hi≤items.size:=Fv _ _ (le_refl _) hi;obtain⟨os,hos,hcs,hds⟩:=id hs;have hTs:s.TypeIs (.ref sl) "slice" :=⟨os,hos,hcs⟩;unfold getItem
 try with_reducible refine wpAny_holding ?_
 first|refine Zx (Zq ?_)|skip
 refine Zx (wpAny_sequenceKey ht.typeIs (by decide) ?_);refine Zx (wpAny_callSpecial?_slot (name:=Str.ofString "__getitem__") ht.typeIs PyProof.Rows.slot_tuple_getitem
  (wpAny_call_entry PyProof.Rows.slot_tuple_getitem ht.typeIs entry_tuple_getitem ?_ (args_tuple_getitem _ _)))
 show wpAny _ _ (Builtin.Tuple.tupleItemsOf (.ref t) >>= _) _ _ s;refine Zx (tupleItemsOf_ ht ?_);refine Zx (wpAny_typeOf hTs ?_);rw[Yo (by decide)];refine Zx (mE hs pl pu ?_);have hno:¬((((dg items.size 0 lo:Nat):Int)==0&&(1:Int)==1&&(dg items.size items.size hi-dg items.size 0 lo)==items.size)=true):=by
  intro q;rw[and_eq_true,and_eq_true]at q;have q1:((dg items.size 0 lo:Nat):Int)=0:=eq_of_beq q.1.1;have q2:dg items.size items.size hi-dg items.size 0 lo=items.size:=eq_of_beq q.2;exact hw ⟨by omega,by omega⟩
 show wpAny _ _ (if (((dg items.size 0 lo:Nat):Int)==0&&(1:Int)==1&&(dg items.size items.size hi-dg items.size 0 lo)==items.size)=true then _ else _) _ _ s
 rw[Ym hno,Ag]
 first
  |exact Zx (m:=Builtin.Tuple.tupleExact _) (wpAny_newObj_type (Zq ⟨_,rfl,Zq h⟩) B)
  |exact Zx (m:=Builtin.Tuple.tupleExact _) (wpAny_newObj_type (Zx (Zq (Zq ⟨_,rfl,Zq h⟩))) B)
  |exact Zx (Zx (m:=Builtin.Tuple.tupleExact _) (wpAny_newObj_type (Zq (Zq ⟨_,rfl,Zq h⟩)) B))
  |exact Zx (Zx (m:=Builtin.Tuple.tupleExact _) (wpAny_newObj_type (Zq ⟨_,rfl,Zq h⟩) B))
end
end HT
namespace L2
open PySem PySem.Spec PyProof.Rows
abbrev TO:=St→Hp→(Option Int→Hp→Prop)→Prop
def PO (X:Cx)(e:Option Expr)(t:TO):Prop:=
 ∀(pins:Z9) (s:Z3) (σ:St) (H:Hp) (Q:Option Int→Hp→Prop),Inv X pins σ H s→t σ H Q→
  wpAny (model X.prog X.w) X.A (evalPart e X.env) (λu s'=>∃o H',Inv X pins σ H' s'∧IsPart u o∧Q o H') X.xe s
def C6:TO:=λ_ H Q=>Q none H
def Hf (t:TE):TO:=λσ H Q=>t σ H λx H1=>∃i,x= .int i∧Q (some i) H1
def kJ {ns:Z1}:∀{us:List Value},Vals (ns.map V.int) us→IntsAre us ns:=by
 induction ns with
 |nil=>intro us r;rw[map_nil]at r;cases r;exact .nil
 |cons n ns ih=>
  intro us r;rw[map_cons]at r;cases r with
  |cons r1 r2=>
   obtain⟨t,e⟩:=r1;subst e;exact .cons n t (ih r2)
section
variable{X:Cx}{e:Y3}{te:TE}{lo hi:Option Expr}{tl th:TO}{pos p2:Pos}
def CG:PO X none C6:=by
 intro pins s σ H Q I h;rw[evalPart_none];exact Zq ⟨none,H,I,.none,h⟩
def CH (h:PE X e te):PO X (some e) (Hf te):=by
 intro pins s σ H Q I hw;rw[evalPart_some];refine aV (h pins s σ H _ I hw) λu s1 hZ82=>?_;obtain⟨x,H1,I1,r1,q1⟩:=hZ82;obtain⟨i,rfl,q⟩:=q1;obtain⟨t,rfl⟩:=r1;exact⟨some i,H1,I1,.int i t,q⟩
def SlR (X:Cx)(r:V→Option Int→Option Int→Hp→VK→Prop):Prop:=
 ∀(pins:Z9) (s:Z3) (σ:St) (H:Hp) (x:V) (v vl vu:Zc) (lo hi:Yy) (sl:Z2) (Q:VK),Inv X pins σ H s→RelV x v→s.heap.IsSliceOf sl vl vu .none→IsPart vl lo→IsPart vu hi→r x lo hi H Q→
  ∃T id,typeLookup (.type T) "__getitem__" =pure (some (.builtin id))∧s.TypeIs v T∧wpAny (model X.prog X.w) X.A (getItem v (.ref sl)) (EP X pins σ Q) X.xe s
def SlR.or {r r':V→Option Int→Option Int→Hp→VK→Prop}(h:SlR X r)(h':SlR X r'):SlR X (λx lo hi H Q=>r x lo hi H Q∨r' x lo hi H Q):=by
 intro pins s σ H x v vl vu lo hi sl Q I rx hs pl pu q
 rcases q with q|q
 ·exact h pins s σ H x v vl vu lo hi sl Q I rx hs pl pu q
 ·exact h' pins s σ H x v vl vu lo hi sl Q I rx hs pl pu q
def ID (r:V→Option Int→Option Int→Hp→VK→Prop)(te:TE)(tl th:TO):TE:=λσ H Q=>te σ H λx H1=>tl σ H1 λl H2=>th σ H2 λu H3=>r x l u H3 Q
def Ab {r:V→Option Int→Option Int→Hp→VK→Prop}(hr:SlR X r)(he:PE X e te)(hl:PO X lo tl)(hu:PO X hi th):PE X (.Subscript e (.Slice lo hi none p2) pos) (ID r te tl th):=by
 intro o s σ H Q I h;refine Subscript_ (aV (he o s σ H _ I h) λv s1 hZ83=>?_);obtain⟨x,H1,I1,r1,q1⟩:=hZ83;refine wpAny_Slice (aV (hl o s1 σ H1 _ I1 q1) λvl s2 ⟨l,H2,I2,pl,q2⟩=>aV (hu o s2 σ H2 _ I2 q2) λvu B hZ85=>?_);obtain⟨u,H3,I3,pu,q3⟩:=hZ85;rw[evalPart_none];refine Zq ?_;have I4:Inv X o σ H3 {B with heap:=B.heap.push {cls:=.type "slice",data:=.fields #[vl,vu,.none]}}:=I3.kept (t':=B.toks) λb ob q=>Heap.get?_push_of_some _ q
 obtain⟨T,id,hT,ht,hg⟩:=hr o {B with heap:=B.heap.push {cls:=.type "slice",data:=.fields #[vl,vu,.none]}} σ H3 x v vl vu l u B.heap.objs.size Q I4 r1 (Heap.IsSliceOf.new ..) pl pu q3
 show wpAny (model X.prog X.w) X.A (subscriptTail e (.Slice lo hi none p2) v (.ref B.heap.objs.size)) (EP X o σ Q) X.xe {B with heap:=B.heap.push {cls:=.type "slice",data:=.fields #[vl,vu,.none]}}
 exact tail_any (ops:=[.ref B.heap.objs.size,v]) ht hT hg (by with_unfolding_all rfl)
def s_ (xs:List V)(lo hi:Yy):List V:=(xs.drop (HT.dg xs.length 0 lo)).take (HT.dg xs.length xs.length hi-HT.dg xs.length 0 lo)
def mL (xs:List V)(lo hi:Yy):(s_ xs lo hi).length≤xs.length:=by
 unfold s_;rw[length_take,List.length_drop];omega
def HR (K:Z8):V→Option Int→Option Int→Hp→VK→Prop:=λx lo hi H Q=>∃a xs,x= .ref a∧nr K H a xs∧
 ¬(HT.dg xs.length 0 lo=0∧HT.dg xs.length xs.length hi=xs.length)∧∀p,H p=none→Q (.ref p) (bc H p (.tup (s_ xs lo hi)))
def Fw:SlR X (HR X.K):=by
 intro pins s σ H x v vl vu lo hi sl Q I rx hs pl pu h;obtain⟨a,xs,rfl,hx,hw,q⟩:=h;cases rx;obtain⟨its,r,ht,hz⟩:=I.tuple hx;have C:its.toArray.size=xs.length:=by rw[size_toArray];exact r.length.symm
 refine⟨"tuple",_,PyProof.Rows.slot_tuple_getitem.lookup,ht.typeIs,?_⟩;refine HT.lm ht hs pl pu (by rw[C];exact hw) ?_ (by rw[C];exact hz);rw[C];refine⟨.ref s.heap.objs.size,_,I.laid (t':=s.toks) (o:=.tup (s_ xs lo hi)) (λb ob q=>Heap.get?_push_of_some _ q) (le_refl _) ?_,rfl,q _ (I.hok.fresh (le_refl _))⟩;exact⟨le_trans (mL xs lo hi) hz,_,(r.drop (HT.dg xs.length 0 lo)).take (HT.dg xs.length xs.length hi-HT.dg xs.length 0 lo),IsTup.new _ _⟩
end
def pH (n:Nat)(i:Int):Option Nat:=if 0≤i then (if i<n then some i.toNat else none) else if -(n:Int)≤i then some (i+n).toNat else none
def atI {α:Type}(xs:List α)(i:Int):Option α:=(pH xs.length i).bind λj=>xs[j]?
def iJ {n:Nat}{i:Int}{j:Nat}(h:pH n i=some j):seqIndex? i n=some j∧j<n∧ -(n:Int)≤i∧i<n:=by
 unfold pH at h;by_cases h0:0≤i
 ·rw[Yo h0]at h;by_cases D:i<n
  ·rw[Yo D]at h;have e:i.toNat=j:=Option.some.inj h;exact⟨by rw[seqIndex_of h0 D,e],by omega,by omega,D⟩
  ·rw[Ym D]at h;cases h
 ·rw[Ym h0]at h;by_cases D: -(n:Int)≤i
  ·rw[Yo D]at h;have e:(i+n).toNat=j:=Option.some.inj h;exact⟨by rw[seqIndex_neg (by omega) D,e],by omega,D,by omega⟩
  ·rw[Ym D]at h;cases h
def qX {α:Type}{xs:List α}{i:Int}{v:α}(h:atI xs i=some v):∃j,seqIndex? i xs.length=some j∧xs[j]?=some v∧j<xs.length∧ -(xs.length:Int)≤i∧i<xs.length:=by
 unfold atI at h;cases e:pH xs.length i with
 |none=>rw[e]at h;cases h
 |some j=>
  rw[e]at h;obtain⟨h1,h2,h3,h4⟩:=iJ e;exact⟨j,h1,h,h2,h3,h4⟩
def vV {α:Type}{xs:List α}{j:Nat}{v:α}(h:xs[j]?=some v):atI xs (j:Int)=some v:=by
 have hj:j<xs.length:=(fR h).1;have e:pH xs.length (j:Int)=some j:=by
  unfold pH;rw[Yo (by omega),Yo (by omega)];simp
 unfold atI;rw[e];exact h
def yJ {α:Type}(xs:List α)(v:α):atI (xs ++ [v]) (-1)=some v:=by
 have hl:(xs ++ [v]).length=xs.length+1:=by simp
 have e:pH (xs ++ [v]).length (-1)=some xs.length:=by
  unfold pH;rw[hl,Ym (by decide),Yo (by omega)];congr 1;omega
 unfold atI;rw[e];show (xs ++ [v])[xs.length]?=some v;simp
def qV (b:Y3):Prop:=∀o i,subscripted b false o i=operate [o,i] (getItem o i)
def IxR (X:Cx)(r:R2):Prop:=
 ∀(value slice:Y3) (pins:Z9) (s:Z3) (σ:St) (H:Hp) (x y:V) (v u:Zc) (Q:VK),Inv X pins σ H s→RelV x v→RelV y u→r x y H Q→
  subscripted slice false v u=operate [v,u] (getItem v u)→wpAny (model X.prog X.w) X.A (subscriptTail value slice v u) (EP X pins σ Q) X.xe s
def xg (X:Cx)(id:String)(r:V→List V→Hp→VK→Prop):Prop:=
 ∀(pins:Z9) (s:Z3) (σ:St) (H:Hp) (x:V) (xs:List V) (v:Zc) (us:Z0) (Q:VK),Inv X pins σ H s→RelV x v→Vals xs us→r x xs H Q→
  wpAny (model X.prog X.w) X.A (call (.builtin id) (v::us)) (EP X pins σ Q) X.xe s
section
variable{X:Cx}{a b:Y3}{ta tb:TE}{pos:Pos}
def IxR.or {r r':R2}(h:IxR X r)(h':IxR X r'):IxR X (λx y H Q=>r x y H Q∨r' x y H Q):=by
 intro E F pins s σ H x y v u Q I rx ry q hs
 rcases q with q|q
 ·exact h E F pins s σ H x y v u Q I rx ry q hs
 ·exact h' E F pins s σ H x y v u Q I rx ry q hs
def Dv {r:R2}(hr:IxR X r)(ha:PE X a ta)(hb:PE X b tb)(hs:qV b):PE X (.Subscript a b pos) (H_ r ta tb):=by
 intro pins s σ H Q I h;exact Subscript_ (F1 ha hb I h λv u s2 x y H2 I2 rx ry q=>hr a b pins s2 σ H2 x y v u Q I2 rx ry q (hs _ _))
def GX (K:Z8):R2:=λx y H Q=>∃p xs i v,x= .ref p∧y= .int i∧gy K H p xs∧atI xs i=some v∧Q v H
def GZ (K:Z8):R2:=λx y H Q=>∃p xs i v,x= .ref p∧y= .int i∧nr K H p xs∧atI xs i=some v∧Q v H
def GY:R2:=λx y H Q=>∃z i c,x= .str z∧y= .int i∧z.length≤sizeLine∧atI z.cps.toList i=some c∧Q (.str ⟨#[c]⟩) H
def ix_list:IxR X (GX X.K):=by
 intro value slice pins s σ H x y v u Q I rx ry h hs;obtain⟨p,xs,i,z,rfl,rfl,hq,he,q⟩:=h;cases rx;obtain⟨t,rfl⟩:=ry;obtain⟨its,r,pl,hz⟩:=I.list hq;obtain⟨j,h1,h2,h3,h4,h5⟩:=qX he;obtain⟨w,ew,rw'⟩:=r.get h2;have hl:=r.length;have hn:=oO;have fin:EP X pins σ Q w s:=⟨z,H,I,rw',q⟩;by_cases h0:0≤i
 ·have hj:i.toNat=j:=by
   rw[seqIndex_of h0 h5]at h1;exact Option.some.inj h1
  exact item_listR pl.isList h0 (by omega) (by rw[hj];simpa using ew) fin hs
 ·have hj:(i+(its.toArray.size:Int)).toNat=j:=by
   rw[seqIndex_neg (by omega) h4]at h1;rw[size_toArray,←hl];exact Option.some.inj h1
  exact subscriptTail_builtinR (x:=w) pl.isList.typeIs slot_list_getitem.lookup
   (wpAny_getItem_list_neg (Q:=λr s'=>r=w∧EP X pins σ Q r s') pl.isList (by omega) (by rw[size_toArray] <;> omega) (by omega) (by rw[hj];simpa using ew) ⟨rfl,fin⟩) hs
def ix_tup:IxR X (GZ X.K):=by
 intro value slice pins s σ H x y v u Q I rx ry h hs;obtain⟨p,xs,i,z,rfl,rfl,hq,he,q⟩:=h;cases rx;obtain⟨t,rfl⟩:=ry;obtain⟨its,r,pl,hz⟩:=I.tuple hq;obtain⟨j,h1,h2,h3,h4,h5⟩:=qX he;obtain⟨w,ew,rw'⟩:=r.get h2;have hl:=r.length;have hn:=oO;have fin:EP X pins σ Q w s:=⟨z,H,I,rw',q⟩;exact subscriptTail_builtinR (x:=w) pl.typeIs slot_tuple_getitem.lookup
  (getItem_tuple (j:=j) (Q:=λr s'=>r=w∧EP X pins σ Q r s') pl (by omega) (by omega) (by rw[size_toArray,←hl];exact h1) (by simpa using ew) ⟨rfl,fin⟩) hs
def EA:IxR X GY:=by
 intro value slice pins s σ H x y v u Q I rx ry h hs;obtain⟨z,i,c,rfl,rfl,hz,he,q⟩:=h;obtain⟨t,rfl⟩:=rx;obtain⟨t',rfl⟩:=ry;obtain⟨j,h1,h2,h3,h4,h5⟩:=qX he;have hl:z.cps.toList.length=z.length:=by simp[Str.length]
 rw[hl]at h1 h4 h5;have hn:=oO;exact tail_any (typeIs_str s z t) slot_str_getitem.lookup (getItem_str (c:=c) (by
  have e1:decide (i < -(2 ^ 63:Int))=false:=Zj (by omega);have e2:decide (i ≥ 2 ^ 63)=false:=Zj (by omega);rw[e1,e2,Bool.or_false]) (by rw[h1];simpa using h2) ⟨.str ⟨#[c]⟩,H,I.tok _,⟨_,rfl⟩,q⟩) hs
def IB (K:Z8):R2:=λx y H Q=>GX K x y H Q∨GZ K x y H Q∨GY x y H Q
def Ez:IxR X (IB X.K):=ix_list.or (ix_tup.or EA)
def vf (its:Z0)(n j:Nat)(u:Zc):Obj.mapSeq (·.setIfInBounds j u) {cls:=.type "list",data:=.seq its.toArray n}={cls:=.type "list",data:=.seq (its.set j u).toArray n}:=by
 simp[Obj.mapSeq]
def Inv.lst {pins:Z9}{σ:St}{H:Hp}{s:Z3}{xs:List V}(I:Inv X pins σ H s)(h:H p=some (.lst xs)) :
  ∃(its:Z0) (n:Nat),Vals xs its∧s.heap.get? p=some {cls:=.type "list",data:=.seq its.toArray n}∧xs.length≤sizeLine:=by
 obtain⟨z,its,n,r,e⟩:=I.hok p _ h;exact⟨its,n,r,e,z⟩
def Inv.lstUpd {pins:Z9}{σ:St}{H:Hp}{s:Z3}{xs ys:List V}{its its':Z0}{n n':Nat}{f:Obj→Obj}(I:Inv X pins σ H s)(h:H p=some (.lst xs))(ho:s.heap.get? p=some {cls:=.type "list",data:=.seq its.toArray n}) (hf:f {cls:=.type "list",data:=.seq its.toArray n}={cls:=.type "list",data:=.seq its'.toArray n'}) (r:Vals ys its') (hz:ys.length≤sizeLine) (t:Nat) :
  Inv X pins σ (bc H p (.lst ys)) {s with heap:=s.heap.update p f,toks:=t}:=by
 have e:(s.heap.update p f).get? p=some {cls:=.type "list",data:=.seq its'.toArray n'}:=by
  rw[Heap.get?_update_self f ho (by rw[hf] <;> rfl),hf]
 refine I.write (x:=p) (e:=p) (by rw[h];trivial) (.inl rfl) (λb u hb q=>(Heap.get?_update_other _ _ (Ne.symm hb)).trans q) ⟨_,e⟩ ?_;exact⟨hz,its',n',r,e⟩
def G6:V→V→V→Hp→(Hp→Prop)→Prop:=λo i v H Q=>∃p xs k j,o= .ref p∧i= .int k∧H p=some (.lst xs)∧pH xs.length k=some j∧Q (bc H p (.lst (xs.set j v)))
def AL:FW X G6:=by
 intro pins s σ H o i v ov iv u Q I ro ri rv h;obtain⟨p,xs,k,j,rfl,rfl,hp,hj,q⟩:=h;cases ro;obtain⟨t,rfl⟩:=ri;obtain⟨its,n,r,ho,hz⟩:=I.lst hp;obtain⟨h1,h2,h3,h4⟩:=iJ hj;have hl:=r.length;have hn:=oO;have I':Inv X pins σ (bc H p (.lst (xs.set j v))) {s with heap:=s.heap.update p (Obj.mapSeq (·.setIfInBounds j u))}:=
  I.lstUpd hp ho (vf its n j u) (r.set rv j) (by rw[length_set];exact hz) s.toks
 by_cases h0:0≤k
 ·have hk:k.toNat=j:=by
   rw[seqIndex_of h0 h4]at h1;exact Option.some.inj h1
  exact W.ki_setAt ho h0 (by omega) (by rw[size_toArray,←hl];exact h4) (by rw[hk];exact⟨_,I',q⟩)
 ·have hk:(k+(its.toArray.size:Int)).toNat=j:=by
   rw[seqIndex_neg (by omega) h3]at h1;rw[size_toArray,←hl];exact Option.some.inj h1
  exact W.ki_setBack ho (by omega) (by rw[size_toArray,←hl];exact h3) (by omega) (by rw[hk];exact⟨_,I',q⟩)
def Dc (i n:Int)(hn:0≤n):max 0 (min (if i<0 then i+n else i) n)=if i<0 then max (i+n) 0 else min i n:=by
 by_cases h:i<0
 ·rw[Yo h,Yo h,Int.min_eq_left (by omega),Int.max_comm]
 ·rw[Ym h,Ym h,Int.max_eq_right (Int.le_min.mpr ⟨Int.not_lt.mp h,hn⟩)]
def sI (lo hi:Yy)(n:Nat):(sliceBounds lo hi none n).1=((HT.dg n 0 lo:Nat):Int)∧(sliceBounds lo hi none n).2.1=((HT.dg n n hi:Nat):Int)∧(sliceBounds lo hi none n).2.2=1:=by
 refine⟨?_,?_,rfl⟩
 ·cases lo with
  |none=>simp[sliceBounds,HT.dg]
  |some i=>
   rw[←HT.ny i n 0,←Dc i n (Int.natCast_nonneg n)];simp only[sliceBounds,getD_none,show (1:Int)>0 by decide,if_true]
 ·cases hi with
  |none=>simp[sliceBounds,HT.dg]
  |some i=>
   rw[←HT.ny i n n,←Dc i n (Int.natCast_nonneg n)];simp only[sliceBounds,getD_none,show (1:Int)>0 by decide,if_true]
def pX (its:Z0)(lo hi:Yy):slicePick its.toArray lo hi none=((its.drop (HT.dg its.length 0 lo)).take (HT.dg its.length its.length hi-HT.dg its.length 0 lo)).toArray:=by
 obtain⟨h1,h2,h3⟩:=sI lo hi its.toArray.size;unfold slicePick;rw[h1,h2,h3];simp only[sliceRange_one,pick_run,size_toArray] <;> rfl
def HQ (K:Z8):V→Option Int→Option Int→Hp→VK→Prop:=λx lo hi H Q=>∃a xs,x= .ref a∧gy K H a xs∧∀p,H p=none→Q (.ref p) (bc H p (.lst (s_ xs lo hi)))
def sl_list:SlR X (HQ X.K):=by
 intro pins s σ H x v vl vu lo hi sl Q I rx hs pl pu h;obtain⟨a,xs,rfl,hx,q⟩:=h;cases rx;obtain⟨its,r,ht,hz⟩:=I.list hx;have hlen:=r.length;refine⟨"list",_,slot_list_getitem.lookup,ht.isList.typeIs,?_⟩;refine wpAny_getItem_list_slice ht.isList hs pl pu .none (by simp) ?_ (by rw[size_toArray] <;> omega);rw[pX,←hlen];refine⟨.ref s.heap.objs.size,_,I.laid (t':=s.toks) (o:=.lst (s_ xs lo hi)) (λb ob q=>Heap.get?_push_of_some _ q) (le_refl _) ?_,rfl,q _ (I.hok.fresh (le_refl _))⟩;exact⟨le_trans (mL xs lo hi) hz,_,0,(r.drop (HT.dg xs.length 0 lo)).take (HT.dg xs.length xs.length hi-HT.dg xs.length 0 lo),Heap.get?_push_size _ rfl⟩
def qY:eJ X (.builtin "len") (λxs H Q=>∃p ys,xs=[.ref p]∧(gy X.K H p ys∨nr X.K H p ys)∧Q (.int ys.length) H):=by
 intro pins s σ H xs us Q I r h;obtain⟨p,ys,rfl,hq,q⟩:=h;obtain⟨u,rfl,rx⟩:=jL r;cases rx;have hn:=oO
 rcases hq with hq|hq
 ·obtain⟨its,r',pl,hz⟩:=I.list hq;have C:=r'.length;exact Calls.call_len_list pl.isList (by simp only[size_toArray] <;> omega) ⟨.int ys.length,H,I.tok _,⟨s.toks+1,by rw[size_toArray,C]⟩,q⟩
 ·obtain⟨its,r',pl,hz⟩:=I.tuple hq;have C:=r'.length;exact len_tuple pl (by simp only[size_toArray] <;> omega) ⟨.int ys.length,H,I.tok _,⟨s.toks+1,by rw[size_toArray,C]⟩,q⟩
def iD:eJ X (.type "list") (λxs H Q=>∃p ys,xs=[.ref p]∧(gy X.K H p ys∨nr X.K H p ys)∧∀l,H l=none→Q (.ref l) (bc H l (.lst ys))):=by
 intro pins s σ H xs us Q I r h;obtain⟨p,ys,rfl,hq,q⟩:=h;obtain⟨u,rfl,rx⟩:=jL r;cases rx;have fin:∀(G:List Value),Vals ys G→ys.length≤sizeLine→∀(J:Y6) (c':Nat),(∀b o',s.heap.get? b=some o'→J.get? b=some o')→
   J.get? s.heap.objs.size=some {cls:=.type "list",dict:=none,data:=.seq G.toArray c',slots:= #[]}→EP X pins σ Q (.ref s.heap.objs.size) {s with heap:=J}:=λG r' hz J c' kp e=>
  ⟨.ref s.heap.objs.size,_,I.laid (t':=s.toks) kp (le_refl _) (show ObjOk X.prog X.w _ J _ (.lst ys) from ⟨hz,G,c',r',e⟩),rfl,q _ (I.hok.fresh (le_refl _))⟩
 rcases hq with hq|hq
 ·obtain⟨G,r',pl,hz⟩:=I.list hq;have hlen:=r'.length;obtain⟨o,ho,hc,n,hd⟩:=pl.isList;exact call_list_seq p (.inl rfl) ho hc hd (λJ c' kp e=>fin G r' hz J c' kp e) (by simp only[size_toArray] <;> omega)
 ·obtain⟨G,r',pl,hz⟩:=I.tuple hq;have hlen:=r'.length;obtain⟨o,ho,hc,n,hd⟩:=pl;exact call_list_seq p (.inr rfl) ho hc hd (λJ c' kp e=>fin G r' hz J c' kp e) (by simp only[size_toArray] <;> omega)
def pL:eJ X (.type "tuple") (λxs H Q=>∃p ys,xs=[.ref p]∧((gy X.K H p ys∧∀l,H l=none→Q (.ref l) (bc H l (.tup ys)))∨(nr X.K H p ys∧Q (.ref p) H))):=by
 intro pins s σ H xs us Q I r h;obtain⟨p,ys,rfl,h⟩:=h;obtain⟨u,rfl,rx⟩:=jL r;cases rx
 rcases h with ⟨hq,q⟩|⟨hq,q⟩
 ·obtain⟨its,r',pl,hz⟩:=I.list hq;have hlen:=r'.length;refine call_tuple_list pl.isList (λh' kp=>?_) (by simp only[size_toArray] <;> omega);have I1:Inv X pins σ H {s with heap:=h'}:=I.kept (t':=s.toks) kp
  have I2:Inv X pins σ (bc H h'.objs.size (.tup ys)) {s with heap:=h'.push {cls:=.type "tuple",data:=.seq its.toArray}}:=
   I1.laid (t':=s.toks) (λb o e=>Heap.get?_push_of_some _ e) (le_refl _) (show ObjOk X.prog X.w _ _ _ (.tup ys) from ⟨hz,its,r',IsTup.new _ _⟩)
  exact⟨.ref h'.objs.size,_,I2,rfl,q _ (I1.hok.fresh (le_refl _))⟩
 ·obtain⟨its,r',pl,hz⟩:=I.tuple hq;exact call_tuple_same pl ⟨.ref p,H,I,rfl,q⟩
def Ii (K:Z8)(T:String)(x:V)(H:Hp):Prop:=match x with
 |.str _=>T= "str"
 |.int _=>T= "int"
 |.ref p=>(T= "list" ∧∃xs,gy K H p xs)∨(T= "tuple" ∧∃o,K.lookup p=some o∧o.cls= .type "tuple" ∧o.dict=none)∨
   (T= "dict" ∧((∃kvs,H p=some (.dK kvs))∨∃kvs,H p=some (.dT kvs)))∨(T= "set" ∧∃S n,H p=some (.set S n))
 |_=>False
def AW {pins:Z9}{σ:St}{H:Hp}{s:Z3}{T:String}{x:V}(I:Inv X pins σ H s)(r:RelV x v)(ty:Ii X.K T x H) :
  s.TypeIs v T∧∀a,v= .ref a→∃ob,s.heap.get? a=some ob∧ob.dict=none:=by
 cases x with
 |str z=>
  obtain⟨t,rfl⟩:=r;cases (show T= "str" from ty);exact⟨typeIs_str s z t,λ_ e=>nomatch e⟩
 |int i=>
  obtain⟨t,rfl⟩:=r;cases (show T= "int" from ty);exact⟨typeIs_int s i t,λ_ e=>nomatch e⟩
 |ref p=>
  cases r
  rcases ty with ⟨rfl,xs,hq⟩|⟨rfl,o,J,hc,hd⟩|⟨rfl,J⟩|⟨rfl,S,n,J⟩
  ·obtain⟨its,_,pl,_⟩:=I.list hq;refine⟨pl.isList.typeIs,λa e=>?_⟩;cases e;obtain⟨o,n,e,c,hd,_⟩:=pl;exact⟨o,e,hd⟩
  ·refine⟨⟨o,I.kIn p o J,hc⟩,λa e=>?_⟩;cases e;exact⟨o,I.kIn _ o J,hd⟩
  ·have z:∃o,s.heap.get? p=some o∧o.ExactDict:=by
    rcases J with ⟨kvs,J⟩|⟨kvs,J⟩
    ·obtain⟨_,_,_,_,o,_,_,e,L,_⟩:=I.hok p _ J;exact⟨o,e,L⟩
    ·obtain⟨_,_,_,_,o,_,_,e,L,_⟩:=I.hok p _ J;exact⟨o,e,L⟩
   obtain⟨o,e,L⟩:=z;refine⟨⟨o,e,L.1⟩,λa e2=>?_⟩;cases e2;exact⟨o,e,L.2.1⟩
  ·obtain⟨o,_,_,_,e,L,_⟩:=I.hok p _ J;refine⟨⟨o,e,L.1⟩,λa e2=>?_⟩;cases e2;exact⟨o,e,L.2.1⟩
 |_=>exact False.elim ty
def HV (K:Z8)(T:String)(r:V→List V→Hp→VK→Prop)(to:TE):TE:=λσ H Q=>to σ H λx H1=>Ii K T x H1∧r x [] H1 Q
def IC (K:Z8)(T:String)(r:V→List V→Hp→VK→Prop)(to:TE)(t:TA):TE:=λσ H Q=>to σ H λx H1=>Ii K T x H1∧t σ H1 λxs H2=>r x xs H2 Q
variable{o e:Y3}{es:Ze}{to:TE}{t:TA}{name:Yr}{apos cpos:Ys}{T id:String}{r:V→List V→Hp→VK→Prop}
def E7 (pa:PlainAttrs T)(slot:Slot T name id)(hty:typeOf (.builtin id)=pure (.type "method_descriptor"))(hm:xg X id r)(ho:PE X o to)(hbase:attributeBase o name X.env (eval o X.env)=eval o X.env:=by rfl) (hline:(apos.endLine==cpos.line)=true:=by rfl):PE X (.Call (.Attribute o name apos) [] [] cpos) (HV X.K T r to):=by
 intro pins s σ H Q I h;refine wpAny_Call_method0_late hbase hline (aV (ho pins s σ H _ I h) λv s1 hZ86=>?_);obtain⟨x,H1,I1,r1,ty,q1⟩:=hZ86;obtain⟨h1,h2⟩:=AW I1 r1 ty;exact⟨T,id,pa,slot,hty,h1,h2,Calls.callWith_builtin rfl (PySem.evalArgs_none (hm pins s1 σ H1 x [] v [] Q I1 r1 .nil q1))⟩
def mZ (pa:PlainAttrs T)(slot:Slot T name id)(hty:typeOf (.builtin id)=pure (.type "method_descriptor"))(hm:xg X id r)(ho:PE X o to)(ha:PA X (e::es) t)(hbase:attributeBase o name X.env (eval o X.env)=eval o X.env:=by rfl)(hfew:((backTo cpos (starEach (e::es) X.env)).all (λx=> !x.1)&&(backToKw cpos (keywordEach [] X.env)).all (λx=>x.1.isSome)
  &&decide ((e::es).length+([]:List Keyword).length+(if ([]:List Keyword).isEmpty then 0 else 1)<30))=true:=by rfl)
  (hline:(apos.endLine==cpos.line)=true:=by rfl) (hs:zQ2 X e es:=by rfl) (hplain:(backTo cpos (starEach es X.env)).any (·.1)=false:=by rfl) :
  PE X (.Call (.Attribute o name apos) (e::es) [] cpos) (IC X.K T r to t):=by
 intro p s σ H Q I h;refine wpAny_Call_method_late hbase hfew hline rfl (aV (ho p s σ H _ I h) λv s1 hZ87=>?_);obtain⟨x,H1,I1,r1,ty,q1⟩:=hZ87;obtain⟨h1,h2⟩:=AW I1 r1 ty;refine⟨T,id,pa,slot,hty,h1,h2,?_⟩;have hA:=ha cpos p s1 σ H1 _ I1 q1;rw[hs]at hA ⊢;refine Calls.callWith_builtin (by show (false||(backTo cpos (starEach es X.env)).any (·.1))=false;rw[hplain] <;> rfl) (Calls.evalArgs_plain ?_);exact aV hA λus s2 hZ88=>(by obtain⟨vs,H2,I2,r2,q2⟩:=hZ88;exact hm p s2 σ H2 x vs v us Q I2 r1 r2 q2)
end
def Hj (X:Cx)(id:String)(r:V→List V→Hp→VK→Prop):Prop:=
 ∀(pins:Z9) (s:Z3) (σ:St) (H:Hp) (x:V) (xs:List V) (v:Zc) (us:Z0) (Q:VK),Inv X pins σ H s→RelV x v→Vals xs us→r x xs H Q→
  wpAny (model X.prog X.w) X.A (call (.builtin id) (v::us)) (EP X pins σ Q) X.xe s
theorem Vals.one:∀{x:V} {us:List Value},Vals [x] us→∃u,us=[u]∧RelV x u
 |_,_,.cons r .nil=>⟨_,rfl,r⟩
theorem Vals.zero:∀{us:List Value},Vals [] us→us=[]
 |_,.nil=>rfl
theorem Vals.eraseIdx:∀{xs:List V} {us:Z0} (i:Nat),Vals xs us→Vals (xs.eraseIdx i) (us.eraseIdx i)
 |_,_,_,.nil=>.nil
 |_,_,0,.cons _ t=>t
 |_,_,i+1,.cons r t=>.cons r (Vals.eraseIdx i t)
def Vals.reverse {xs:List V}{us:Z0}(h:Vals xs us):Vals xs.reverse us.reverse:=by
 induction h with
 |nil=>exact .nil
 |cons r t ih=>rw[reverse_cons,reverse_cons];exact Vals.append ih (.cons r .nil)
theorem Vals.rep {xs:List V}{us:Z0}(h:Vals xs us):∀k:Nat,Vals (replicate k xs).flatten (replicate k us).flatten
 |0=>.nil
 |k+1=>by
  rw[replicate_succ,replicate_succ,flatten_cons,flatten_cons];exact Vals.append h (Vals.rep h k)
theorem qx {α:Type}:∀(l:List α) (i:Nat),(l.eraseIdx i).length≤l.length
 | [],_=>le_refl _
 |_::_,0=>le_succ _
 |_::r,i+1=>Nat.succ_le_succ (qx r i)
theorem qj (its:Z0):∀(k:Nat) (acc:List Value),
  List.foldl (λx1 x2=>x1 ++ x2) acc.toArray (replicate k its.toArray)=(acc ++ (replicate k its).flatten).toArray
 |0,acc=>by simp
 |k+1,acc=>by
  have e:acc.toArray ++ its.toArray=(acc ++ its).toArray:=by simp
  have e2:(acc ++ its) ++ (replicate k its).flatten=acc ++ (replicate (k+1) its).flatten:=by
   rw[replicate_succ,flatten_cons,append_assoc]
  rw[←e2,←qj its k (acc ++ its),←e,replicate_succ,List.foldl_cons]
section
variable{X:Cx}{pins:Z9}{σ:St}{H:Hp}{s:Z3}{l b:Z2}{xs ys zs:List V}
def Inv.lset {its its':Z0}{n:Nat}{f:Array Value→Array Value}{t':Nat}(I:Inv X pins σ H s)(hH:H l=some (.lst xs))(e:s.heap.get? l=some {cls:=.type "list",data:=.seq its.toArray n}) (hf:f its.toArray=its'.toArray) (hv:Vals ys its') (hz:ys.length≤sizeLine) :
  Inv X pins σ (bc H l (.lst ys)) {s with heap:=s.heap.update l (Obj.mapSeq f),toks:=t'}:=by
 have q:=PySem.IsL.update e f;rw[hf]at q;refine I.write (x:=l) (e:=l) (by rw[hH];exact trivial) (.inl rfl) (λb' u hb hu=>(Heap.get?_update_other s.heap (Obj.mapSeq f) (Ne.symm hb)).trans hu) ⟨_,q⟩ ?_;exact⟨hz,its',_,hv,q⟩
def Inv.lnew {its:Z0}{t':Nat}(I:Inv X pins σ H s)(hv:Vals ys its)(hz:ys.length≤sizeLine) :
  Inv X pins σ (bc H s.heap.objs.size (.lst ys)) {s with heap:=s.heap.push {cls:=.type "list",data:=.seq its.toArray},toks:=t'}:=
 I.laid (λ_ _ q=>Heap.get?_push_of_some _ q) (le_refl _) ⟨hz,its,0,hv,Heap.get?_push_size _ rfl⟩
def Inv.fresh (I:Inv X pins σ H s):H s.heap.objs.size=none:=I.hok.fresh (le_refl _)
def Inv.lstM (I:Inv X pins σ H s)(hH:H l=some (.lst xs)):xs.length≤sizeLine∧∃(its:Z0) (n:Nat),Vals xs its∧xs.length=its.length∧s.heap.get? l=some {cls:=.type "list",data:=.seq its.toArray n}:=by
 obtain⟨z,its,n,r,e⟩:=I.hok l _ hH;exact⟨z,its,n,r,r.length,e⟩
def t6 {n:Nat}(h:n≤sizeLine):Builtin.List.listTooLong n=false:=by
 unfold Builtin.List.listTooLong;exact Zj (by omega)
end
section
variable{X:Cx}
def dP:V→List V→Hp→VK→Prop:=λx vs H Q=>∃l xs y,x= .ref l∧vs=[y]∧H l=some (.lst xs)∧xs.length<sizeLine∧Q .non (bc H l (.lst (xs ++ [y])))
def hG:Hj X "list.append" dP:=by
 intro pins s σ H x vs v us Q I rx rv h;obtain⟨l,xs,y,rfl,rfl,hH,hz,q⟩:=h;cases rx;obtain⟨u,rfl,ru⟩:=rv.one;obtain⟨z,its,n,r,hl,e⟩:=I.lstM hH;refine call_meets F.slot_list_append ⟨_,e,rfl⟩ F.entry_list_append (F.args_list_append_2 _ _) (PySem.list_append l its.toArray n u (by rw[size_toArray];omega)) ⟨e,?_⟩;refine⟨.non,_,I.lset (its':=its ++ [u]) hH e (by simp) (r.append (.cons ru .nil)) ?_,rfl,q⟩;rw[length_append,length_singleton];omega
def sx:V→List V→Hp→VK→Prop:=λx vs H Q=>∃l b xs zs,x= .ref l∧vs=[.ref b]∧H l=some (.lst xs)∧H b=some (.lst zs)∧xs.length+zs.length≤sizeLine∧Q .non (bc H l (.lst (xs ++ zs)))
def xX:Hj X "list.extend" sx:=by
 intro pins s σ H x vs v us Q I rx rv h;obtain⟨l,b,xs,zs,rfl,rfl,hH,hB,hz,q⟩:=h;cases rx;obtain⟨u,rfl,ru⟩:=rv.one;cases ru;obtain⟨z,G,n,r,hl,e⟩:=I.lstM hH;obtain⟨z2,K,n2,r2,hl2,e2⟩:=I.lstM hB;have hsz:G.toArray.size+K.toArray.size≤sizeLine:=by rw[size_toArray,size_toArray];omega
 have hlong:¬(!G.toArray.isEmpty&&Builtin.List.listTooLong (G.toArray.size+K.toArray.size))=true:=by
  rw[t6 hsz,Bool.and_false];exact Bool.false_ne_true
 refine call_meets F.slot_list_extend ⟨_,e,rfl⟩ F.entry_list_extend (F.args_list_extend_2 _ _)
  (AutoSeq1.list_extend_list_list_0 l G.toArray n b K.toArray n2 hlong (by rw[size_toArray];omega) (by omega)) ⟨e,e2,?_⟩
 refine⟨.non,_,I.lset (its':=G ++ K) hH e (by simp) (r.append r2) ?_,rfl,q⟩;rw[length_append];omega
def vz:V→List V→Hp→VK→Prop:=λx vs H Q=>∃l xs i k y,x= .ref l∧vs=[.int i]∧H l=some (.lst xs)∧ -(2 ^ 63)≤i∧i<2 ^ 63∧seqIndex? i xs.length=some k∧xs[k]?=some y∧Q y (bc H l (.lst (xs.eraseIdx k)))
def zL:Hj X "list.pop" vz:=by
 intro pins s σ H x vs v us Q I rx rv h;obtain⟨l,xs,i,k,y,rfl,rfl,hH,h1,h2,hk,hy,q⟩:=h;cases rx;obtain⟨u,rfl,ru⟩:=rv.one;obtain⟨t,rfl⟩:=ru;obtain⟨z,G,n,r,hl,e⟩:=I.lstM hH;obtain⟨w,hw,rw'⟩:=r.get hy;refine call_meets F.slot_list_pop ⟨_,e,rfl⟩ F.entry_list_pop (F.args_list_pop_2 _ _)
  (MeetsSeq.list_pop_at l G.toArray n i t k w (fitsIndex_both h1 h2) (by rw[size_toArray,←hl];exact hk) (by rw[←getElem?_toList];exact hw) (by rw[size_toArray];omega)) ⟨e,?_⟩
 refine⟨y,_,I.lset (its':=G.eraseIdx k) hH e ?_ (r.eraseIdx k) ?_,rw',q⟩
 ·show G.toArray.eraseIdxIfInBounds k=(G.eraseIdx k).toArray;rw[List.eraseIdxIfInBounds_toArray]
 ·have:=qx xs k;omega
def pc:V→List V→Hp→VK→Prop:=λx vs H Q=>∃l xs,x= .ref l∧vs=[]∧H l=some (.lst xs)∧Q .non (bc H l (.lst xs.reverse))
def vj:Hj X "list.reverse" pc:=by
 intro pins s σ H x vs v us Q I rx rv h;obtain⟨l,xs,rfl,rfl,hH,q⟩:=h;cases rx;have hus:=rv.zero;subst hus;obtain⟨z,its,n,r,hl,e⟩:=I.lstM hH;refine call_meets F.slot_list_reverse ⟨_,e,rfl⟩ F.entry_list_reverse (F.args_list_reverse_1 _) (AutoSeq1.list_reverse_list_0 l its.toArray n (by rw[size_toArray];omega)) ⟨e,?_⟩;refine⟨.non,_,I.lset (its':=its.reverse) hH e (by simp) r.reverse ?_,rfl,q⟩;rw[length_reverse];omega
def HN:R2:=λx y H Q=>∃l b xs zs,x= .ref l∧y= .ref b∧H l=some (.lst xs)∧H b=some (.lst zs)∧xs.length+zs.length≤sizeLine∧∀p,H p=none→Q (.ref p) (bc H p (.lst (xs ++ zs)))
def zQ:pK X (binaryOp .Add) HN:=by
 intro pins s σ H x y v u Q I rx ry h;obtain⟨l,b,xs,zs,rfl,rfl,hH,hB,hz,q⟩:=h;cases rx;cases ry;obtain⟨z,its,n,r,hl,e⟩:=I.lstM hH;obtain⟨z2,its2,n2,r2,hl2,e2⟩:=I.lstM hB;refine PySem.P.add_list e e2 ?_ (by rw[size_toArray,size_toArray];omega);have ea:its.toArray ++ its2.toArray=(its ++ its2).toArray:=by simp
 rw[ea];exact⟨.ref _,_,I.lnew (t':=s.toks) (r.append r2) (by rw[length_append];omega),rfl,q _ I.fresh⟩
def HP:R2:=λx y H Q=>∃l k xs,x= .ref l∧y= .int k∧H l=some (.lst xs)∧ -(2 ^ 63)≤k∧k<2 ^ 63∧xs.length*k.toNat≤sizeLine∧
 ∀p,H p=none→Q (.ref p) (bc H p (.lst (replicate k.toNat xs).flatten))
def B5 {α:Type}(xs:List α)(k:Nat):(replicate k xs).flatten.length=k*xs.length:=by
 induction k with
 |zero=>simp
 |succ k ih=>rw[replicate_succ,flatten_cons,length_append,ih,Nat.succ_mul,Nat.add_comm]
def EX:pK X (binaryOp .Mult) HP:=by
 intro pins s σ H x y v u Q I rx ry h;obtain⟨l,k,xs,rfl,rfl,hH,h1,h2,hz,q⟩:=h;cases rx;obtain⟨t,rfl⟩:=ry;obtain⟨z,G,n,r,hl,e⟩:=I.lstM hH;have hlen:G.toArray.size*k.toNat≤sizeLine:=by rw[size_toArray,←hl];exact hz
 have hcap:¬G.toArray.size*k.toNat>(2 ^ 63-1) / 8:=by
  have:(sizeLine:Nat)≤(2 ^ 63-1) / 8:=by decide
  omega
 have hfit:¬(!Builtin.List.listFitsIndex k)=true:=by
  rw[fitsIndex_both h1 h2];exact Bool.false_ne_true
 have hlong:¬Builtin.List.listTooLong (G.toArray.size*k.toNat)=true:=by
  rw[t6 hlen];exact Bool.false_ne_true
 have hnew:List.foldl (λx1 x2=>x1 ++ x2) #[] (replicate (if G.toArray.isEmpty=true then 0 else k.toNat) G.toArray)=(replicate k.toNat G).flatten.toArray:=by
  have f0:∀m:Nat,List.foldl (λx1 x2=>x1 ++ x2) #[] (replicate m G.toArray)=(replicate m G).flatten.toArray:=λm=>by
   have:=qj G m [];rw[nil_append]at this;exact this
  rw[f0];cases G with
  |nil=>simp
  |cons a r'=>rw[Ym (by simp)]
 refine wpAny_binaryOp_repeat_ref (T:= "list") (U:= "int") (by decide) ⟨_,e,rfl⟩ (λs'=>typeIs_int s' k t) noFill_list_mul F.fills_int_mul F.slot_int_rmul repeat_list F.slot_int_index.lookup
  (call_meets F.slot_int_rmul (typeIs_int s k t) F.entry_int_rmul (F.args_int_rmul_2 _ _) (int___rmul___int_list k t l G.toArray n)
   ⟨e,rfl,⟨_,e,rfl⟩,call_meets F.slot_list_mul ⟨_,e,rfl⟩ F.entry_list_mul (F.args_list_mul_2 _ _) (AutoListH.list___mul___list_int_3 l G.toArray n k t hfit hcap hlong) ⟨e,?_⟩⟩)
 rw[hnew];exact⟨.ref _,_,I.lnew (t':=s.toks) (r.rep k.toNat) (by rw[B5,Nat.mul_comm];exact hz),rfl,q _ I.fresh⟩
end
section
variable{prog:Zv}{w:Zk}{A:Zg}{E:Z6}{s:Shared}
end
section
variable{X:Cx}
end
end L2
namespace Att
open PySem PySem.W PySem.Calls PyProof.Rows
def m_ {P:Params}{h:Y6}:∀(ns:Z1) (vs:List Value),WellAll P h vs (ns.map WData.int)→IntsAre vs ns:=by
 intro ns
 induction ns with
 |nil=>
  intro vs w;rw[map_nil]at w;cases w;exact .nil
 |cons n ns ih=>
  intro vs w;rw[map_cons]at w;cases w with
  |cons a b=>
   cases a;exact .cons _ _ (ih _ b)
def ym {l:OpenLaw}{n:Nat}(hn:l.most=some n){P:Params}{h:Y6}{args:List WData}{vals:List Value}(hpre:l.row.toRowW.claim.pre args=true) (hwl:WellAll P h vals args) :
  ∃a vs ns,vals=[Value.ref a]∧args=[WData.list (ns.map WData.int)]∧h.get? a=some {cls:=.type "list",data:=.seq vs.toArray}∧IntsAre vs ns∧ns.length≤n:=by
 have hsh:WShape.hasAll [] args [.list .int]=true:=(pre_splitW hpre).1;have hc:l.pre.holds [] {args:=args}=true:=(pre_splitW hpre).2;obtain⟨d,r,rfl,h1,h2⟩:=hasAllW_cons hsh;obtain rfl:=hasAllW_nil h2;obtain⟨xs,rfl,h3⟩:=hasW_list h1;obtain⟨ns,rfl⟩:=items_int h3;have hlen:ns.length≤n:=by
  unfold OpenLaw.pre at hc;have h4:(WTm.not (.lt (.lit (.int (n:Int))) (.len (.arg 0)))).holds [] {args:=[.list (ns.map .int)]}=true:=by
   have h4:=(holds_andW hc).1;rw[hn]at h4;exact h4
  have h5:=condW_of h4 (w_not (w_lt w_lit (w_len_list (w_arg rfl))));rw[length_map]at h5;refine Nat.le_of_not_lt λq=>?_;have q':(n:Int)<((ns.length:Nat):Int):=by omega
  first
   |(rw[Zo q']at h5;exact absurd h5 (by decide))
   |(simp at h5;omega)
 cases hwl with
 |cons w1 w2=>
  cases w2;cases w1 with
  |list ho hall=>exact⟨_,_,ns,rfl,rfl,ho,m_ ns _ hall,hlen⟩
def yf (l:OpenLaw)(args:List WData):l.row.toRowW.claim.post args (.bool true) args=true:=
 postW_of (r:=l.row.toRowW) (X:=(true==true))
  (show WShape.has [] (.bool true) .bool=true by first|rfl|decide|simp[WShape.has,WShape.arms,WShape.armsAll])
  (show (WTm.eq .res (.lit (.bool true))).value [] {args:=args,res:=some (.bool true),after:=args}=some (.bool (true==true)) from w_eq_bool (w_res rfl) w_lit) rfl
def sW {l:OpenLaw}{n:Nat}{q:Zv}{loose:Zw}{XP:Yp}{YP:World→Heap→Prop}{d:DefRec}(hn:l.most=some n) (hdf:d.params.defaults=[])(call:∀(w:Zk) (s₀ s₁:Z3) (mg mb:Z4) (fa:Z2) (o:Obj) (pm cd doc:Zc) (a:Z2) (vs:Z0) (ns:List Int),
   Ground q loose [] XP w s₀ mg mb s₁.heap→YP w s₁.heap→
   s₁.heap.get? fa=some o→o.data= .func (docDef d.name d.params d.body d.scope pm cd doc)→s₁.heap.CodeRec cd d.name→mg d.name=some (.ref fa)→
   s₁.heap.get? a=some {cls:=.type "list",data:=.seq vs.toArray}→IntsAre vs ns→ns.length≤n→s₁.gens= #[]→
   codeAny (model l.prog w) callerA (.call (.ref fa) ⟨[.ref a],[]⟩) (λr s'=>r= .ok (.ret (.bool true))∧OldK s₁.heap s'.heap∧s'.os=s₁.os∧AllBare s'.gens) s₁) :
  WalkO q loose XP YP l.row.toRowW d [] (λf vs=>PySem.call f vs):=by
 intro w s₀ s₁ mg mb G Y fa o pm cd doc dV kV ho hd hcd hD hmg hg args vals as hpre hlay hrd hwl hlo;obtain rfl:dV= .none:=Dflts.none hD hdf;obtain rfl:kV= .none:=Dflts.noKw hD;obtain⟨a,vs,ns,rfl,rfl,hobj,hints,hlen⟩:=ym hn hpre hwl;refine enter_call (codeAny_mono (call w s₀ s₁ mg mb fa o pm cd doc a vs ns G Y ho (fd_plain hd) hcd hmg hobj hints hlen hg) λr s' hq=>?_);obtain⟨rfl,h2,h3,h4⟩:=hq;exact⟨.inl ⟨.bool true,.bool true,[],rfl,λ_=>rfl,.bool true,yf l _,λ_=>⟨List.Pairwise.nil,λ_ hm=>(nomatch hm)⟩⟩,h2,h3,h4⟩
section
variable{prog:Zv}{w:Zk}{A:Zg}{E:Z6}{s:Z3}{K:Frag}
end
end Att
namespace L2
open PySem PySem.Spec PyProof.Rows
theorem qQ:∀{vs:Z0} {ns:List Int},IntsAre vs ns→Vals (ns.map V.int) vs
 |_,_,.nil=>.nil
 |_,_,.cons n t h=>.cons ⟨t,rfl⟩ (qQ h)
def DI (H:Hp):Prop:=∀b,H b=none∨∃o xs,H b=some (.frz o (.lst xs))
def zA {P:Zv}{w:Zk}{K:Z8}{mg mb:Z4}{CX:sO}{k:Nat}{fa a:Z2}{fd:Y7}{x:Yr}{sp:Sp}{s₁:Z3}{vs:Z0}{ns:List Int}(KX:K.In s₁.heap) (hns:s₁.heap.Ns mainGlobals mg) (hb:s₁.heap.Ns builtinsNs mb) (hbb:∀x:Str,x≠ "__name__" →mb x=bootBuiltins x) (hlim:s₁.heap.NoLimit) (hg:s₁.gens= #[])(ha:s₁.heap.get? a=some {cls:=.type "list",data:=.seq vs.toArray}) (hi:IntsAre vs ns) (hl:ns.length≤sizeLine) (hr:Room k callerA)
  (F:∀base:Heap,K.In base→base.Ns mainGlobals mg→FnOk P w K mg base CX k fa fd [x] sp) (hbind:∀(s:Z3) (u:Value),BindsTo s fd ⟨[u],[]⟩ [(x,u)])
  (hsp:∀H:Hp,DI H→gy K H a (ns.map V.int)→sp [.ref a] H (λv _=>v= .bl true) λ_ _ _=>False)
  (hCX:∀H e s',CX [] H s₁ (λ_ _ _=>False) e s'→False) :
  codeAny (model P w) callerA (.call (.ref fa) ⟨[.ref a],[]⟩) (λr s'=>r= .ok (.ret (.bool true))∧OldK s₁.heap s'.heap∧s'.os=s₁.os∧AllBare s'.gens) s₁:=by
 have rv:=qQ hi;have lenV:=hi.length
 -- from an abstract heap in which nothing but the script may be tracked
 have core:∀H:Hp,DI H→gy K H a (ns.map V.int)→HOk P w H s₁.heap→(∀b,H b≠none→b=a)→(H a≠none→K.lookup a=none)→
   codeAny (model P w) callerA (.call (.ref fa) ⟨[.ref a],[]⟩) (λr s'=>r= .ok (.ret (.bool true))∧OldK s₁.heap s'.heap∧s'.os=s₁.os∧AllBare s'.gens) s₁:=by
  intro H hO hS hok hA hK;have L:∀{b:Z2} {o:Obj},s₁.heap.get? b=some o→H b=none→(rD s₁.heap H).get? b=some o:=λe n=>zo e n;have noA:∀{b:Z2} {o:Obj} {es:Array DictEntry} {ep:Nat},s₁.heap.get? b=some o→o.data= .dict es ep→H b=none:=λ{b o es ep} e d=>by
   cases q:H b with
   |none=>rfl
   |some u=>
    have e':b=a:=hA b (by rw[q];simp);subst e';rw[ha]at e;cases e;have d':Data.seq vs.toArray _=Data.dict es ep:=d;cases d'
  have M:∀{b:Z2} {m:Str→Option Value},s₁.heap.Ns b m→(rD s₁.heap H).Ns b m:=λ{b m} hZ89=>(by obtain⟨o,es,ep,e,d,r⟩:=hZ89;exact⟨o,es,ep,L e (noA e d),d,r⟩);have hKb:K.In (rD s₁.heap H):=λb o e=>L (KX b o e) (by
   cases q:H b with
   |none=>rfl
   |some u=>
    have e':b=a:=hA b (by rw[q];simp);subst e';rw[hK (by rw[q];simp)]at e;cases e)
  have hM:Mod K mg (rD s₁.heap H):=⟨hKb,M hns,⟨mb,M hb,hbb⟩,let ⟨mc,h1,h2⟩:=hlim;⟨mc,M h1,h2⟩⟩
  have e0:Env0 P w K mg (rD s₁.heap H) callerA [] s₁ H:=⟨rfl,hM,λb o e=>Ca e,Nat.le_of_eq (xN _ _),trivial,λb hb=>absurd (show b∈([]:Zt) from hb) (by simp),hok,.of_eq hg⟩;refine codeAny_mono ((F _ hKb (M hns)).run callerA [] s₁ H ⟨[.ref a],[]⟩ [.ref a] [.ref a] _ _ hr e0 (hbind s₁ (.ref a)) (.cons rfl .nil) (hsp H hO hS)) λr s' h=>?_;cases r with
  |error e=>exact(hCX H e s' h).elim
  |ok fl=>
   cases fl with
   |next=>exact False.elim h
   |brk=>exact False.elim h
   |cont=>exact False.elim h
   |ret u=>
    obtain⟨v,H',os,bare,un,hok',r',q⟩:=h;have q':v= .bl true:=q;subst q';obtain rfl:u=Value.bool true:=r';refine⟨rfl,OldK.of_keep λb o e=>?_,os,bare⟩;cases q:H b with
    |none=>exact un.keep b o e q (by intro z;exact absurd (show b∈([]:Zt) from z) (by simp)) (by simp)
    |some u=>
     rcases hO b with z|⟨ob,xs,z⟩
     ·rw[q]at z;cases z
     ·have z2:=un.frzs b ob _ z;obtain⟨e1,_⟩:=hok b _ z;obtain⟨e2,_⟩:=hok' b _ z2;rw[e]at e1;cases e1;exact e2
 cases hk:K.lookup a with
 |some o=>
  -- the script is one of the module's own objects
  have e:=KX a o hk;rw[ha]at e;cases e;refine core (λ_=>none) (λ_=>.inl rfl) (.inr ⟨_,vs.toArray,_,hk,rfl,rfl,rfl,by rw[size_toArray,lenV];exact hl,by simpa using rv⟩) (λb u z=>by have z':(none:Option HO)=some u:=z;cases z') (λb z=>absurd rfl z) λz=>absurd rfl z
 |none=>
  refine core (λb=>if b=a then some (.frz {cls:=.type "list",data:=.seq vs.toArray} (.lst (ns.map V.int))) else none) (λb=>?_) (.inl (.inr ⟨{cls:=.type "list",data:=.seq vs.toArray},Yo rfl⟩)) (λb u z=>?_) (λb z=>?_) λ_=>hk
  ·by_cases hb:b=a
   ·exact .inr ⟨_,_,Yo hb⟩
   ·exact .inl (Ym hb)
  ·by_cases hb:b=a
   ·have z':=(Yo hb).symm.trans z;cases z';subst hb;exact⟨ha,by rw[length_map];exact hl,vs,_,rv,ha⟩
   ·have z':=(Ym hb).symm.trans z;cases z'
  ·by_cases hb:b=a
   ·exact hb
   ·exact absurd (Ym hb) z
def C9 {l:W.OpenLaw}{n k:Nat}{q:Zv}{loose:Zw}{XP:Yp}{YP:World→Heap→Prop}{d:DefRec}{K:Params→W.Frag}{CX:World→sO}{sp:World→Sp}{x:Str}(hn:l.most=some n) (hn2:n≤sizeLine) (hdf:d.params.defaults=[]) (hr:Room k callerA)(hY:∀(w:Zk) (h:Heap),YP w h→(K w.params).In h)(F:∀(w:Zk) (mg:Z4) (fa:Z2) (h:Heap),(K w.params).In h→h.Ns mainGlobals mg→mg d.name=some (.ref fa)→
   ∃fd:FuncData,(∀(s:Z3) (u:Value),BindsTo s fd ⟨[u],[]⟩ [(x,u)])∧
    ∀base:Heap,(K w.params).In base→base.Ns mainGlobals mg→FnOk l.prog w (K w.params) mg base (CX w) k fa fd [x] (sp w))
  (hsp:∀(w:Zk) (H:Hp) (a:Z2) (ns:List Int),ns.length≤n→DI H→gy (K w.params) H a (ns.map V.int)→sp w [.ref a] H (λv _=>v= .bl true) λ_ _ _=>False)
  (hCX:∀(w:Zk) (H:Hp) (s:Z3) (e:Zc) (s':Shared),CX w [] H s (λ_ _ _=>False) e s'→False) :
  W.WalkO q loose XP YP l.row.toRowW d [] (λf vs=>PySem.call f vs):=by
 refine Att.sW hn hdf λw s₀ s₁ mg mb fa o pm cd doc a vs ns G Y ho hd hcd hmg hobj hints hlen hg=>?_;have KX:=hY w _ Y;obtain⟨fd,hb,hF⟩:=F w mg fa _ KX G.T.g hmg;exact zA KX G.T.g G.T.b G.T.builtins G.T.nolimit hg hobj hints (le_trans hlen hn2) hr hF hb (λH hO hS=>hsp w H a ns hlen hO hS) λH e s'=>hCX w H s₁ e s'
def jV (s:Yq)(j:Nat):Stmt:=match s with
 |.ClassDef _ _ _ body _ _ _ _ _ _ _=>body.getD j (.Pass ⟨0,0,0,0⟩)
 |_=>.Pass ⟨0,0,0,0⟩
def iF (s:Yq):Arguments:=match s with
 |.FunctionDef _ a _ _ _ _ _ _ _ _=>a
 |_=>{posonlyargs:=[],args:=[],vararg:=none,kwonlyargs:=[],kw_defaults:=[],kwarg:=none,defaults:=[]}
def da (s:Yq):List Stmt:=match s with
 |.FunctionDef _ _ b _ _ _ _ _ _ _=>b
 |_=>[]
def aj (s:Yq):Scope:=match s with
 |.FunctionDef _ _ _ _ _ _ sc _ _ _=>sc
 |_=>{kind:=.function,names:=[],isGenerator:=false,isCoroutine:=false}
structure Fun (K:Z8)(x qual:Yr)(st:Yq)(f:Z2)(fd:Y7):Prop where
 ex:∃(oc:Zc) (od:Option Addr) (kV doc pm:Zc) (an:Option Addr) (cdv ct:Zc) (osl:Array (Option Value)),
  fd=W.fnOf x qual (iF st) (da st) (aj st) .none kV doc pm an cdv ct∧K.lookup f=some ⟨oc,od,.func fd,osl⟩∧W.codeIn K cdv qual=true
 kp:W.keepIn K (.ref f)=true
section
variable{P:Zv}{w:Zk}{K:Z8}{mg:Z4}{base:Heap}
def Fun.binds {st:Yq}{fd:Y7}{ps:Zw}(F:Fun K x qual st f fd)(h:∀(kV doc pm:Zc) (an:Option Addr) (cdv ct:Zc) (us:List Value),us.length=ps.length→bindArgs (W.fnOf x qual (iF st) (da st) (aj st) .none kV doc pm an cdv ct) ⟨us,[]⟩=pure (ps.zip us)):Binds K fd ps []:=by
 obtain⟨oc,od,kV,doc,pm,an,cdv,ct,osl,rfl,lk,hcd⟩:=F.ex;exact .all (h kV doc pm an cdv ct)
def zj {st:Yq}{od an:Option Addr}{osl:Array (Option Value)}{kV doc pm cdv ct:Zc}(l:K.lookup f=some ⟨oc,od,.func (W.fnOf x qual (iF st) (da st) (aj st) .none kV doc pm an cdv ct),osl⟩)(c:W.codeIn K cdv qual=true) (k:W.keepIn K (.ref f)=true):Fun K x qual st f (W.fnOf x qual (iF st) (da st) (aj st) .none kV doc pm an cdv ct):=⟨⟨oc,od,kV,doc,pm,an,cdv,ct,osl,rfl,l,c⟩,k⟩
end
section
variable{X:Cx}
def pv (i:Nat){x:Yr}{pos:Ys}(hN:X.N[i]?=some x:=by rfl)(hv:uJ X.env.scope x:=by first|exact Or.inl rfl|exact Or.inr (Or.inl rfl)|exact Or.inr (Or.inr rfl))(hd:zQ1 x:=by decide)(hcd:(x==("__classdict__" :Str))=false:=by decide):PE X (.Name x pos) (Fz i):=en hN hv hd hcd
end
def Same (H H':Hp):Prop:=∀b o,H b=some o→H' b=some o
def Same.refl (H:Hp):Same H H:=λ_ _ h=>h
def Same.trans {H H1 H2:Hp}(a:Same H H1)(b:Same H1 H2):Same H H2:=λc o h=>b c o (a c o h)
def Same.free {H H':Hp}(e:Same H H'){l:Z2}(h:H' l=Option.none):H l=Option.none:=by
 cases q:H l with
 |none=>rfl
 |some o=>
  rw[e l o q]at h;cases h
def Same.seq {K:Z8}{H H':Hp}{xs:List V}(e:Same H H')(h:gy K H a xs):gy K H' a xs:=by
 rcases h with (h|⟨o,h⟩)|h
 ·exact .inl (.inl (e _ _ h))
 ·exact .inl (.inr ⟨o,e _ _ h⟩)
 ·exact .inr h
section
variable(P:Zv)(w:World)
end
section
variable{P:Zv}{w:Zk}{H H':Hp}{h h':Y6}{a:Z2}{o:HO}
end
section
variable{P:Zv}{w:Zk}{H:Hp}{h h':Y6}{x e:Z2}{o':HO}
end
section
variable{fs fs' ex ex':Zt}{H H1 H2:Hp}{h h1 h2 h':Y6}{a x e:Z2}{o:HO}
end
section
variable{X:Cx}{pins:Z9}{σ:List (Option V)}{H H':Hp}{s:Z3}{h':Heap}
end
section
variable{X:Cx}
variable{a b:Y3}{ta tb:TE}{pos:Pos}
variable{tA tB':TT}{rest:List Expr}
end
section
variable{X:Cx}{pins:Z9}{σ:St}{H:Hp}{s:Z3}{a:Z2}{xs ys:List V}
end
section
variable{X:Cx}{pins:Z9}{σ:St}{H:Hp}{s:Z3}{E:Value→Shared→Prop}
end
section
variable{X:Cx}{st:Yq}{rest:List Stmt}{t u:TS}{e:Y3}{te:TE}{pos:Pos}
end
section
variable{X:Cx}{pos:Pos}
end
section
variable{X:Cx}{tg:Expr}
end
section
variable{X:Cx}{a b c:Y3}{ta tb tc:TE}{pos:Pos}
end
section
variable{prog:Zv}{w:Zk}{A:Zg}{E:Z6}{s:Z3}{K:Z8}{x dx C f:Z2}{mA:Z4}{name:Yr}{v:Value}
end
section
variable{P:Zv}{w:Zk}{H H':Hp}{h h':Y6}{a C dx:Z2}{fs fs':List (Str×V)}
end
section
variable{X:Cx}{pins:Z9}{σ:St}{H:Hp}{s:Z3}{a C dx:Z2}{fs:List (Str×V)}{f:Yr}{v:V}{A:Zg}{E:Value→Shared→Prop}
end
section
variable{X:Cx}{o e value:Y3}{f:Yr}{pos pos' tpos:Ys}{ta tv:TE}
end
section
variable{X:Cx}{pins:Z9}{σ:St}{H:Hp}{s:Z3}{A:Zg}{E:Z6}{Q:Z6}{c:Zc}{b:Bool}
end
section
variable{X:Cx}{e:Y3}{es:Ze}{te:TE}{t:TA}{pos:Pos}
end
section
variable{X:Cx}{pins:Z9}{σ:St}{H:Hp}{s s':Shared}
end
section
variable{X:Cx}{CX:sO}{k:Nat}{f C:Z2}{fd:Y7}{ps:Zw}{sp:Sp}{dvs:List V}{ds:Z0}{E:XK}{x m:Yr}{p pos apos:Ys}{e o:Y3}{es:Ze}{ta:TE}{t:TA}
end
section
variable{X:Cx}{CX:sO}{k:Nat}{f C:Z2}{fd:Y7}{ps ks:Zw}{sp:Sp}{E:XK}{x m:Yr}{p pos apos kpos:Ys}{e o:Y3}{es:Ze}{kws:List Keyword}{te ta:TE}{t tk:TA}{nm:Option Str}
variable{g:List Value→List Value→List Value}{gV:List V→List V→List V}
end
section
variable{X:Cx}{x:Yr}{p pos:Ys}{e:Y3}{es:Ze}{t:TA}{id T:String}{r:List V→Hp→VK→Prop}
end
section
variable{κ:Type}[DecidableEq κ]
def je (kvs:List (κ×V))(k:κ):Option V:=(kvs.find? λkv=>decide (kv.1=k)).map (·.2)
def gn (kvs:List (κ×V))(k:κ)(v:V):List (κ×V):=
 if (kvs.any λkv=>decide (kv.1=k))=true then kvs.map (λkv=>if kv.1=k then (kv.1,v) else kv) else kvs ++ [(k,v)]
def lS {p:κ×V}{r:List (κ×V)}{k:κ}(e:p.1=k):je (p::r) k=some p.2:=by simp[je,find?_cons,e]
def jK {p:κ×V}{r:List (κ×V)}{k:κ}(e:¬p.1=k):je (p::r) k=je r k:=by simp[je,find?_cons,e]
theorem lR (k:κ):∀kvs:List (κ×V),(kvs.any λkv=>decide (kv.1=k))=(je kvs k).isSome
 | []=>rfl
 |p::r=>by
  rw[any_cons];by_cases e:p.1=k
  ·simp only[lS e,Zo e,Bool.true_or,Option.isSome_some]
  ·rw[jK e,Zj e,Bool.false_or];exact lR k r
def mU (kvs:List (κ×V))(k:κ)(v:V):(gn kvs k v).length≤kvs.length+1:=by
 unfold gn;split
 ·rw[length_map];omega
 ·rw[length_append,length_cons,length_nil];omega
def As {kvs:List (κ×V)}{k:κ}(v:V)(h:je kvs k=none):gn kvs k v=kvs ++ [(k,v)]:=by
 unfold gn;rw[lR,h];exact Ym (by decide)
def RelO.isSome_eq {o:Option V}{u:Option Value}(r:RelO o u):o.isSome=u.isSome:=by
 cases o with
 |none=>cases u with
  |none=>rfl
  |some _=>exact(show False from r).elim
 |some _=>cases u with
  |none=>exact(show False from r).elim
  |some _=>rfl
def KV.val {kvs:List (κ×V)}{vs:List (κ×Value)}(r:KV kvs vs)(k:κ):RelO (je kvs k) (valueAt vs k):=by
 unfold KV at r
 induction r with
 |nil=>exact True.intro
 | @cons p q ps qs h t ih=>
  obtain⟨h1,h2⟩:=h;by_cases e:p.1=k
  ·have e':q.1=k:=h1.symm.trans e;have b:valueAt (q::qs) k=some q.2:=by simp[valueAt,find?_cons,e']
   rw[lS e,b];exact h2
  ·have e':¬q.1=k:=λz=>e (h1.trans z);have b:valueAt (q::qs) k=valueAt qs k:=by simp[valueAt,find?_cons,e']
   rw[jK e,b];exact ih
def KV.any {kvs:List (κ×V)}{vs:List (κ×Value)}(r:KV kvs vs)(k:κ):(kvs.any λkv=>decide (kv.1=k))=vs.any λkv=>decide (kv.1=k):=by
 unfold KV at r
 induction r with
 |nil=>rfl
 |cons h t ih=>rw[any_cons,any_cons,ih,h.1]
def KV.repl {kvs:List (κ×V)}{vs:List (κ×Value)}(r:KV kvs vs)(k:κ){y:V}{u:Zc}(ry:RelV y u) :
  KV (kvs.map λkv=>if kv.1=k then (kv.1,y) else kv) (vs.map λkv=>if kv.1=k then (kv.1,u) else kv):=by
 unfold KV at r ⊢
 induction r with
 |nil=>exact .nil
 | @cons p q ps qs h t ih=>
  rw[map_cons,map_cons];refine .cons ?_ ih;obtain⟨h1,h2⟩:=h;by_cases e:p.1=k
  ·rw[Yo e,Yo (h1.symm.trans e)];exact⟨h1,ry⟩
  ·rw[Ym e,Ym (λz=>e (h1.trans z))];exact⟨h1,h2⟩
def KV.put {kvs:List (κ×V)}{vs:List (κ×Value)}(r:KV kvs vs)(k:κ){y:V}{u:Zc}(ry:RelV y u):KV (gn kvs k y) (stored vs k u):=by
 unfold gn stored;rw[r.any k];by_cases e:(vs.any λkv=>decide (kv.1=k))=true
 ·rw[Yo e,Yo e];exact r.repl k ry
 ·rw[Ym e,Ym e];exact Paired.snoc r ⟨rfl,ry⟩
def KV.length {kvs:List (κ×V)}{vs:List (κ×Value)}(r:KV kvs vs):kvs.length=vs.length:=Paired.length r
end
def zv {P:Zv}{w:Zk}{k:bL}(r:RelV (kV k) u):(bP P w).is k u=true:=by
 cases k with
 |inl i=>obtain⟨t,e⟩:=(show ∃t,u=Value.int i t from r);subst e;exact tW P w i t
 |inr x=>obtain⟨t,e⟩:=(show ∃t,u=Value.str x t from r);subst e;exact tX P w x t
theorem qp {P:Zv}{w:Zk}:∀{ks:List bL} {us:List Value},Vals (ks.map kV) us→ItemsAre (bP P w) ks us
 | [],_,r=>by rw[map_nil]at r;cases r;exact .nil
 |k::ks,_,r=>by
  rw[map_cons]at r;cases r with
  |cons h t=>exact .cons (zv h) (qp t)
abbrev KT (H:Hp):List (List bL×V)→List (List bL×Addr×Value)→Prop:=Paired λp q=>p.1=q.1∧H q.2.1=some (.tup (p.1.map kV))∧RelV p.2 q.2.2
def KT.val {H:Hp}{kvs:List (List bL×V)}{xs:List (List bL×Addr×Value)}(r:KT H kvs xs)(k:List bL):RelO (je kvs k) ((atKey xs k).map (·.2)):=by
 induction r with
 |nil=>exact True.intro
 | @cons p q ps qs h t ih=>
  obtain⟨h1,_,h2⟩:=h;by_cases e:p.1=k
  ·have e':q.1=k:=h1.symm.trans e;have b:atKey (q::qs) k=some q.2:=by simp[atKey,find?_cons,e']
   rw[lS e,b];exact h2
  ·have e':¬q.1=k:=λz=>e (h1.trans z);have b:atKey (q::qs) k=atKey qs k:=by simp[atKey,find?_cons,e']
   rw[jK e,b];exact ih
def KT.repl {H:Hp}{kvs:List (List bL×V)}{xs:List (List bL×Addr×Value)}(r:KT H kvs xs)(k:List bL){y:V}{u:Zc}(ry:RelV y u) :
  KT H (kvs.map λkv=>if kv.1=k then (kv.1,y) else kv) (xs.map (putAt k u)):=by
 induction r with
 |nil=>exact .nil
 | @cons p q ps qs h t ih=>
  rw[map_cons,map_cons];refine .cons ?_ ih;obtain⟨h1,h2,h3⟩:=h;unfold putAt;by_cases e:p.1=k
  ·rw[Yo e,Yo (h1.symm.trans e)];exact⟨h1,h2,ry⟩
  ·rw[Ym e,Ym (λz=>e (h1.trans z))];exact⟨h1,h2,h3⟩
def KT.put {H:Hp}{kvs:List (List bL×V)}{xs:List (List bL×Addr×Value)}(r:KT H kvs xs)(k:List bL){b:Z2}{y:V}{u:Zc}(hb:H b=some (.tup (k.map kV)))(ry:RelV y u) :
  KT H (gn kvs k y) (storedH xs k b u):=by
 have e:(kvs.any λkv=>decide (kv.1=k))=(atKey xs k).isSome:=by
  rw[lR,(r.val k).isSome_eq,Option.isSome_map]
 unfold gn storedH;rw[e];by_cases q:(atKey xs k).isSome=true
 ·rw[Yo q,Yo q];exact r.repl k ry
 ·rw[Ym q,Ym q];exact Paired.snoc r ⟨rfl,hb,ry⟩
def KT.keeps {H H':Hp}{kvs:List (List bL×V)}{xs:List (List bL×Addr×Value)}(r:KT H kvs xs)(ht:∀b ys,H b=some (.tup ys)→H' b=some (.tup ys)):KT H' kvs xs:=
 Paired.mapP r λ_ _ z=>⟨z.1,ht _ _ z.2.1,z.2.2⟩
section
variable{P:Zv}{w:Zk}{H:Hp}{h:Y6}{a:Addr}
def pe {u:HO}(ok:HOk P w H h)(e:Rd H a u):ObjOk P w H h a u:=e.ok ok
def yO {kvs:List (bL×V)}(ok:HOk P w H h)(e:Rd H a (.dK kvs)):kvs.length≤sizeLine∧(a==sysModules)=false∧∃vs,KV kvs vs∧h.DictOf (bP P w) a vs:=
 show ObjOk P w H h a (.dK kvs) from pe ok e
def F5 {kvs:List (bL×V)}(ok:HOk P w H h)(e:H a=some (.dK kvs)):kvs.length≤sizeLine∧(a==sysModules)=false∧∃vs,KV kvs vs∧h.DictOf (bP P w) a vs:=yO ok (.inl e)
def u8 {ks:List bL}(ok:HOk P w H h)(e:H a=some (.tup (ks.map kV))):(tupleKind (bP P w)).is h ks a:=by
 obtain⟨_,its,r,o,h1,h2,n,h3⟩:=(show ObjOk P w H h a (.tup (ks.map kV)) from ok a _ e);exact⟨o,its.toArray,n,h1,h2,h3,by simpa using qp r⟩
def yT {kvs:List (List bL×V)}(ok:HOk P w H h)(e:Rd H a (.dT kvs)):kvs.length≤sizeLine∧(a==sysModules)=false∧
  ∃xs,KT H kvs xs∧h.DictOfH (tupleKind (bP P w)) a xs:=by
 obtain⟨z,y,xs,r,o,es,ep,h1,h2,h3,h4,h5⟩:=(show ObjOk P w H h a (.dT kvs) from pe ok e);refine⟨z,y,xs,r,o,es,ep,h1,h2,h3,h4,λx hx=>?_,h5⟩;have all:∀{l:List (List bL×V)} {m:List (List bL×Addr×Value)},KT H l m→∀x∈m,(tupleKind (bP P w)).is h x.1 x.2.1:=by
  intro l m q
  induction q with
  |nil=>intro x hx;exact nomatch hx
  | @cons p q ps qs hq t ih=>
   intro x hx
   rcases mem_cons.mp hx with e|hx
   ·subst e;exact u8 ok (by rw[←hq.1];exact hq.2.1)
   ·exact ih x hx
 exact all r x hx
def F7 {kvs:List (List bL×V)}(ok:HOk P w H h)(e:H a=some (.dT kvs)):kvs.length≤sizeLine∧(a==sysModules)=false∧
  ∃xs,KT H kvs xs∧h.DictOfH (tupleKind (bP P w)) a xs:=yT ok (.inl e)
end
def DG (H:Hp)(a:Z2)(y:V)(r:Option V):Prop:=
 (∃kvs k,Rd H a (.dK kvs)∧y=kV k∧r=je kvs k)∨∃kvs k b,Rd H a (.dT kvs)∧y= .ref b∧H b=some (.tup (k.map kV))∧r=je kvs k
def FQ (H:Hp)(a:Z2)(y v:V)(H':Hp):Prop:=
 (∃kvs k,H a=some (.dK kvs)∧y=kV k∧kvs.length<sizeLine∧H'=bc H a (.dK (gn kvs k v)))∨
 ∃kvs k b,H a=some (.dT kvs)∧y= .ref b∧H b=some (.tup (k.map kV))∧kvs.length<sizeLine∧H'=bc H a (.dT (gn kvs k v))
section
variable{X:Cx}{pins:Z9}{σ:St}{H:Hp}{s:Z3}{a:Z2}{y v:V}{u r:Zc}{o:Option V}{A:Zg}{E:Value→Shared→Prop}
def Inv.big (I:Inv X pins σ H s):sysModules<s.heap.objs.size:=by
 have h:mainGlobals<s.heap.objs.size:=(I.mod.glob.keeps I.bk).lt;exact Nat.lt_trans (by decide) h
def xq {Q:Z6}(hu:A.units+1<cLine)(I:Inv X pins σ H s)(g:DG H a y (some v))(ry:RelV y u)(h:∀w' s',Inv X pins σ H s'→RelV v w'→Q w' s') :
  wpAny (model X.prog X.w) A (getItem (.ref a) u) Q E s:=by
 rcases g with ⟨kvs,k,e,ey,l⟩|⟨kvs,k,b,e,ey,eb,l⟩
 ·subst ey;obtain⟨z,hd,vs,rel,dd⟩:=yO I.hok e;obtain⟨w',hw,rw'⟩:=RelO.some_of (v:=v) (o:=valueAt vs k) (by rw[l];exact rel.val k);exact wpAny_getItem_of (zv ry) dd.mapOf hw (h w' _ (I.tok _) rw')
 ·subst ey;cases (show u=Value.ref b from ry);obtain⟨z,hd,xs,rel,dd⟩:=yT I.hok e;obtain⟨w',hw,rw'⟩:=RelO.some_of (v:=v) (o:=(atKey xs k).map (·.2)) (by rw[l];exact rel.val k);obtain⟨p,hp,hp2⟩:=Option.map_eq_some_iff.mp hw;refine wpAny_getItem_heap (tupleKind_room_in1 hu) (u8 I.hok eb) dd hp ?_;rw[hp2];exact h w' _ (I.tok _) rw'
def vX {h':Y6}{t':Nat}{ob:HO}(I:Inv X pins σ H s)(mu:FS (H a))(hs:Heap.SameBut a s.heap h')(he:∃q,h'.get? a=some q)(new:ObjOk X.prog X.w (bc H a ob) h' a ob) :
  Inv X pins σ (bc H a ob) {s with heap:=h',toks:=t'}:=
 I.write (x:=a) (e:=a) mu (.inl rfl) (λb q hb z=>(hs.2 b hb).trans z) he new
def DW {P:Zv}{w:Zk}{H':Hp}{h':Y6}{kvs:List (bL×V)}{vs:List (bL×Value)}(z:kvs.length≤sizeLine)(hd:(a==sysModules)=false)(rel:KV kvs vs)(dd:h'.DictOf (bP P w) a vs) :
  ObjOk P w H' h' a (.dK kvs):=⟨z,hd,vs,rel,dd⟩
def xt {H':Hp}{Q:Unit→Shared→Prop}(hu:A.units+1<cLine)(I:Inv X pins σ H s)(g:FQ H a y v H')(ry:RelV y u)(rv:RelV v r)(h:∀s',Inv X pins σ H' s'→Q () s') :
  wpAny (model X.prog X.w) A (setItem (.ref a) u r) Q E s:=by
 rcases g with ⟨N,k,e,ey,l,eH⟩|⟨N,k,b,e,ey,eb,l,eH⟩
 ·subst ey eH;obtain⟨z,hd,vs,O,dd⟩:=F5 I.hok e;have hz:vs.length≤sizeLine:=by rw[←O.length];exact z
  have hl:(gn N k v).length≤sizeLine:=by have:=mU N k v;omega
  refine wpAny_setItem_pairs (hsz:=hz) (zv ry) dd λh' P hs=>h _ ?_;have he:∃q,h'.get? a=some q:=let ⟨q,_,_,hq,_⟩:=P;⟨q,hq⟩
  exact vX I (by rw[e];exact True.intro) hs he (DW hl hd (O.put k rv) P)
 ·subst ey eH;cases (show u=Value.ref b from ry);obtain⟨z,hd,xs,O,dd⟩:=F7 I.hok e;have hz:xs.length≤sizeLine:=by rw[←Paired.length O];exact z
  have hl:(gn N k v).length≤sizeLine:=by have:=mU N k v;omega
  refine wpAny_setItem_heap (hsz:=hz) (tupleKind_room_in1 hu) (u8 I.hok eb) dd λh' P hs=>h _ ?_;obtain⟨q,es,ep,hq,h2,h3,h4,_,h5⟩:=P;refine vX I (by rw[e];exact True.intro) hs ⟨q,hq⟩ ⟨hl,hd,_,(O.put k eb rv).keeps λc ys ec=>?_,q,es,ep,hq,h2,h3,h4,h5⟩;rw[am (GF ec e (λz=>nomatch z))]
  exact ec
end
section
variable{X:Cx}{pins:Z9}{σ:St}{H:Hp}{s:Z3}{a:Z2}{kvs:List (bL×V)}{k:bL}{u:Zc}{A:Zg}{E:Value→Shared→Prop}
end
def Ba (i:Y3):Prop:=∀ov iv,subscripted i false ov iv=operate [ov,iv] (getItem ov iv)
def C4 {prog:Zv}{w:Zk}{A:Zg}{E:Z6}{s:Z3}{env:Env}{value slice:Y3}{pos:Ys}{T id:String}{Q:Value→Shared→Prop}(hl:typeLookup (.type T) "__getitem__" =pure (some (.builtin id))) (hs:Ba slice)(h:wpAny (model prog w) A (eval value env) (λo s₁=>wpAny (model prog w) A (eval slice env) (λi s₂=>s₂.TypeIs o T∧wpAny (model prog w) A (getItem o i) Q E s₂) E s₁) E s) :
  wpAny (model prog w) A (eval (.Subscript value slice pos) env) Q E s:=by
 refine Subscript_ (wpAny_mono h (λo s₁ h₁=>wpAny_mono h₁ (λi s₂ R=>?_) λ_ _ x=>x) λ_ _ x=>x);obtain⟨hT,R⟩:=R;unfold subscriptTail;refine Zx ?_;rw[getitemInPython_of_ne hT.not_modules];refine Zx (wpAny_specialOf hT hl ?_);have fin:wpAny (model prog w) A (subscripted slice false o i) (λr s₃=>wpAny (model prog w) A (letTemporaryGo value o r >>= λ_=>pure r) Q E s₃) E s₂:=by
  rw[hs o i];exact wpAny_operating (wpAny_mono R (λr s₃ h₃=>Zx (wpAny_letTemporaryGo (Zq h₃))) λ_ _ x=>x)
 first
  |exact Zq (Zx fin)
  |exact Zx (Zq (Zx fin))
  |exact Zx fin
def tj {X:Cx}{pins:Z9}{σ:St}{H:Hp}{s:Z3}{y:V}{o:Option V}(I:Inv X pins σ H s)(g:DG H a y o):s.TypeIs (.ref a) "dict" :=by
 rcases g with ⟨kvs,k,e,_,_⟩|⟨kvs,k,b,e,_,_,_⟩
 ·obtain⟨_,_,vs,_,dd⟩:=yO I.hok e;exact dd.typeIs
 ·obtain⟨_,_,xs,_,dd⟩:=yT I.hok e;exact dd.typeIs
def DA (td ty:TE):TE:=λσ H Q=>td σ H λx H1=>ty σ H1 λy H2=>∃a v,x= .ref a∧DG H2 a y (some v)∧Q v H2
def G9 (td ty tv:TE):TS:=λD σ H=>tv σ H λv H1=>td σ H1 λx H2=>ty σ H2 λy H3=>∃a H4,x= .ref a∧FQ H3 a y v H4∧D.nx σ H4
section
variable{X:Cx}{o i e value:Y3}{pos pos' tpos:Ys}{td ty tv:TE}
def wK (hu:X.A.units+1<cLine)(ho:PE X o td)(hi:PE X i ty)(hs:Ba i):PE X (.Subscript o i pos) (DA td ty):=by
 intro pins s σ H Q I h;refine C4 PySem.F.slot_dict_getitem.lookup hs (aV (ho pins s σ H _ I h) λu s1 ⟨x,H1,I1,rx,q1⟩=>aV (hi pins s1 σ H1 _ I1 q1) λiv s2 hZ91=>?_);obtain⟨y,H2,I2,ry,a,v,ex,g,q2⟩:=hZ91;subst ex;obtain rfl:u=Value.ref a:=rx;exact⟨tj I2 g,xq hu I2 g ry λw' s3 I3 rw'=>⟨v,H2,I3,rw',q2⟩⟩
def CI (hu:X.A.units+1<cLine)(ho:PE X o td)(hi:PE X i ty)(hv:PE X value tv)(hs:swapsWith value (some (.Subscript o i pos')) pos.line X.env=pure false) :
  PS X (.Assign [.Subscript o i pos'] value pos) (G9 td ty tv):=by
 intro p s σ H D I h;refine wpAny_Assign_Subscript (aV (hv p s σ H _ I h) λr s1 ⟨v,H1,I1,rv,q1⟩=>aV (ho p s1 σ H1 _ I1 q1) λu s2 ⟨x,H2,I2,rx,q2⟩=>aV (hi p s2 σ H2 _ I2 q2) λiv s3 hZ94=>?_) hs;obtain⟨y,H3,I3,ry,a,H4,ex,g,q3⟩:=hZ94;subst ex;obtain rfl:u=Value.ref a:=rx;exact xt hu I3 g ry rv λs4 I4=>⟨σ,H4,I4,q3⟩
end
def yS {P:Zv}{w:Zk}{H:Hp}(h:Y6)(hb:sysModules<h.objs.size):ObjOk P w H (h.push {cls:=.type "dict",data:=.dict #[]}) h.objs.size (.dT []):=
 ⟨zero_le _,beq_eq_false_iff_ne.mpr (Ne.symm (ne_of_lt hb)),[],.nil,_,#[],0,Heap.get?_push_size _ rfl,⟨rfl,rfl,rfl⟩,rfl,rfl,nodup_nil⟩
def Fx:TE:=λ_ H Q=>∀p,H p=none→Q (.ref p) (bc H p (.dT []))
section
variable{X:Cx}{pos:Pos}
def zY:PE X (.Dict [] [] pos) Fx:=λpins s σ H Q I h=>
 wpAny_Dict_empty ⟨.ref s.heap.objs.size,_,I.laid (a:=s.heap.objs.size) (o:=.dT []) (t':=s.toks) (λ_ _ q=>Heap.get?_push_of_some _ q) (le_refl _) (yS s.heap I.big),rfl,h _ (I.hok.fresh (le_refl _))⟩
end
section
variable{X:Cx}{pins:Z9}{σ:St}{H:Hp}{s:Z3}{a:Z2}{y d:V}{u r:Zc}{o:Option V}{A:Zg}{E:Value→Shared→Prop}
end
section
variable{X:Cx}{o e f:Y3}{apos cpos:Ys}{td ty tx:TE}
end
section
variable{X:Cx}{pins:Z9}{σ:St}{H:Hp}{s:Z3}{a:Z2}{kvs:List (bL×V)}{A:Zg}{E:Value→Shared→Prop}
end
section
variable{X:Cx}{pins:Z9}{σ:St}{H:Hp}{s:Z3}{a:Z2}{y:V}{u:Zc}{A:Zg}{E:Value→Shared→Prop}
end
end L2
namespace Att
open PySem PySem.W PySem.Calls PyProof.Rows
section
variable{prog:Zv}{w:Zk}{A:Zg}{E:Z6}{s:Z3}{K:Frag}
end
end Att
namespace L2
open PySem PySem.Spec PyProof.Rows
section
variable{P:Zv}{w:Zk}{K:Z8}{mg:Z4}{base:Heap}
end
section
variable{X:Cx}
end
section
variable{κ:Type}[DecidableEq κ]
end
def Un.onto {fs:Zt}{H H':Hp}{h h1 h2:Y6}(u:Un fs [] H H' h h1)(k:∀b o,h1.get? b=some o→b∉fs→(∃o',h.get? b=some o')→h2.get? b=some o)(sl:∀b o,h1.get? b=some o→b∈fs→(∃o',h.get? b=some o')→∃s,h2.get? b=some {o with slots:=s}):Un fs [] H H' h h2 where
 keep:=λb o e n hb hx=>k b o (u.keep b o e n hb hx) hb ⟨o,e⟩
 slot:=λb o e n hb hx=>by
  obtain⟨s1,e1⟩:=u.slot b o e n hb hx;obtain⟨s2,e2⟩:=sl b _ e1 hb ⟨o,e⟩;exact⟨s2,e2⟩
 free:=u.free
 there:=λb o e hx=>by
  obtain⟨o',e'⟩:=u.there b o e hx;by_cases hb:b∈fs
  ·obtain⟨s,z⟩:=sl b o' e' hb ⟨o,e⟩;exact⟨_,z⟩
  ·exact⟨o',k b o' e' hb ⟨o,e⟩⟩
 tups:=u.tups
 frzs:=u.frzs
 tbls:=u.tbls
def HOk.onto {P:Zv}{w:Zk}{H:Hp}{h1 h2:Y6}(x:HOk P w H h1)(k:∀b o u,H b=some u→h1.get? b=some o→h2.get? b=some o):HOk P w H h2:=λa o e=>
 (x a o e).stay (λb u hb q=>by
  rcases hb with rfl|hb
  ·exact k b u _ e q
  ·exact k b u _ hb q) (λ_ q=>q) λ_ _ q=>q
def ObjOk.at {P:Zv}{w:Zk}{H:Hp}{h:Y6}{o:HO}(x:ObjOk P w H h a o):∃ob,h.get? a=some ob:=by
 cases o with
 |lst xs=>obtain⟨_,_,_,_,e⟩:=x;exact⟨_,e⟩
 |tup xs=>obtain⟨_,_,_,p⟩:=x;obtain⟨o,e,_⟩:=p;exact⟨o,e⟩
 |dK kvs=>obtain⟨_,_,_,_,o,_,_,e,_⟩:=x;exact⟨o,e⟩
 |dT kvs=>obtain⟨_,_,_,_,o,_,_,e,_⟩:=x;exact⟨o,e⟩
 |set S n=>obtain⟨o,_,_,_,e,_⟩:=x;exact⟨o,e⟩
 |ins C dx fs=>obtain⟨_,_,_,e,_⟩:=x;exact⟨_,e⟩
 |own y=>exact x
 |xd fs=>obtain⟨_,⟨o,_,_,e,_⟩,_⟩:=x;exact⟨o,e⟩
 |rng lo hi=>obtain⟨_,_,_,e⟩:=x;exact⟨_,e⟩
 |frz ob u=>obtain⟨e,_⟩:=x;exact⟨ob,e⟩
 |tbl ps=>exact⟨_,(show h.get? a=some _ from x)⟩
 |met f y=>exact⟨_,(show h.get? a=some _ from x)⟩
 |ext φ=>obtain⟨_,e,_⟩:=x;exact e
inductive CXF (P:Zv)(w:Zk)(outer:Y1)(H:Hp)(s:Z3)(E:XK)(ev:Zc)(s':Z3):Prop
 |mk (e:Z2) (cls a0:Zc) (B:Y6) (H':Hp) (h1:ev= .ref e) (h2:s'.os=s.os) (h3:AllBare s'.gens)
  (h4:Un (gc outer) [] H H' s.heap s'.heap) (h5:HOk P w H' s'.heap) (h6:Heap.FlyingW B outer e cls a0 s'.heap)
  (h7:∀b o,s'.heap.get? b=some o→b∉gc outer→((∃u,H' b=some u)∨∃o',s.heap.get? b=some o')→B.get? b=some o)
  (h8:H' e=none) (h9:s.heap.get? e=none) (q:E cls none H')
section
variable{X:Cx}{pins:Z9}{σ:St}{H:Hp}{s:Shared}
def Inv.noFields (I:Inv X pins σ H s){b:Z2}(hb:b∈gc X.stack){o:Obj}(e:s.heap.get? b=some o):∀vs,o.data≠ .fields vs:=by
 obtain⟨_,o',e',h⟩:=I.stack.mem hb;rw[e]at e';cases e';exact h
def jm {P:Zv}{w:Zk}{K:Z8}{mg:Z4}{base:Y6}{N:Zw}{qual:Yr}{scope:Yz}{f:Z2}{cd:Zc}{A:Zg}{outer:Y1}{s₀:Z3}{H₀:Hp}{E E':XK}(he:∀c a H,E' c a H→E c a H) :
  de (CXF P w) (pO (CXF P w) P w K mg base N qual scope f cd A outer s₀ H₀ E) E':=by
 intro pins σ H s ev s' I h;obtain⟨e,cls,a0,B,H',rfl,os,bare,un,hok,fl,cov,hn,hs,q⟩:=h;have Y:∀{b:Z2} {o:Obj},s₀.heap.get? b=some o→b≠s₀.heap.objs.size:=λe=>ne_of_lt (Yu e);have R:gc (envOfC qual scope s₀.heap.objs.size f cd::outer)=s₀.heap.objs.size::gc outer:=rfl;have hfr:∀b∈gc (envOfC qual scope s₀.heap.objs.size f cd::outer),∀o,s'.heap.get? b=some o→∀vs,o.data≠ .fields vs:=λb x o eo=>by
  obtain⟨_,o',e',h⟩:=fl.2.2.1.mem x;rw[eo]at e';cases e';exact h
 have Ib:=I.base;have X:∀b:Addr,b∉(pO (CXF P w) P w K mg base N qual scope f cd A outer s₀ H₀ E).ex:=λb z=>absurd (show b∈([]:Zt) from z) (by simp);have nL:H' s₀.heap.objs.size=none:=by
  obtain⟨m,⟨o,_,_,ho,_⟩,_⟩:=I.loc;exact un.free _ o ho I.free (by simp)
 show wpAny _ _ (leaving _ (.ref e)) _ _ s';refine wpAny_leaves_onW (base:=B) I.ok.frames rfl fl λh2 fl2 up=>?_;have S:∀b o,s'.heap.get? b=some o→b∉gc outer→b≠s₀.heap.objs.size→((∃u,H' b=some u)∨∃o',s.heap.get? b=some o')→h2.get? b=some o:=λb o i nb nl hh=>
  fl2.1 b o (cov b o i (by show b∉s₀.heap.objs.size::gc outer;simp[nl,nb]) hh)
 have Z:∀b o,s'.heap.get? b=some o→b∈gc outer→∃sl,h2.get? b=some {o with slots:=sl}:=λb o i x=>
  up b o i (hfr b (by rw[R];exact dk x) o i)
 have U:∀b o,s₀.heap.get? b=some o→∃V,s.heap.get? b=some V:=λb o T=>Ib.there b o T (X b);have hUn:Un (gc outer) [] H₀ H' s₀.heap h2:={
  keep:=λb o T n x _=>by
   have i:=Ib.keep b o T n x (X b);have n1:=Ib.free b o T n (X b);have hb2:b∉gc (envOfC qual scope s₀.heap.objs.size f cd::outer):=by rw[R];simp[Y T,x]
   exact S b o (un.keep b o i n1 hb2 (by simp)) x (Y T) (.inr ⟨o,i⟩)
  slot:=λb o T n x _=>by
   obtain⟨s1,i⟩:=Ib.slot b o T n x (X b);have n1:=Ib.free b o T n (X b);obtain⟨s2,p⟩:=un.any i n1 (by simp);obtain⟨s3,e3⟩:=Z b _ p x;exact⟨s3,e3⟩
  free:=λb o T n _=>by
   obtain⟨V,i⟩:=U b o T;exact un.free b V i (Ib.free b o T n (X b)) (by simp)
  there:=λb o T _=>by
   obtain⟨V,i⟩:=U b o T;obtain⟨o2,p⟩:=un.there b V i (by simp);by_cases x:b∈gc outer
   ·obtain⟨s3,e3⟩:=Z b o2 p x;exact⟨_,e3⟩
   ·exact⟨o2,S b o2 p x (Y T) (.inr ⟨V,i⟩)⟩
  tups:=λb xs q=>un.tups b xs (Ib.tups b xs q)
  frzs:=λb o u q=>un.frzs b o u (Ib.frzs b o u q)
  tbls:=λb ps q=>by
   obtain⟨m1,i⟩:=Ib.tbls b ps q;obtain⟨m2,p⟩:=un.tbls b _ i;exact⟨m1 ++ m2,by rw[p,Array.append_assoc]⟩}
 have frf':∀b u,H' b=some u→b∉gc outer∧b≠s₀.heap.objs.size:=λb u i=>by
  refine⟨λx=>?_,λz=>by rw[z,nL]at i;cases i⟩;have n0:H b=none:=I.stkFree b (by show b∈gc (envOfC qual scope s₀.heap.objs.size f cd::outer);rw[R];exact dk x);obtain⟨_,o,eo,_⟩:=I.stack.mem (show b∈gc (envOfC qual scope s₀.heap.objs.size f cd::outer) by rw[R];exact dk x);rw[un.free b o eo n0 (by simp)]at i;cases i
 have hok2:HOk P w H' h2:=hok.onto λb o u x eo=>S b o eo (frf' b u x).1 (frf' b u x).2 (.inl ⟨u,x⟩);have cov2:∀b o,h2.get? b=some o→b∉gc outer→((∃u,H' b=some u)∨∃o',s₀.heap.get? b=some o')→B.get? b=some o:=λb o p x hh=>by
  rcases hh with ⟨u,hu⟩|⟨o0,T⟩
  ·obtain⟨V,i⟩:=(hok b u hu).at;have z:=S b V i (frf' b u hu).1 (frf' b u hu).2 (.inl ⟨u,hu⟩);rw[p]at z;cases z;exact cov b o i (by show b∉s₀.heap.objs.size::gc outer;simp[x,(frf' b u hu).2]) (.inl ⟨u,hu⟩)
  ·obtain⟨V,i⟩:=U b o0 T;obtain⟨o2,e3⟩:=un.there b V i (by simp);have z:=S b o2 e3 x (Y T) (.inr ⟨V,i⟩);rw[p]at z;cases z;exact cov b o e3 (by show b∉s₀.heap.objs.size::gc outer;simp[x,Y T]) (.inr ⟨V,i⟩)
 refine⟨e,cls,a0,B,H',rfl,os.trans I.os,bare,hUn,hok2,fl2,cov2,hn,?_,he _ _ _ q⟩;cases z:s₀.heap.get? e with
 |none=>rfl
 |some o=>
  obtain⟨V,i⟩:=U e o z;rw[hs]at i;cases i
end
abbrev F2:List Value:=[.type "ValueError",.type "Exception",.type "BaseException",.type "object"]
inductive ExIn (K:Z8)(C:Z2):Prop
 |mk (bm:Z0) (N:Z2) (nm q:Yr) (bs:Z0) (hd:Bool) (sn:Zw) (sub:Z0) (ab:Bool) (col:Option Bool) (dd:Option Addr) (k0 k1 k2 k3 k5:Option Value) (l:K.lookup C=some (excClassObj nm q C N bs bm hd sn sub ab col dd k0 k1 k2 k3 k5 "ValueError.__new__")) (ok:W.nsOkIn K N=true) (ni:W.nsIn K N "__init__" =some none) (ht:W.tailIn K F2 bm=true)
structure ExcC (K:Z8)(mg:Z4)(x:Yr)(C:Z2):Prop where
 mgx:mg x=some (.ref C)
 ein:ExIn K C
theorem BV {K:Z8}{C:Z2}{h₀:Y6}(X:K.In h₀):ExIn K C→
  ∃bm N nm q bs hdct sn sub ab col dd k0 k1 k2 k3 k5 mN,h₀.get? C=some (excClassObj nm q C N bs bm hdct sn sub ab col dd k0 k1 k2 k3 k5 "ValueError.__new__")∧h₀.Ns N mN∧mN "__init__" =none∧OwnTail h₀ F2 bm
 |⟨bm,N,nm,q,bs,hd,sn,sub,ab,col,dd,k0,k1,k2,k3,k5,l,ok,ni,ht⟩=>⟨bm,N,nm,q,bs,hd,sn,sub,ab,col,dd,k0,k1,k2,k3,k5,_,X _ _ l,.of_isNs (W.isNs_of_in X ok),W.nsMap_none_of_in X ok ni,W.tail_of_in X ht⟩
def kx (X:Cx)(E:XK):Prop:=∀(pins:Z9) (σ:St) (H:Hp) (s:Z3) (e C:Z2) (h':Y6) (args:List Value),Inv X pins σ H s→Heap.MadeExcOf s.heap h' e (.ref C) args→E (.ref C) none H→X.xe (.ref e) {s with heap:=h'}
def qH {P:Zv}{w:Zk}{K:Z8}{mg:Z4}{base:Y6}{N:Zw}{qual:Yr}{scope:Yz}{f:Z2}{cd:Zc}{A:Zg}{outer:Y1}{s₀:Z3}{H₀:Hp}{E E':XK}(he:∀c a H,E' c a H→E c a H):kx (pO (CXF P w) P w K mg base N qual scope f cd A outer s₀ H₀ E) E':=by
 intro pins σ H s e C h' args I hx q;have R:gc (envOfC qual scope s₀.heap.objs.size f cd::outer)=s₀.heap.objs.size::gc outer:=rfl;have hin:∀env∈(envOfC qual scope s₀.heap.objs.size f cd::outer),∀b,env.frame=some b→b∈gc (envOfC qual scope s₀.heap.objs.size f cd::outer):=λenv he b x=>mem_filterMap.mpr ⟨env,he,x⟩;have X:∀b:Addr,b∉(pO (CXF P w) P w K mg base N qual scope f cd A outer s₀ H₀ E).ex:=λb z=>absurd (show b∈([]:Zt) from z) (by simp);have hlt:∀{b:Z2} {o:Obj},s₀.heap.get? b=some o→b≠s₀.heap.objs.size:=λe=>ne_of_lt (Yu e);have Ib:=I.base;show wpAny _ _ (leaving _ (.ref e)) _ _ _;refine wpAny_leaves_madeW (base:=W.hideAll s.heap (gc (envOfC qual scope s₀.heap.objs.size f cd::outer))) (h:=s.heap) (s:={s with heap:=h'}) I.ok.frames rfl (λb o q=>W.of_hideAll _ q) (W.funFrames_hide I.stack hin) hx λh2 t fl tup tn up=>?_
 have S:∀b o,s.heap.get? b=some o→b∉gc outer→b≠s₀.heap.objs.size→h2.get? b=some o:=λb o i nb nl=>
  fl.1 b o (W.hideAll_get _ i (by rw[R];simp[nl,nb]))
 have Y:∀b o,s.heap.get? b=some o→b∈gc outer→∃sl,h2.get? b=some {o with slots:=sl}:=λb o i x=>
  up b o (hx.keeps b o i) (I.noFields (show b∈gc (envOfC qual scope s₀.heap.objs.size f cd::outer) by rw[R];exact dk x) i)
 have frf':∀b u,H b=some u→b∉gc outer∧b≠s₀.heap.objs.size:=λb u i=>by
  refine⟨λx=>?_,λz=>?_⟩
  ·rw[I.stkFree b (show b∈gc (envOfC qual scope s₀.heap.objs.size f cd::outer) by rw[R];exact dk x)]at i;cases i
  ·rw[z,show H s₀.heap.objs.size=none from I.free]at i;cases i
 refine⟨e,.ref C,.ref t,_,H,rfl,I.os,I.bare,?_,?_,fl,?_,?_,?_,he _ _ _ q⟩
 ·exact {
   keep:=λb o T n x _=>S b o (Ib.keep b o T n x (X b)) x (hlt T)
   slot:=λb o T n x _=>by
    obtain⟨s1,i⟩:=Ib.slot b o T n x (X b);obtain⟨s2,e2⟩:=Y b _ i x;exact⟨s2,e2⟩
   free:=λb o T n _=>Ib.free b o T n (X b)
   there:=λb o T _=>by
    obtain⟨V,i⟩:=Ib.there b o T (X b);by_cases x:b∈gc outer
    ·obtain⟨s3,e3⟩:=Y b V i x;exact⟨_,e3⟩
    ·exact⟨V,S b V i x (hlt T)⟩
   tups:=Ib.tups
   frzs:=Ib.frzs
   tbls:=Ib.tbls}
 ·exact I.hok.onto λb o u x eo=>S b o eo (frf' b u x).1 (frf' b u x).2
 ·intro b o e2 x hh;have main:∀V,s.heap.get? b=some V→b≠s₀.heap.objs.size→(W.hideAll s.heap (gc (envOfC qual scope s₀.heap.objs.size f cd::outer))).get? b=some o:=λV i nl=>by
   have z:=S b V i x nl;rw[e2]at z;cases z;exact W.hideAll_get _ i (by rw[R];simp[nl,x])
  rcases hh with ⟨u,hu⟩|⟨o0,T⟩
  ·obtain⟨V,i⟩:=(I.hok b u hu).at;exact main V i (frf' b u hu).2
  ·obtain⟨V,i⟩:=Ib.there b o0 T (X b);exact main V i (hlt T)
 ·cases z:H e with
  |none=>rfl
  |some u=>
   obtain⟨V,i⟩:=(I.hok e u z).at;rw[hx.new]at i;cases i
 ·cases z:s₀.heap.get? e with
  |none=>rfl
  |some o=>
   obtain⟨V,i⟩:=Ib.there e o z (X e);rw[hx.new]at i;cases i
section
variable{X:Cx}
def Fy (t:TA)(C:Z2)(E:XK):TS:=λ_ σ H=>t σ H λvs H1=>vs.length≤sizeLine∧E (.ref C) none H1
def Ar {np cpos pos:Ys}{t:TA}{C:Z2}{E:XK}(hR:kx X E)(hc:X.calm=true)(G:ExcC X.K X.mg x C)(hg:Gl X x)(ha:PA X (e::es) t)(he:zQ2 X e es:=by rfl) (hpl:(backTo cpos (starEach es X.env)).any (·.1)=false:=by rfl) (hdb:zQ1 x:=by decide) :
  PS X (.Raise (some (.Call (.Name x np) (e::es) [] cpos)) none pos) (Fy t C E):=by
 intro pins s σ H D I h;obtain⟨tl,N,nm,q,bs,hdct,sn,sub,ab,col,dd,k0,k1,k2,k3,k5,mN,hC,hN,hni,T⟩:=BV I.ok.mod.kin G.ein;refine wpAny_Raise_call_subT (C:=C) (nm:=nm) (q:=q) (N:=N) (bs:=bs) (bm:=tl) (hdct:=hdct) (sn:=sn) (sub:=sub) (ab:=ab) (col:=col) (dd:=dd) (k0:=k0) (k1:=k1) (k2:=k2) (k3:=k3) (k5:=k5)
  PySem.F.excBase_ValueError (mN:=mN) (T.hasType PySem.F.excBase_ValueError.hasBase) (I.ok.hd hc) (by rw[he];show (false||(backTo cpos (starEach es X.env)).any (·.1))=false;rw[hpl];rfl) hni (jY I hg G.mgx ⟨rfl,?_⟩ hdb)
 have h2:=ha cpos pins s σ H _ I h;rw[he]at h2 ⊢;exact Calls.evalArgs_plain (wpAny_mono h2 (λus s₂ hZ95=>(by obtain⟨vs,H1,I1,r,q1,q2⟩:=hZ95;exact⟨rfl,by rw[←r.length];exact q1,I1.bk _ _ hC,hN.keeps I1.bk,T.keeps I1.bk,λh' e hm=>hR pins σ H1 s₂ e C h' us I1 hm q2⟩)) λ_ _ y=>y)
end
section
variable{X:Cx}{pins:Z9}{σ:St}{H H':Hp}{s:Shared}
abbrev GG (X:Cx):St:=replicate X.N.length none
def Inv.forget (I:Inv X pins σ H s){h':Y6}{m':Z4}{t':Nat}(hs:Heap.SameBut X.env.locals s.heap h')(hn:h'.Ns X.env.locals m'):Inv X pins (GG X) H {s with heap:=h',toks:=t'}:=by
 have ne:∀{b:Z2} {o:Obj},X.s₀.heap.get? b=some o→b≠X.env.locals:=λe=>ne_of_lt (lt_of_lt_of_le (Yu e) I.ok.above);refine⟨I.ok,I.os,I.bare,⟨λb o e n hb hx=>(hs.2 b (ne e)).trans (I.base.keep b o e n hb hx),λb o e n hb hx=>?_,I.base.free,λb o e hx=>?_,I.base.tups,I.base.frzs,I.base.tbls⟩,⟨m',hn,λj y v e1 e2 e3=>?_⟩,λy c e=>?_,I.free,I.freeC,λp hp=>?_,?_,by simp[GG]⟩
 ·obtain⟨sl,e1⟩:=I.base.slot b o e n hb hx;exact⟨sl,(hs.2 b (ne e)).trans e1⟩
 ·obtain⟨o',e1⟩:=I.base.there b o e hx;exact⟨o',(hs.2 b (ne e)).trans e1⟩
 ·rw[List.getElem?_replicate]at e2;split at e2 <;> cases e2
 ·obtain⟨w',z⟩:=I.cell y c e;exact⟨w',z.sameBut hs (I.cne y c e)⟩
 ·obtain⟨e,n,nl,nf,d⟩:=I.pin p hp;exact⟨(hs.2 p.1 nl).trans e,n,nl,nf,d⟩
 ·exact I.hok.onto λb o u hb eo=>(hs.2 b λz=>by rw[z,I.free]at hb;cases hb).trans eo
abbrev Cx.inH (X:Cx)(e:Z2)(E:Z6):Cx:={X with A:=X.A.mark (some (.ref e)),calm:=false,xe:=E}
def Cx.Ok.inH (ok:X.Ok)(e:Z2)(E:Z6):(X.inH e E).Ok:=
 ⟨ok.mod,ok.kind,ok.glob,ok.blt,ok.above,ok.inj,ok.has,ok.cab,λz=>Bool.noConfusion z,ok.frames,ok.stk,ok.exf,ok.bs,ok.bsz,ok.noex,ok.exfs,ok.funs,ok.frf⟩
def Inv.inH (I:Inv X pins σ H s)(e:Z2)(E:Z6):Inv (X.inH e E) pins σ H s:=⟨I.ok.inH e E,I.os,I.bare,I.base,I.loc,I.cell,I.free,I.freeC,I.pin,I.hok,I.len⟩
def Inv.outH {E:Z6}(ok:X.Ok)(I:Inv (X.inH e E) pins σ H s):Inv X pins σ H s:=⟨ok,I.os,I.bare,I.base,I.loc,I.cell,I.free,I.freeC,I.pin,I.hok,I.len⟩
abbrev Cx.tr (X:Cx)(E:Z6)(pn:Z9):Cx:={X with xe:=E,pn:=pn}
def Cx.Ok.tr (ok:X.Ok)(E:Z6)(pn:Z9):(X.tr E pn).Ok:=
 ⟨ok.mod,ok.kind,ok.glob,ok.blt,ok.above,ok.inj,ok.has,ok.cab,ok.hd,ok.frames,ok.stk,ok.exf,ok.bs,ok.bsz,ok.noex,ok.exfs,ok.funs,ok.frf⟩
def Inv.tr (I:Inv X pins σ H s)(E:Z6):Inv (X.tr E (X.pn ++ pins)) [] σ H s:=⟨I.ok.tr E _,I.os,I.bare,I.base,I.loc,I.cell,I.free,I.freeC,λp hp=>I.pin p (by rwa[append_nil]at hp),I.hok,I.len⟩
def Inv.untr {pins':Z9}{E:Z6}(ok:X.Ok)(I:Inv (X.tr E (X.pn ++ pins)) pins' σ H s):Inv X pins σ H s:=⟨ok,I.os,I.bare,I.base,I.loc,I.cell,I.free,I.freeC,λp hp=>I.pin p (mem_append_left _ hp),I.hok,I.len⟩
def m5 (e:Z2)(cls:Zc):HO:=.ext λh=>∃o,h.get? e=some o∧o.cls=cls
def Inv.landed {E:XK}{s':Z3}(I:Inv X pins σ H s)(h:CXF X.prog X.w X.stack H s E ev s') :
  ∃(e:Z2) (cls a0:Zc) (B:Y6) (H':Hp),ev= .ref e∧Heap.FlyingW B X.stack e cls a0 s'.heap∧H' e=Option.none∧E cls Option.none H'∧
   ∀(h2:Y6) (t2:Nat),Heap.FlyingW B X.stack e cls a0 h2→s'.heap.UpToSlots h2→Inv X pins σ (bc H' e (m5 e cls)) {s' with heap:=h2,toks:=t2}∧Inv X pins σ H' {s' with heap:=h2,toks:=t2}:=by
 obtain⟨e,cls,a0,B,H',rfl,os,bare,un,hok,fl,cov,hn,hs,q⟩:=h;refine⟨e,cls,a0,B,H',rfl,fl,hn,q,λh2 t2 fl2 up=>?_⟩;have hfr:∀b∈gc X.stack,∀o,s'.heap.get? b=some o→∀vs,o.data≠ .fields vs:=λb x o eo=>by
  obtain⟨_,o',e',h⟩:=fl.2.2.1.mem x;rw[eo]at e';cases e';exact h
 have nfr:∀b u,H' b=some u→b∉gc X.stack:=λb u i x=>by
  obtain⟨_,o,eo,_⟩:=I.stack.mem x;rw[un.free b o eo (I.stkFree b x) (by simp)]at i;cases i
 have Z:Un (gc X.stack) [] H H' s.heap h2:=un.onto (λb o i nb hh=>fl2.1 b o (cov b o i nb (.inr hh))) λb o i x _=>up b o i (hfr b x o i);have hok2:HOk X.prog X.w H' h2:=hok.onto λb o u hu i=>fl2.1 b o (cov b o i (nfr b u hu) (.inl ⟨u,hu⟩));have I2:Inv X pins σ H' {s' with heap:=h2,toks:=t2}:=I.call' (ch:=[]) os Z hok2 bare (λb z=>absurd z (by simp))
 obtain⟨ob,hob,hcl⟩:=fl2.there;refine⟨?_,I2⟩;have new:ObjOk X.prog X.w (bc H' e (m5 e cls)) h2 e (m5 e cls):=⟨⟨ob,hob,hcl⟩,⟨ob,hob⟩,λh1 h2 ⟨o,a,b⟩ k=>⟨o,k o a,b⟩⟩;have hok3:HOk X.prog X.w (bc H' e (m5 e cls)) h2:=λb u eb=>by
  by_cases x:b=e
  ·subst x;rw[au]at eb;cases eb;exact new
  ·rw[am x]at eb;exact(hok2 b u eb).stay (λc v _ q=>q) (λc q=>by rw[am (aD q hn)];exact q) λc xs q=>by rw[am (aD q hn)];exact q
 have un3:Un (gc X.stack) [] H (bc H' e (m5 e cls)) s.heap h2:={
  keep:=Z.keep,slot:=Z.slot,there:=Z.there
  free:=λb o i n hx=>by
   have nb:b≠e:=λz=>by rw[z,hs]at i;cases i
   rw[am nb];exact Z.free b o i n hx
  tups:=λb xs q=>by
   have z:=Z.tups b xs q;rw[am (aD z hn)];exact z
  frzs:=λb o u q=>by
   have z:=Z.frzs b o u q;rw[am (aD z hn)];exact z
  tbls:=λb ps q=>by
   obtain⟨m,z⟩:=Z.tbls b ps q;exact⟨m,by rw[am (aD z hn)];exact z⟩}
 exact I.call' (ch:=[]) os un3 hok3 bare (λb z=>absurd z (by simp))
end
def d6:Addr→List (Str×NameKind)→List (Str×Addr)→List (Str×Addr)
 |_,[],cs=>cs
 |k,(n,kd)::r,cs=>if (kd==.cell)=true then d6 (k+1) r ((n,k)::cs) else d6 k r cs
theorem eV {α:Type}{c:α}:∀{l:List (Str×α)},l.lookup x=some c→(x,c)∈l
 | [],h=>by simp at h
 |(n,d)::r,h=>by
  rw[lookup_cons]at h;split at h
  ·rename_i hy;cases h;have hy':x=n:=by simpa using hy
   rw[hy'];exact mem_cons_self
  ·exact dk (eV h)
theorem oa:∀{l:Zd} {k:Z2} {cs:List (Str×Addr)},(∀p∈cs,p.2<k)→(∀x y c,(x,c)∈cs→(y,c)∈cs→x=y)→∀x y c,(x,c)∈d6 k l cs→(y,c)∈d6 k l cs→x=y
 | [],_,_,_,h=>h
 |(n,kd)::r,k,cs,h1,h2=>by
  unfold d6;split
  ·refine oa (λp hp=>?_) λx y c hx hy=>?_
   ·rcases mem_cons.mp hp with e|e
    ·rw[e];exact lt_succ_self _
    ·exact lt_succ_of_lt (h1 p e)
   ·rcases mem_cons.mp hx with e|e <;> rcases mem_cons.mp hy with f|f
    ·cases e;cases f;rfl
    ·cases e;exact absurd (h1 _ f) (lt_irrefl _)
    ·cases f;exact absurd (h1 _ e) (lt_irrefl _)
    ·exact h2 x y c e f
  ·exact oa h1 h2
theorem jR :∀{l:Zd} {k:Z2} {cs:List (Str×Addr)},(∃c,cs.lookup x=some c)→∃c,(d6 k l cs).lookup x=some c
 | [],_,_,h=>h
 |(n,kd)::r,k,cs,h=>by
  unfold d6;split
  ·refine jR ?_;rw[lookup_cons];split
   ·exact⟨_,rfl⟩
   ·exact h
  ·exact jR h
theorem s0 :∀{l:Zd} {k:Z2} {cs:List (Str×Addr)},(x,NameKind.cell)∈l→∃c,(d6 k l cs).lookup x=some c
 |(n,kd)::r,k,cs,h=>by
  unfold d6
  rcases mem_cons.mp h with e|e
  ·cases e;rw[Yo (beq_self_eq_true _)];exact jR ⟨k,by rw[lookup_cons];simp⟩
  ·split <;> exact s0 e
theorem oe :∀{l:Zd} {k:Z2} {cs:List (Str×Addr)},(x,NameKind.cell)∉l→(d6 k l cs).lookup x=cs.lookup x
 | [],_,_,_=>rfl
 |(n,kd)::r,k,cs,h=>by
  have hr:(x,NameKind.cell)∉r:=λz=>h (dk z);unfold d6;split
  ·rename_i hk;have hk':kd= .cell:=by simpa using hk
   rw[oe hr,lookup_cons];have hne:(x==n)=false:=beq_eq_false_iff_ne.mpr λz=>h (by rw[z,hk'];exact mem_cons_self);rw[hne]
  ·exact oe hr
section
variable{M:Model}{A:Zg}{E:Value→Shared→Prop}
def kE:∀(l:Zd) (cs:Y2) (s:Z3) (Q:List (Str×Addr)→Shared→Prop),(∀h':Heap,(∀b o,s.heap.get? b=some o→h'.get? b=some o)→(∀x c,(x,c)∈d6 s.heap.objs.size l cs→(x,c)∈cs∨(s.heap.objs.size≤c∧∃v,h'.IsCell c v))→Q (d6 s.heap.objs.size l cs) {s with heap:=h'})→
  wpAny M A (forIn l cs λx r=>if (x.2==NameKind.cell)=true then do let a ←alloc {cls:=.type "cell",data:=.cell none};pure (ForInStep.yield ((x.1,a)::r)) else pure (ForInStep.yield r):Sem (List (Str×Addr))) Q E s
 | [],cs,s,Q,h=>Zq (h s.heap (λ_ _ e=>e) λx c hx=>.inl hx)
 |(n,kd)::r,cs,s,Q,h=>by
  rw[List.forIn_cons];by_cases hk:(kd==NameKind.cell)=true
  ·simp only[hk,if_true];refine Zx (Zx (wpAny_alloc (Zq (kE r _ _ Q λh' k1 k2=>?_))));have hs:(s.heap.push {cls:=.type "cell",data:=.cell none}).objs.size=s.heap.objs.size+1:=Heap.size_push ..;have e:d6 s.heap.objs.size ((n,kd)::r) cs=d6 (s.heap.objs.size+1) r ((n,s.heap.objs.size)::cs):=by conv=>lhs;unfold d6;rw[Yo hk]
   dsimp only at k1 k2 ⊢;rw[hs]at k2 ⊢;have key:=h h' (λb o eb=>k1 b o (Heap.get?_push_of_some _ eb)) λx c hx=>by
    rw[e]at hx
    rcases k2 x c hx with z|z
    ·rcases mem_cons.mp z with y|y
     ·cases y;exact .inr ⟨le_refl _,none,_,k1 _ _ (Heap.get?_push_size _ rfl),rfl⟩
     ·exact .inl y
    ·exact .inr ⟨Nat.le_of_succ_le z.1,z.2⟩
   rw[e]at key;exact key
  ·simp only[hk,if_false];refine Zx (Zq (kE r _ _ Q λh' k1 k2=>?_));have e:d6 s.heap.objs.size ((n,kd)::r) cs=d6 s.heap.objs.size r cs:=by conv=>lhs;unfold d6;rw[Ym hk]
   rw[←e]at k2 ⊢;exact h h' k1 k2
def B_ {s:Z3}{scope:Yz}{globals:Z2}{cl:Y2}{qual:Yr}{env:Env}{Q:Env→Shared→Prop}(q:∀h':Heap,(∃m,h'.Ns s.heap.objs.size m)→(∀b o,s.heap.get? b=some o→h'.get? b=some o)→(∀x c,(x,c)∈d6 (s.heap.objs.size+1) scope.names cl→(x,c)∈cl∨(s.heap.objs.size<c∧∃v,h'.IsCell c v))→Q {scope:=scope,locals:=s.heap.objs.size,globals:=globals,cells:=d6 (s.heap.objs.size+1) scope.names cl,qual:=qual,func:=none,code:=env.code,frame:=env.frame,builtins:=env.builtins} {s with heap:=h'}) :
  wpAny M A (newFunctionEnv scope globals cl [] qual none .none (some env)) Q E s:=by
 unfold newFunctionEnv;refine Zx (wpAny_alloc (Zx ?_));have hs:(s.heap.push {cls:=.type "dict",data:=.dict #[]}).objs.size=s.heap.objs.size+1:=Heap.size_push ..;refine kE scope.names cl {s with heap:=s.heap.push {cls:=.type "dict",data:=.dict #[]}} _ λh' k1 k2=>?_
 dsimp only at k1 k2 ⊢;rw[hs]at k2 ⊢;refine Zx (Zq (Zq (q h' ⟨λ_=>none,_,#[],0,k1 _ _ (Heap.get?_push_size _ rfl),rfl,?_,λ_=>rfl⟩ (λb o e=>k1 b o (Heap.get?_push_of_some _ e)) λx c hx=>k2 x c hx)));exact(by simp[StrKeys])
end
def d7 (cells:Y2):List (Str×NameKind)→List (Str×Addr)→List (Str×Addr)
 | [],cs=>cs
 |(n,k)::r,cs=>d7 cells r (if k==.free then (match cells.lookup n with|some c=>(n,c)::cs|none=>cs) else cs)
def kg {scope:Yz}{env:Env}(h:∀y∈scope.names,y.2= .free→∃c,env.cells.lookup y.1=some c):closureFor scope env=pure (d7 env.cells scope.names []):=by
 unfold closureFor;have go:∀(l:Zd) (cs:List (Str×Addr)),(∀y∈l,y.2= .free→∃c,env.cells.lookup y.1=some c)→
   (forIn l cs λx r=>if (x.2==NameKind.free)=true then do let c ←cellOf env x.1;pure (ForInStep.yield ((x.1,c)::r)) else pure (ForInStep.yield r):Sem (List (Str×Addr)))=pure (d7 env.cells l cs):=by
  intro l
  induction l with
  |nil=>intro cs _;rfl
  |cons x r ih=>
   intro cs hl;obtain⟨n,k⟩:=x;rw[List.forIn_cons];by_cases hk:k= .free
   ·subst hk;obtain⟨c,hc⟩:=hl (n,.free) mem_cons_self rfl;have hc':env.cells.lookup n=some c:=hc;have e:cellOf env n=pure c:=by unfold cellOf;rw[hc']
    simp only[beq_self_eq_true,if_true,e,pure_bind,d7,hc'];exact ih _ λy hy=>hl y (dk hy)
   ·have e:(k==NameKind.free)=false:=by simpa using hk
    simp only[e,false_eq_true,if_false,pure_bind,d7];exact ih _ λy hy=>hl y (dk hy)
 have:=go scope.names [] h;simpa using this
theorem qg {cells:Y2}:∀{l:Zd} {cs:Y2} {x:Str},(∃c,cs.lookup x=some c)→∃c,(d7 cells l cs).lookup x=some c
 | [],cs,x,h=>h
 |(n,k)::r,cs,x,⟨c,h⟩=>by
  unfold d7;refine qg ?_;split
  ·split
   ·rw[lookup_cons];split
    ·exact⟨_,rfl⟩
    ·exact⟨c,h⟩
   ·exact⟨c,h⟩
  ·exact⟨c,h⟩
theorem oh {cells:Y2}:∀{l:Zd} {cs:Y2} {x:Str},(x,NameKind.free)∈l→(∃c,cells.lookup x=some c)→∃c,(d7 cells l cs).lookup x=some c
 |(n,k)::r,cs,x,hm,⟨c,hc⟩=>by
  rcases mem_cons.mp hm with e|hm
  ·cases e;unfold d7;refine qg ?_;rw[Yo (by rfl),hc];exact⟨c,by rw[lookup_cons];simp⟩
  ·unfold d7;exact oh hm ⟨c,hc⟩
theorem jF {env:Env}:∀{names:Zd} {x:Yr} {k:NameKind},(names.map λ(n,k)=>if (k==NameKind.free&&env.scope.kind==.function&&env.kindOf n==some .cell) then (n,NameKind.cell) else (n,k)).lookup x=some k→(k= .cell∨k= .free)→(x,NameKind.free)∈names∨(x,NameKind.cell)∈names
 | [],_,_,h,_=>by simp at h
 |(n,k0)::r,x,k,h,hk=>by
  have ih:= @jF env r x k;rw[map_cons,lookup_cons]at h;by_cases c:(k0==NameKind.free&&env.scope.kind==.function&&env.kindOf n==some .cell)=true
  ·have hf:k0= .free:=by
    simp only[and_eq_true,beq_iff_eq]at c;exact c.1.1
   subst hf;rw[Yo c]at h;dsimp only at h;split at h
   ·rename_i hy;have:x=n:=by simpa using hy
    subst this;exact .inl mem_cons_self
   ·exact(ih h hk).imp (mem_cons_of_mem _) (mem_cons_of_mem _)
  ·rw[Ym c]at h;dsimp only at h;split at h
   ·rename_i hy;have:x=n:=by simpa using hy
    subst this;cases h
    rcases hk with rfl|rfl
    ·exact .inr mem_cons_self
    ·exact .inl mem_cons_self
   ·exact(ih h hk).imp (mem_cons_of_mem _) (mem_cons_of_mem _)
theorem iP {env:Env}:∀{names:Zd} {x:Str},names.lookup x=some .free→(names.map λ(n,k)=>if (k==NameKind.free&&env.scope.kind==.function&&env.kindOf n==some .cell) then (n,NameKind.cell) else (n,k)).lookup x=some .cell∨(names.map λ(n,k)=>if (k==NameKind.free&&env.scope.kind==.function&&env.kindOf n==some .cell) then (n,NameKind.cell) else (n,k)).lookup x=some .free
 | [],_,h=>by simp at h
 |(n,k0)::r,x,h=>by
  have ih:= @iP env r x;rw[lookup_cons]at h;rw[map_cons,lookup_cons];by_cases c:(k0==NameKind.free&&env.scope.kind==.function&&env.kindOf n==some .cell)=true
  ·rw[Yo c];dsimp only;split at h
   ·exact .inl rfl
   ·exact ih h
  ·rw[Ym c];dsimp only;split at h
   ·exact .inr h
   ·exact ih h
theorem iO {env:Env}:∀{names:Zd} {x:Str},names.lookup x=some .cell→(names.map λ(n,k)=>if (k==NameKind.free&&env.scope.kind==.function&&env.kindOf n==some .cell) then (n,NameKind.cell) else (n,k)).lookup x=some .cell
 | [],_,h=>by simp at h
 |(n,k0)::r,x,h=>by
  have ih:= @iO env r x;rw[lookup_cons]at h;rw[map_cons,lookup_cons];by_cases c:(k0==NameKind.free&&env.scope.kind==.function&&env.kindOf n==some .cell)=true
  ·rw[Yo c];dsimp only;split at h
   ·rfl
   ·exact ih h
  ·rw[Ym c];dsimp only;split at h
   ·exact h
   ·exact ih h
def dm {env:Env}{scope:Yz}(h:sP scope x):sP (relabel scope env) x∧((scope.names.lookup x==some NameKind.cell)=true∨(relabel scope env).names.lookup x=some .local):=by
 rcases h with h|h
 ·have:=lookup_relabel_local (env:=env) h;exact⟨.inl this,.inr this⟩
 ·exact⟨.inr (iO h),.inl (by rw[h];rfl)⟩
abbrev Cx.comp (X:Cx)(s:Z3)(H:Hp)(scope:Yz)(C:Z2)(N:Zw)(ex:Zt):Cx:=
 {X with N:=N,s₀:=s,H₀:=H,env:=compEnvC scope (d6 (C+1) scope.names (d7 X.env.cells scope.names [])) C X.env,outer:=X.stack,stack:=X.stack,ex:=ex,fn:=λx=>scope.names.lookup x==some .cell,pn:=[],xe:=λ_ _=>False}
theorem oi {cells:Y2}:∀{l:Zd} {cs:List (Str×Addr)},(x,c)∈d7 cells l cs→(∀p∈cs,cells.lookup p.1=some p.2)→cells.lookup x=some c
 | [],cs,h,hs=>hs _ h
 |(n,k)::r,cs,h,hs=>by
  unfold d7 at h;refine oi h λp hp=>?_;split at hp
  ·split at hp
   ·rename_i c' hc'
    rcases mem_cons.mp hp with e|e
    ·rw[e];exact hc'
    ·exact hs p e
   ·exact hs p hp
  ·exact hs p hp
theorem qf {cells:Y2}:∀{l:Zd} {cs:List (Str×Addr)},(x,c)∈d7 cells l cs→(x,c)∈cs∨(x,NameKind.free)∈l
 | [],cs,h=>.inl h
 |(n,k)::r,cs,h=>by
  unfold d7 at h
  rcases qf h with z|z
  ·split at z
   ·rename_i hk;have hk':k= .free:=by simpa using hk
    split at z
    ·rcases mem_cons.mp z with e|e
     ·cases e;exact .inr (by rw[hk'];exact mem_cons_self)
     ·exact .inl e
    ·exact .inl z
   ·exact .inl z
  ·exact .inr (dk z)
structure CompSc (X:Cx)(scope:Yz)(N:Zw)(caps:Zn):Prop where
 kind:scope.kind= .function
 freek:∀y∈scope.names,y.2= .free→scope.names.lookup y.1=some .free
 cellk:∀y∈scope.names,y.2= .cell→scope.names.lookup y.1=some .cell
 names:∀y∈scope.names,y.2= .local→scope.names.lookup y.1=some .local
 free:∀y∈scope.names,y.2= .free→X.env.scope.names.lookup y.1=some .cell∨X.env.scope.names.lookup y.1=some .free
 nd:N.Nodup
 len:caps.length=N.length
 capf:∀(j k:Nat) (x:Str),caps[j]?=some (some k)→N[j]?=some x→scope.names.lookup x=some .free
 cap:∀(j k:Nat) (x:Str),caps[j]?=some (some k)→N[j]?=some x→X.N[k]?=some x∧(X.env.scope.names.lookup x=some .cell∨X.env.scope.names.lookup x=some .free)
def f9 (caps:Zn)(σ:St):St:=caps.map λo=>o.bind λk=>(σ[k]?).join
def qe {caps:Zn}{σ:St}{j:Nat}{v:V}(h:(f9 caps σ)[j]?=some (some v)):∃k,caps[j]?=some (some k)∧σ[k]?=some (some v):=by
 unfold f9 at h;rw[getElem?_map]at h;cases e:caps[j]? with
 |none=>rw[e]at h;cases h
 |some o=>
  rw[e]at h;cases o with
  |none=>simp at h
  |some k=>
   refine⟨k,rfl,?_⟩;simp only[map_some,bind_some]at h;cases e2:σ[k]? with
   |none=>rw[e2]at h;simp at h
   |some o2=>rw[e2]at h;simp at h;rw[h]
section
variable{X:Cx}{pins:Z9}{σ:St}{H:Hp}{s:Z3}{scope:Yz}{N:Zw}{caps:List (Option Nat)}
def Inv.comp {h₁:Y6}{C:Z2}{fp:Zt}{t':Nat}(I:Inv X pins σ H s)(S:CompSc X scope N caps)(hC:s.heap.objs.size≤C)(hf:∀b∈fp,jc X pins H b)(hfp:∀b∈fp,b<s.heap.objs.size)(old:∀b o,s.heap.get? b=some o→h₁.get? b=some o) (nc:∀x c,(x,c)∈d6 (C+1) scope.names (d7 X.env.cells scope.names [])→(x,c)∈d7 X.env.cells scope.names []∨(C<c∧∃v,h₁.IsCell c v)) (ns:∃m,h₁.Ns C m):Inv (X.comp s H scope C N fp) [] (f9 caps σ) H {s with heap:=h₁,toks:=t'}:=by
 have a:∀{x c},(x,c)∈d7 X.env.cells scope.names []→X.env.cells.lookup x=some c:=λe=>oi e (λp z=>by cases z);have hcl:∀x c,(d7 X.env.cells scope.names []).lookup x=some c→X.env.cells.lookup x=some c:=λx c e=>a (eV e);have hce:∀{x c},(d6 (C+1) scope.names (d7 X.env.cells scope.names [])).lookup x=some c→X.env.cells.lookup x=some c∨(C<c∧∃v,h₁.IsCell c v):=λe=>(nc _ _ (eV e)).imp a id;have olt:∀p∈d7 X.env.cells scope.names [],p.2<C+1:=λp hp=>by
  obtain⟨v,z⟩:=I.cell p.1 p.2 (a hp);exact lt_succ_of_lt (lt_of_lt_of_le z.lt hC)
 have hsub:=I.stkSub;obtain⟨m1,hn1⟩:=ns;have notC:∀{b:Addr},b<s.heap.objs.size→b≠C:=λw=>ne_of_lt (lt_of_lt_of_le w hC);have hasF:∀x,(x,NameKind.free)∈scope.names→∃c,X.env.cells.lookup x=some c:=λx hx=>I.ok.has x (S.free (x,.free) hx rfl);refine⟨⟨I.ok.mod,S.kind,I.ok.glob,I.ok.blt,hC,λx y c e1 e2=>oa olt (λx y c e1 e2=>I.ok.inj x y c (a e1) (a e2)) x y c (eV e1) (eV e2),λx hx=>?_,λx c hx e=>?_,I.ok.hd,I.ok.frames,.inl rfl,λb w=>⟨notC (hfp b w),λx c e=>(hce e).elim ((hf b w).2.2.2.2.1 x c) λz=>ne_of_gt (lt_of_lt_of_le (hfp b w) (le_trans hC (le_of_lt z.1)))⟩,I.bs,le_trans I.ok.bsz I.sz,λb o e w=>?_,λb w z=>?_,I.stack,I.stkFree⟩,
  rfl,I.bare,Un.kept old,⟨m1,hn1,λj y v e1 e2 e3=>?_⟩,λx c e=>?_,I.hok.fresh hC,λx c e=>(hce e).elim (I.freeC x c) λz=>I.hok.fresh (le_trans hC (le_of_lt z.1)),λp hp=>absurd (show p∈([]:Z9) from hp) (by simp),I.hok.kept old,by rw[show (f9 caps σ).length=caps.length by simp[f9]];exact S.len⟩
 ·have hx':(relabel scope X.env).names.lookup x=some .cell∨(relabel scope X.env).names.lookup x=some .free:=hx;have hm:(x,NameKind.free)∈scope.names∨(x,NameKind.cell)∈scope.names:=by
   rcases hx' with e|e
   ·exact jF e (.inl rfl)
   ·exact jF e (.inr rfl)
  rcases hm with hm|hm
  ·exact jR (oh hm (hasF x hm))
  ·exact s0 hm
 ·have hx:(scope.names.lookup x==some NameKind.cell)=true:=hx;have ho:(d6 (C+1) scope.names (d7 X.env.cells scope.names [])).lookup x=some c:=e
  rcases nc x c (eV ho) with z|z
  ·rw[S.freek _ ((qf z).resolve_left λy=>by cases y) rfl]at hx;cases hx
  ·exact le_trans hC (le_of_lt z.1)
 ·obtain⟨f0,f1,f2,f3,_⟩:=hf b w
  rcases f3 with z|z
  ·exact I.ok.noex b o e z
  ·exact absurd (lt_of_lt_of_le (Yu e) (le_trans I.ok.bsz z)) (lt_irrefl _)
 ·obtain⟨f0,f1,f2,_⟩:=hf b w
  rcases mem_cons.mp (hsub b z) with e|e
  ·exact f1 e
  ·exact f2 e
 ·obtain⟨k,c1,c2⟩:=qe e2;obtain⟨c3,c4⟩:=S.cap j k y c1 e1;obtain⟨m,hn,hl⟩:=I.loc;obtain⟨u,r,l⟩:=hl k y v c3 c2 (by rcases c4 with z|z;exact .inr (.inl z);exact .inr (.inr z))
  refine⟨u,r,.inr ?_⟩;have hv:(relabel scope X.env).names.lookup y=some .cell∨(relabel scope X.env).names.lookup y=some .free:=iP (S.capf j k y c1 e1);have hfr:=S.capf j k y c1 e1;have hm:(y,NameKind.free)∈scope.names:=eV hfr;obtain⟨c,hc⟩:=oh (cells:=X.env.cells) (cs:=[]) hm (hasF y hm);refine⟨hv,c,(oe (λz=>by have:=S.cellk _ z rfl;rw[hfr]at this;cases this)).trans hc,?_⟩
  rcases l with ⟨k1,_⟩|⟨_,c',hc',z⟩
  ·exfalso;have k1':X.env.scope.names.lookup y=some .local:=k1
   rcases c4 with z|z <;> (rw[k1']at z;cases z)
  ·rw[hcl y c hc]at hc';cases hc';obtain⟨o,eo,d⟩:=z;exact⟨o,old _ _ eo,d⟩
 ·rcases hce e with z|z
  ·obtain⟨v,o,eo,d⟩:=I.cell x c z;exact⟨v,o,old _ _ eo,d⟩
  ·exact z.2
end
section
variable{prog:Zv}{w:Zk}{A:Zg}{E:Z6}{R:Yn}{s:Shared}
theorem xo {elt target iter:Y3}{ifs:Ze}{scope:Yz}{pos:Ys}{it acc:Zc}{env:Env}(I:Nat→Shared→Prop)(turn:∀n s,I n s→wpAny (model prog w) A (pyNext it) (λr s₁=>match r with
   |none=>R (.ok .next) s₁
   |some v=>wpAny (model prog w) A (letOwnedTupleGo target it v) (λ_ s₁'=>wpAny (model prog w) A (assign target env v) (λ_ s₂=>
     wpAny (model prog w) A (forIn ifs true λc r=>if r=true then do let ok ←isTrue c env (eval c env);pure (ForInStep.yield ok) else pure (ForInStep.yield r)) (λok s₃=>
      if ok=true then wpAny (model prog w) A (eval elt env) (λx s₄=>
       wpAny (model prog w) A (call (.builtin "list.append") [acc,x]) (λ_ s₅=>∃m,m<n∧I m s₅) (notedBy (model prog w) A env λe s'=>R (.error e) s') s₄) (notedBy (model prog w) A env λe s'=>R (.error e) s') s₃
      else ∃m,m<n∧I m s₃) (notedBy (model prog w) A env λe s'=>R (.error e) s') s₂) (notedBy (model prog w) A env λe s'=>R (.error e) s') s₁') (notedBy (model prog w) A env λe s'=>R (.error e) s') s₁) (notedBy (model prog w) A env λe s'=>R (.error e) s') s)
  (n:Nat) (h:I n s) :
  codeAny (model prog w) A (.compLoop (.ListComp elt [⟨target,iter,ifs,0⟩] scope pos) 0 it acc env) R s:=by
 refine codeAny_loop rfl I (λn s hI=>?_) n h;show wpAny _ A ((compTurn (.ListComp elt [⟨target,iter,ifs,0⟩] scope pos) 0 it acc env).onRaise (λx=>do noteFrame x env;theTreesLotGoes x)) _ _ s
 refine wpAny_noted ?_;rw[compTurn_list];refine Zx (wpAny_standAt (Zx (wpAny_mono (turn n s hI) (λr s₁ h₁=>?_) λ_ _ H=>H)));cases r with
 |none=>exact Zq h₁
 |some v=>
  refine Zx (wpAny_mono h₁ (λ_ s₁' h₁'=>?_) λ_ _ H=>H);refine Zx (wpAny_mono h₁' (λ_ s₂ h₂=>Zx (wpAny_mono h₂ (λok s₃ h₃=>?_) λ_ _ H=>H)) λ_ _ H=>H);cases ok with
  |false=>exact Zq ⟨rfl,h₃⟩
  |true=>
   exact Zx (Zx (wpAny_mono h₃ (λx s₄ h₄=>Zx (wpAny_mono h₄ (λ_ s₅ h₅=>Zq (Zq ⟨rfl,h₅⟩)) λ_ _ H=>H)) λ_ _ H=>H))
end
def FJ (X:Cx)(ifs:Ze)(t:TT):Prop:=
 ∀(pins:Z9) (s:Z3) (σ:St) (H:Hp) (Q:Bool→Hp→Prop),Inv X pins σ H s→t σ H Q→
  wpAny (model X.prog X.w) X.A (forIn ifs true λc r=>if r=true then do let ok ←isTrue c X.env (eval c X.env);pure (ForInStep.yield ok) else pure (ForInStep.yield r)) (TP X pins σ Q) X.xe s
def Cv {X:Cx}:FJ X [] (λ_ H Q=>Q true H):=λ_ _ _ H _ I h=>wpAny_tests_nil ⟨H,I,h⟩
def Cw {X:Cx}{t:TT}(h:PT X c t):FJ X [c] t:=λpins s σ H Q I q=>wpAny_tests_one (h pins s σ H Q I q)
def AQ (wi:TI)(caps:Zn)(g:TG)(tc:TT)(te:TE):TE:=λσ H Q=>wi σ H λJ H1=>∃W:Nat→Nat→List V→Hp→Prop,(∃m,W 0 m [] H1)∧∀i m ys H2,W i m ys H2→
 (J.stop i H2∧ys.length≤sizeLine∧∀p,H2 p=none→Q (.ref p) (bc H2 p (.lst ys)))∨
 (J.go i H2∧∃Nx:List V→Hp→Prop,(∀ys' H',Nx ys' H'→∃m',m'<m∧W (i+1) m' ys' H')∧
  ∀x H',J.yld i H2 x H'→g x (f9 caps σ) H' λσ2 H3=>tc σ2 H3 λb H4=>if b=true then ys.length≤sizeLine∧te σ2 H4 (λy H5=>Nx (ys ++ [y]) H5) else Nx ys H4)
section
variable{X:Cx}{pins:Z9}{σ:St}{H:Hp}{s:Z3}{scope:Yz}{N:Zw}{caps:List (Option Nat)}
abbrev lu (us:Z0):Obj:={cls:=.type "list",data:=.seq us.toArray us.length}
def xW (ys:Z0)(y:Zc):({cls:=.type "list",data:=.seq (ys.toArray.push y) (ys.length+1)}:Obj)=lu (ys ++ [y]):=by
 show ({cls:=.type "list",data:=.seq (ys.toArray.push y) (ys.length+1)}:Obj)={cls:=.type "list",data:=.seq (ys ++ [y]).toArray (ys ++ [y]).length};rw[length_append,length_singleton,List.push_toArray]
def kZ (caps:Zn)(g:TG):Prop:=∀x σ0 H Q,g x σ0 H Q→g x σ0 H λσ2 H2=>Q σ2 H2∧σ2.length=σ0.length∧∀(j k:Nat) (v:V),caps[j]?=some (some k)→σ0[j]?=some (some v)→σ2[j]?=some (some v)
def lw {i:Nat}(h:caps[i]?=some none):kZ caps (cC i):=λx σ0 H Q q=>by
 refine⟨q,by simp,λj k v hj hv=>?_⟩;have:j≠i:=λz=>by rw[z,h]at hj;cases hj
 rw[getElem?_set_ne (Ne.symm this)];exact hv
def oj {elt tg iter:Y3}{ifs:Ze}{pos:Ys}{it:Z2}{fp:Zt}{tn:Nat→Heap→Prop}{J:It}{g:TG}{tc:TT}{te:TE}{RR:Value→Addr→Result→Shared→Prop}{E:Value→Shared→Prop}(hc:X.calm=true) (I:Inv X pins σ H s) (S:CompSc X scope N caps) (T:Turn X.prog X.w X.K tg J fp it tn) (st:tn 0 s.heap) (hf:∀b∈fp,jc X pins H b)(hg:∀C ex,PG (X.comp s H scope C N ex) tg g) (ho:kZ caps g) (ht:∀C ex,FJ (X.comp s H scope C N ex) ifs tc) (he:∀C ex,PE (X.comp s H scope C N ex) elt te)(W:Nat→Nat→List V→Hp→Prop) (m0:Nat) (w0:W 0 m0 [] H) {Q:VK}(turn:∀i m ys H2,W i m ys H2→(J.stop i H2∧ys.length≤sizeLine∧∀p,H2 p=none→Q (.ref p) (bc H2 p (.lst ys)))∨(J.go i H2∧∃Nx:List V→Hp→Prop,(∀ys' H',Nx ys' H'→∃m',m'<m∧W (i+1) m' ys' H')∧
    ∀x H',J.yld i H2 x H'→g x (f9 caps σ) H' λσ2 H3=>tc σ2 H3 λb H4=>if b=true then ys.length≤sizeLine∧te σ2 H4 (λy H5=>Nx (ys ++ [y]) H5) else Nx ys H4))
  (hRR:∀(D C:Z2) (s':Z3) (m:Z4) (H':Hp),s'.heap.Ns C m→Inv X pins σ H' s'→jc X pins H' C→Q (.ref D) H'→RR (.ref D) C (.ok .next) s') :
  wpAny (model X.prog X.w) X.A (newList []) (λacc s₃=>wpAny (model X.prog X.w) X.A (newFunctionEnv scope X.env.globals (d7 X.env.cells scope.names []) [] X.env.qual none .none (some X.env)) (λcenv s₄=>
   codeAny (model X.prog X.w) X.A (.compStart (.ListComp elt [⟨tg,iter,ifs,0⟩] scope pos) 0 (.ref it) acc {cenv with scope:=relabel scope X.env}) (RR acc cenv.locals) s₄) E s₃) E s:=by
 refine wpAny_newObj_type (B_ λF l f t=>?_);dsimp only at l f t ⊢;generalize hH2:s.heap.push {cls:=.type "list",dict:=none,data:=.seq ([]:List Value).toArray}=H2 at l f t ⊢;have hC:H2.objs.size=s.heap.objs.size+1:=by rw[←hH2,Heap.size_push]
 have hDC:s.heap.objs.size≠H2.objs.size:=by rw[hC];exact ne_of_lt (lt_succ_self _)
 have L:s.heap.objs.size≤H2.objs.size:=by rw[hC];exact le_succ _
 have old:∀b o,s.heap.get? b=some o→F.get? b=some o:=λb o e=>
  f b o (hH2 ▸ Heap.get?_push_of_some _ e)
 have hacc:F.get? s.heap.objs.size=some (lu []):=f _ _ (hH2 ▸ Heap.get?_push_size _ rfl);have Z:∀b∈fp,b<s.heap.objs.size:=λb B=>by
  obtain⟨o,e,_⟩:=T.obj _ _ st b B;exact Yu e
 have Y:tn 0 F:=T.keep _ _ _ st λb B o e=>old b o e;have I₁:Inv (X.comp s H scope H2.objs.size N fp) [] (f9 caps σ) H {s with heap:=F}:=I.comp (t':=s.toks) S L hf Z old t l
 have cne:∀x c,(d6 (H2.objs.size+1) scope.names (d7 X.env.cells scope.names [])).lookup x=some c→X.env.cells.lookup x=some c∨H2.objs.size<c:=λx c e=>(t x c (eV e)).imp (λz=>oi z (λp U=>by cases U)) And.left;have nfs:∀{b:Addr},s.heap.objs.size≤b→b∉gc X.stack:=λB z=>by
  obtain⟨_,o,ho,_⟩:=I.stack.mem z;exact absurd (lt_of_lt_of_le (Yu ho) B) (lt_irrefl _)
 -- what stays true of the iterator's and the gathered list's objects
 have h:∀{H':Hp},(∀b∈fp,H' b=none)→∀b∈fp,jc (X.comp s H scope H2.objs.size N fp) [] H' b:=λhn b B=>
  ⟨hn b B,ne_of_lt (lt_of_lt_of_le (Z b B) L),λz=>(by
   obtain⟨f0,f1,f2,_⟩:=hf b B
   rcases mem_cons.mp (I.stkSub b z) with e|e
   ·exact f1 e
   ·exact f2 e),.inl B,λx c e=>(cne x c e).elim ((hf b B).2.2.2.2.1 x c) λz=>ne_of_gt (lt_of_lt_of_le (Z b B) (le_trans L (le_of_lt z))),λp U=>absurd (show p∈([]:Z9) from U) (by simp)⟩
 have statD:∀{H':Hp},H' s.heap.objs.size=none→jc (X.comp s H scope H2.objs.size N fp) [] H' s.heap.objs.size:=λhn=>
  ⟨hn,hDC,nfs (le_refl _),.inr (le_refl _),λx c e=>(cne x c e).elim (λz=>by obtain⟨v,y⟩:=I.cell x c z;exact ne_of_lt y.lt) λz=>ne_of_gt (Nat.lt_of_le_of_lt L z),λp U=>absurd (show p∈([]:Z9) from U) (by simp)⟩
 have loop:∀s₃:Shared,s₃={s with heap:=F}→
   codeAny (model X.prog X.w) X.A (.compLoop (.ListComp elt [⟨tg,iter,ifs,0⟩] scope pos) 0 (.ref it) (.ref s.heap.objs.size) (compEnvC scope (d6 (H2.objs.size+1) scope.names (d7 X.env.cells scope.names [])) H2.objs.size X.env))
    (RR (.ref s.heap.objs.size) H2.objs.size) s₃:=by
  rintro s₃ rfl;refine xo (λn s'=>∃i ys M H',Inv (X.comp s H scope H2.objs.size N fp) [] (f9 caps σ) H' s'∧tn i s'.heap∧(∀b∈fp,H' b=none)∧s'.heap.get? s.heap.objs.size=some (lu M)∧H' s.heap.objs.size=none∧Vals ys M∧W i n ys H') ?_ m0
   ⟨0,[],[],H,I₁,Y,λb B=>(hf b B).1,hacc,I.hok.fresh (le_refl _),.nil,w0⟩
  intro n s3 hZ3;obtain⟨i,ys,M,H3,I3,st3,fr3,ha3,hd3,rv3,w3⟩:=hZ3;have pinD:∀{G:St} {H':Hp} {s':Shared},Inv (X.comp s H scope H2.objs.size N fp) [] G H' s'→s'.heap.get? s.heap.objs.size=some (lu M)→H' s.heap.objs.size=none→Inv (X.comp s H scope H2.objs.size N fp) [(s.heap.objs.size,lu M)] G H' s':=λI' e n=>
   I'.pins_of λp U=>by
    obtain rfl:=mem_singleton.mp U;exact⟨e,n,hDC,nfs (le_refl _),λv z=>by cases z⟩
  have O:∀{H':Hp},(∀b∈fp,H' b=none)→∀b∈fp,jc (X.comp s H scope H2.objs.size N fp) [(s.heap.objs.size,lu M)] H' b:=λhn b B=>
   ⟨(h hn b B).1,(h hn b B).2.1,(h hn b B).2.2.1,(h hn b B).2.2.2.1,(h hn b B).2.2.2.2.1,λp U=>by
    obtain rfl:=mem_singleton.mp (show p∈[(s.heap.objs.size,lu M)] from U);exact ne_of_gt (Z b B)⟩
  have I3':=pinD I3 ha3 hd3;have atD:∀{pl:Z9} {G:St} {H':Hp} {s':Shared},Inv (X.comp s H scope H2.objs.size N fp) ([(s.heap.objs.size,lu M)] ++ pl) G H' s'→s'.heap.get? s.heap.objs.size=some (lu M)∧H' s.heap.objs.size=none:=λ{pl G H' s'} I'=>
   ⟨(I'.pin (s.heap.objs.size,lu M) (by simp)).1,(I'.pin (s.heap.objs.size,lu M) (by simp)).2.1⟩
  rcases turn i n ys H3 w3 with ⟨stop,hsz,fin⟩|⟨go,Nx,hN,step⟩
  ·refine aV (wpAny_noRaise (T.done (X.comp s H scope H2.objs.size N fp) rfl rfl rfl hc i [(s.heap.objs.size,lu M)] s3 _ H3 (λ_ _=>False) I3' (O fr3) st3 stop)) λr s4 hZ96=>?_;obtain⟨hr,I4⟩:=hZ96;subst hr;obtain⟨ha4,R⟩:=atD (pl:=[]) I4;obtain⟨m4,hn4,_⟩:=id I4.loc;have P:Un (gc X.stack) fp H H3 s.heap s4.heap:=I4.base;have bC:∀{b:Z2} {o:Obj},s.heap.get? b=some o→b≠H2.objs.size∧b≠s.heap.objs.size:=λe=>⟨by rw[hC];exact ne_of_lt (lt_succ_of_lt (Yu e)),ne_of_lt (Yu e)⟩;have freeC:H3 H2.objs.size=none:=I4.free;have un':Un (gc X.stack) fp H (bc H3 s.heap.objs.size (.lst ys)) s.heap s4.heap:={
    keep:=λb o e n B hx=>(P.keep b o e n B hx)
    slot:=λb o e n B hx=>by
     obtain⟨sl,z⟩:=P.slot b o e n B hx;exact⟨sl,z⟩
    free:=λb o e n hx=>by rw[am (bC e).2];exact P.free b o e n hx
    there:=λb o e hx=>by
     obtain⟨o',z⟩:=P.there b o e hx;exact⟨o',z⟩
    tups:=λb xs q=>by
     have z:=P.tups b xs q;rw[am (aD z R)];exact z
    frzs:=λb o u q=>by
     have z:=P.frzs b o u q;rw[am (aD z R)];exact z
    tbls:=λb ps q=>by
     obtain⟨mo,z⟩:=P.tbls b ps q;exact⟨mo,by rw[am (aD z R)];exact z⟩}
   have hok':HOk X.prog X.w (bc H3 s.heap.objs.size (.lst ys)) s4.heap:=λb u eb=>by
    by_cases B:b=s.heap.objs.size
    ·subst B;rw[au]at eb;cases eb;exact⟨hsz,M,_,rv3,ha4⟩
    ·rw[am B]at eb;exact(I4.hok b u eb).stay (λc v hcc q=>q) (λc q=>by rw[am (aD q R)];exact q) λc xs q=>by rw[am (aD q R)];exact q
   have I4':Inv X pins σ (bc H3 s.heap.objs.size (.lst ys)) s4:=I.call' (ch:=fp) I4.os un' hok' I4.bare (λb B=>⟨(hf b B).2.2.2.1,(hf b B).2.1,(hf b B).2.2.2.2.1,(hf b B).2.2.2.2.2⟩);exact hRR _ _ s4 m4 _ hn4 I4' (I.fpOk L (by rw[am (Ne.symm hDC)];exact freeC)) (fin _ R)
  ·refine aV (wpAny_noRaise (T.item (X.comp s H scope H2.objs.size N fp) rfl rfl rfl hc i [(s.heap.objs.size,lu M)] s3 _ H3 (λ_ _=>False) I3' (O fr3) st3 go)) λr s4 hZ97=>?_;obtain⟨u,hr,h4⟩:=hZ97;subst hr;refine aV (wpAny_noRaise h4) λ_ s5 hZ98=>?_;obtain⟨x,H5,I5,r5,y5,st5,fr5⟩:=hZ98;have I5':=I5.pinned (O fr5) (T.obj _ _ st5);refine aV (wpAny_noRaise (hg _ _ _ s5 _ H5 x u _ I5' r5 (ho _ _ _ _ (step x H5 y5)))) λ_ s6 hZ99=>?_;obtain⟨σ6,H6,I6,q6,l6,k6⟩:=hZ99;have a:∀{pl:Z9} {H':Hp} {s':Shared},Inv (X.comp s H scope H2.objs.size N fp) pl σ6 H' s'→Inv (X.comp s H scope H2.objs.size N fp) pl (f9 caps σ) H' s':=λI'=>I'.weak l6.symm λj v e=>by
    obtain⟨k,c1,c2⟩:=qe e;exact k6 j k v c1 e
   refine aV (wpAny_noRaise (ht _ _ _ s6 σ6 H6 _ I6 q6)) λb s7 hZ100=>?_;obtain⟨H7,I7,q7⟩:=hZ100;have keepT:∀{G:St} {H':Hp} {s':Shared},Inv (X.comp s H scope H2.objs.size N fp) ([(s.heap.objs.size,lu M)] ++ mr fp s5.heap) G H' s'→tn (i+1) s'.heap∧∀b∈fp,H' b=none:=λ{G H' s'} I'=>
    ⟨T.keep _ _ _ st5 λb B o e=>(I'.pin (b,o) (mem_append_right _ (mem_append_right _ (d_ B e)))).1,λb B=>by
     obtain⟨o,e,d⟩:=T.obj _ _ st5 b B;exact(I'.pin (b,o) (mem_append_right _ (mem_append_right _ (d_ B e)))).2.1⟩
   cases b with
   |false=>
    have q7':Nx ys H7:=q7;obtain⟨m',hm,w7⟩:=hN _ _ q7';obtain⟨ha7,hd7⟩:=atD I7;obtain⟨st7,fr7⟩:=keepT I7;exact⟨m',hm,i+1,ys,M,H7,a (I7.pins_of λp U=>absurd U (by simp)),st7,fr7,ha7,hd7,rv3,w7⟩
   |true=>
    obtain⟨hsz,q7'⟩:ys.length≤sizeLine∧te σ6 H7 (λy H5=>Nx (ys ++ [y]) H5):=q7;show wpAny _ _ (eval elt _) _ _ s7;refine aV (wpAny_noRaise (he _ _ _ s7 σ6 H7 _ I7 q7')) λyv s8 hZ101=>?_;obtain⟨y,H8,I8,r8,q8⟩:=hZ101;obtain⟨ha8,hd8⟩:=atD I8;obtain⟨st8,fr8⟩:=keepT I8;refine append_at ha8 (λh9 sb hD9=>?_) (by rw[size_toArray,←rv3.length];exact hsz);obtain⟨m',hm,w8⟩:=hN _ _ q8;have I8':Inv (X.comp s H scope H2.objs.size N fp) [] (f9 caps σ) H8 s8:=a (I8.pins_of λp U=>absurd U (by simp));have dD:=statD hd8;refine⟨m',hm,i+1,ys ++ [y],M ++ [yv],H8,I8'.turned (t':=s8.toks) (λb o B e=>(sb.2 b B).trans e) hd8 dD.2.1 dD.2.2.2.1 dD.2.2.2.2.1 dD.2.2.2.2.2,T.keep _ _ _ st8 λb B o e=>(sb.2 b (ne_of_lt (Z b B))).trans e,fr8,?_,hd8,rv3.append (.cons r8 .nil),w8⟩;rw[hD9,xW]
 exact codeAny_compStart_list (loop _ rfl) (T.self X.A 0 _ _ _ Y (loop _ rfl))
def wJ {elt tg iter:Y3}{ifs:Ze}{pos:Ys}{wi:TI}{g:TG}{tc:TT}{te:TE}(hc:X.calm=true)(S:CompSc X scope N caps)(hi:PI X tg iter wi)(hg:∀s H C ex,PG (X.comp s H scope C N ex) tg g) (ho:kZ caps g) (ht:∀s H C ex,FJ (X.comp s H scope C N ex) ifs tc) (he:∀s H C ex,PE (X.comp s H scope C N ex) elt te)(hs:∀x,foldedSetIterable iter X.env x=pure x:=by intro _;rfl):PE X (.ListComp elt [⟨tg,iter,ifs,0⟩] scope pos) (AQ wi caps g tc te):=by
 intro pins s σ H Q I h;rw[eval_ListComp];have hcl:closureFor scope X.env=pure (d7 X.env.cells scope.names []):=kg λy hy hk=>I.ok.has y.1 (S.free y hy hk);refine wpAny_comprehension_free (use:=none) rfl hs hcl S.kind S.names (aV (hi pins s σ H _ I h) λv s1 h1=>aV h1 λitv s2 h2=>?_);obtain⟨it,fp,tn,J,H2,e,I2,T,st2,f2,W,⟨m0,w0⟩,turn⟩:=h2;subst e;refine oj (RR:=λacc C=>compPost (model X.prog X.w) X.A X.xe none (EP X pins σ Q) acc C) hc I2 S T st2 f2 (hg _ _) ho (ht _ _) (he _ _) W m0 w0 turn ?_;intro D C s' m H' hn I' fC q;exact⟨m,hn,λh' sb=>⟨.ref D,H',I'.turned (t':=s'.toks) (λb o hb e=>(sb.2 b hb).trans e) fC.1 fC.2.1 fC.2.2.2.1 fC.2.2.2.2.1 fC.2.2.2.2.2,rfl,q⟩⟩
def pb {elt tg iter:Y3}{ifs:Ze}{pos py spos:Ys}{wi:TI}{g:TG}{tc:TT}{te:TE}{i:Nat}(hN:X.N.Nodup)(hi:X.N[i]?=some y)(hy:X.env.scope.names.lookup y=some .local)(hc:X.calm=true) (S:CompSc X scope N caps) (hit:PI X tg iter wi)(hg:∀s H C ex,PG (X.comp s H scope C N ex) tg g) (ho:kZ caps g) (ht:∀s H C ex,FJ (X.comp s H scope C N ex) ifs tc) (he:∀s H C ex,PE (X.comp s H scope C N ex) elt te)(hsw:swapsWith (.ListComp elt [⟨tg,iter,ifs,0⟩] scope pos) (some (.Name y py)) spos.line X.env=pure true:=by rfl)(hs:∀x,foldedSetIterable iter X.env x=pure x:=by intro _;rfl):PS X (.Assign [.Name y py] (.ListComp elt [⟨tg,iter,ifs,0⟩] scope pos) spos) (uz (AQ wi caps g tc te) (cC i)):=by
 intro p s σ H D I h;have hcl:closureFor scope X.env=pure (d7 X.env.cells scope.names []):=kg λy hy hk=>I.ok.has y.1 (S.free y hy hk);rw[exec_Assign_Name_used _ _ _ _ hsw];refine Zx (wpAny_standAt (Zx ?_));show wpAny _ X.A (do let _ ←comprehension (.ListComp elt [⟨tg,iter,ifs,0⟩] scope pos) scope X.env _ (newList []) false (eval iter X.env) (some (assign (.Name y py) X.env))) _ _ s
 refine Zx (wpAny_mono (wpAny_comprehension_free (use:=some (assign (.Name y py) X.env)) (Q:=λ_ s'=>SP X p D .next s') rfl hs hcl S.kind S.names
  (aV (hit p s σ H _ I h) λv s1 h1=>aV h1 λitv s2 h2=>?_)) (λ_ s' hq=>Zq (Zq hq)) λ_ _ e=>e)
 obtain⟨it,fp,tn,J,H2,e,I2,T,st2,f2,W,⟨m0,w0⟩,turn⟩:=h2;subst e;refine oj (RR:=λacc C=>compPost (model X.prog X.w) X.A X.xe (some (assign (.Name y py) X.env)) (λ_ s'=>SP X p D .next s') acc C) (Q:=λx H1=>cC i x σ H1 D.nx) hc I2 S T st2 f2 (hg _ _) ho (ht _ _) (he _ _) W m0 w0 turn ?_;intro Dd C s' m H' hn I' fC q;show wpAny _ _ (assign (.Name y py) X.env (.ref Dd)) _ _ s';refine wpAny_assign_Name (qO I' (i:=i) hN hi (.inl hy) (v:=.ref Dd) rfl (λs5 I5 hZ102=>?_) (.inr hy));obtain⟨a,sb,ha⟩:=hZ102;have ha':a≠C:=by
  rcases ha with z|z
  ·rw[z];exact Ne.symm fC.2.1
  ·exact fC.2.2.2.2.1 _ _ z
 refine⟨m,hn.sameBut sb (Ne.symm ha'),λh' sb2=>⟨_,H',I5.turned (t':=s5.toks) (λb o hb e=>(sb2.2 b hb).trans e) fC.1 fC.2.1 fC.2.2.2.1 fC.2.2.2.2.1 fC.2.2.2.2.2,q⟩⟩
end
def PF (X:Cx)(e:Y3)(n:Nat)(t:St→Hp→Prop):Prop:=
 ∀(pins:Z9) (s:Z3) (σ:St) (H:Hp),Inv X pins σ H s→t σ H→wpAny (model X.prog X.w) X.A (eval e X.env) (λu s'=>∃x tk,u= .str x tk∧x.length≤n∧Inv X pins σ H s') X.xe s
def FI (X:Cx)(es:Ze)(n:Nat)(t:St→Hp→Prop):Prop:=
 ∀(pins:Z9) (s:Z3) (σ:St) (H:Hp) (out:Str),Inv X pins σ H s→t σ H→out.length+n≤sizeLine→wpAny (model X.prog X.w) X.A (joinParts out (evalEach es X.env)) (λu s'=>∃x tk,u= .str x tk∧x.length≤out.length+n∧Inv X pins σ H s') X.xe s
def DB (te:TE):St→Hp→Prop:=λσ H=>te σ H λv H'=>H'=H∧∃i:Int,v= .int i∧i.natAbs.log2<1920
section
variable{X:Cx}
def Af {j pos}:PF X (.Constant (.str x) j pos) x.length (λ_ _=>True):=λpins s σ H I _=>Calls.Constant_str ⟨x,_,rfl,le_refl _,I.tok _⟩
def Ae {te:TE}(he:PE X e te):PF X (.FormattedValue e (-1) none pos) 1921 (DB te):=by
 intro pins s σ H I h;refine FormattedValue_plain (aV (he pins s σ H _ I h) λv s1 hZ103=>?_);obtain⟨x,H1,I1,r1,e1,i,e2,hl⟩:=hZ103;subst e1 e2;obtain⟨t,rfl⟩:=r1;refine formatField_int_small hl ⟨_,_,rfl,?_,I1.tok _⟩;have:=int_text_length_le (k:=1920) (by decide) hl;show (Str.ofString (toString i)).length≤1921;rw[PySem.ofString_length];exact this
def Cr:FI X [] 0 (λ_ _=>True):=λpins s σ H out I _ hz=>joinParts_nil ⟨out,_,rfl,le_add_right _ _,I.tok _⟩ (by omega)
def ly {n m:Nat}{t u:St→Hp→Prop}(h1:PF X e n t)(h2:FI X es m u):FI X (e::es) (n+m) (λσ H=>t σ H∧u σ H):=by
 rintro pins s σ H out I ⟨ht,hu⟩ hz;show wpAny _ _ (joinParts out (eval e X.env::evalEach es X.env)) _ _ s;refine joinParts_cons (aV (h1 pins s σ H I ht) λv s1 hZ104=>?_);obtain⟨x,tk,e1,hl,I1⟩:=hZ104;subst e1;have el:(out ++ x).length=out.length+x.length:=strLen_append ..;refine⟨by rw[el];omega,aV (h2 pins s1 σ H (out ++ x) I1 hu (by rw[el];omega)) λv s2 hZ105=>(by obtain⟨y,tk2,e2,hl2,I2⟩:=hZ105;exact⟨y,tk2,e2,by rw[el]at hl2;omega,I2⟩)⟩
def He (t:St→Hp→Prop):TE:=λσ H Q=>t σ H∧∀x,Q (.str x) H
def Cp {n:Nat}{t:St→Hp→Prop}(h:FI X (v1::v2::rest) n t)(hn:n≤100000:=by decide):PE X (.JoinedStr (v1::v2::rest) pos) (He t):=by
 intro pins s σ H Q I hZ4;obtain⟨ht,hq⟩:=hZ4;refine JoinedStr_many (aV (h pins s σ H Str.empty I ht ?_) λu s' hZ106=>?_)
 ·have e0:Str.empty.length=0:=rfl;rw[e0,sizeLine_eq];omega
 ·obtain⟨x,tk,e,_,I'⟩:=hZ106;subst e;exact⟨.str x,H,I',⟨_,rfl⟩,hq x⟩
end
section
variable{X:Cx}{pins:Z9}{σ:St}{H:Hp}{s:Shared}
structure ExcK (K:Z8)(D:Z2):Prop where
 ga:W.findIn K (.ref D) "__getattribute__" =some (some (.builtin "BaseException.__getattribute__"))
 gh:W.findIn K (.ref D) "__getattr__" =some none
 ha:W.findIn K (.ref D) "__class__" =some (some (.builtin "object.__class__"))
 hn:W.specialIn K (.builtin "object.__class__") "__get__" =some (some (.builtin "getset_descriptor.__get__"))
 htk:W.takesIn K (.builtin "object.__class__")=some true
 hm:W.mroIn K D (.type "object")=some true
 hb:W.mroIn K D (.type "BaseException")=some true
 hc:(W.clsIn K D).isSome=true
def pY (e D:Z2)(h:Y6):Prop:=∃o,h.get? e=some o∧o.cls= .ref D
def jq {e D:Z2}{M:Model}{h:Y6}(p:pY e D h):W.Looks M h (typeOf (.ref e)) (.ref D):=by
 obtain⟨o,h1,h2⟩:=p;exact h2 ▸ (W.Looks.ld h1).andThen .now
end
end L2
namespace PySem.W
open PySem PySem.Spec PySem.Calls PyProof.Rows Builtin Builtin.ObjectAttr Builtin.Getset_descriptor
section
variable{prog:Zv}{w:Zk}{A:Zg}{E:Z6}{s:Z3}{K:Frag}{x C:Addr}
def pP {R:Yn}{tp:Zc}(X:K.In s.heap)(I:L2.pY x C s.heap)(hm:mroIn K C (.type "object")=some true)(h:R (.ok (.ret (.ref C))) s):codeAny (model prog w) A (.call (.builtin "getset_descriptor.__get__") ⟨[.builtin "object.__class__",.ref x,tp],[]⟩) R s:=by
 obtain⟨hh,g,dr,t,os⟩:=s;have L0:=L2.jq (M:=model prog w) I;have L1:=looks_mroIn (M:=model prog w) X hm;refine codeAny_call_builtin KF.slot_gs.plain KF.entry_gs (KF.slot_gs.check _ _ _ _ _ _ _ _ KF.type_class (KF.args_gs _ _ _) ?_);unfold Builtin.«getset_descriptor.__get__» descrGet;rw[dga_obj];refine Zx (Zq ?_);unfold descrGetter descrCheckInstance descrNameAndClass isInstance;simp only[KF.owner_class]
 repeat lk
 refine⟨Code.quiet_builtin _ (by decide +kernel),codeAny_builtin KF.entry_class ?_⟩;unfold Builtin.«object.__class__» shownTypeOf
 repeat lk
 exact h
def zb {M:Model}(X:K.In s.heap)(k:L2.ExcK K C):Looks M s.heap (find (.ref x) (.ref C) "__class__") (.bind (.builtin "getset_descriptor.__get__") (.builtin "object.__class__")):=by
 have L1:=looks_findIn (M:=M) X k.ha;have L2:Looks M s.heap (getOf (some (.builtin "object.__class__"))) (some (.builtin "getset_descriptor.__get__")):=looks_specialIn X k.hn;have L3:=looks_takesIn (M:=M) X k.htk;exact L1.andThen (L2.andThen ((show Looks M s.heap (dataDescriptor? (some (.builtin "object.__class__")) (some (.builtin "getset_descriptor.__get__"))) (some (.builtin "getset_descriptor.__get__",.builtin "object.__class__")) from L3.andThen .now).andThen (Looks.tag .now)))
def xD {tk:Tok}{Q:PySem.Fin→Shared→Prop}(X:K.In s.heap)(I:L2.pY x C s.heap)(k:L2.ExcK K C)(h:Q (.done (.ret (.ref C))) s) :
  wpAny (model prog w) A (Builtin.«object.__getattribute__» ⟨[.ref x,.str "__class__" tk],[]⟩) Q E s:=by
 obtain⟨hh,g,d,t,os⟩:=s;have L0:=L2.jq (M:=model prog w) I;have LF:=zb (M:=model prog w) (x:=x) X k;unfold Builtin.«object.__getattribute__»;refine Zx (Zq ?_);refine Zx (Zq ?_);refine Zx (L0.at (Zx (LF.at ?_)));show wpAny _ _ (holding [.builtin "object.__class__"] (call (.builtin "getset_descriptor.__get__") [.builtin "object.__class__",.ref x,.ref C]) >>= λv=>ret v) _ _ _;refine Zx (wpAny_holding (wpAny_call (pP (s:=⟨hh,g,d,t,os⟩) X I k.hm ?_)));exact Zq h
def xC {M:Model}{nameV:Zc}{Q:Unit→Shared→Prop}(X:K.In s.heap)(I:L2.pY x C s.heap)(k:L2.ExcK K C)(hq:Q () s):wpAny M A (checkBuiltinCall "BaseException.__getattribute__" ⟨[.ref x,nameV],[]⟩) Q E s:=by
 obtain⟨hh,g,d,t,os⟩:=s;have L0:=L2.jq (M:=M) I;have L3:=looks_mroIn (M:=M) X k.hb;have hk:builtinKind "BaseException.__getattribute__" =some .slot:=by decide +kernel
 have p:splitId "BaseException.__getattribute__" =some ("BaseException","__getattribute__"):=by decide +kernel
 have hargs:=PySem.F.args_bexc_ga (.ref x) nameV;simp only[checkBuiltinCall,hk,p];refine Zx ?_;unfold isInstance;refine Zx (L0.at (L3.at ?_));simp only[if_true,Bool.not_true,false_eq_true,if_false]
 repeat (first|assumption|wp_step)
def exc_class {Q:Y0}(X:K.In s.heap)(I:L2.pY x C s.heap)(k:L2.ExcK K C)(h:Q (some (.ref C)) {s with toks:=s.toks+1}):wpAny (model prog w) A (getAttr? (.ref x) "__class__") Q E s:=by
 obtain⟨hh,g,d,t,os⟩:=s;have L0:=L2.jq (M:=model prog w) I;have L1:=looks_findIn (M:=model prog w) X k.ga;have L2':=looks_findIn (M:=model prog w) X k.gh;unfold getAttr? getAttrBy? getAttrBy;refine Zx (wpAny_mkText (Zx (wpAny_attempt (wpAny_holding (Zx (L0.at (Zx (L1.at ?_))))))));dsimp only;have hx:(onTheHeap (Value.ref C)&&Value.builtin "BaseException.__getattribute__"==Value.builtin "object.__getattribute__")=false:=by
  have hx2:(Value.builtin "BaseException.__getattribute__"==Value.builtin "object.__getattribute__")=false:=by decide +kernel
  rw[hx2];rfl
 rw[hx];rw[Ym Bool.false_ne_true];have f3:=PySem.F.excAttr_ValueError.ga.bind (.ref x);unfold getAttrByItsOwn;refine Zx ?_;show wpAny _ _ (typeLookup (.ref C) "__getattr__") _ _ _;refine L2'.at ?_;refine Zx (wpAny_attempt (wpAny_holding ?_));show wpAny _ _ (bindSpecial (.builtin "BaseException.__getattribute__") (.ref x) >>= λp=>call p.1 (p.2 ++ [.str "__class__" t])) _ _ _;refine Zx (wpAny_of_eq f3 ?_);show wpAny _ _ (call (.builtin "BaseException.__getattribute__") [.ref x,.str "__class__" t]) _ _ _;refine wpAny_call (codeAny_call_builtin PySem.F.excAttr_ValueError.ga.plain PySem.F.entry_bexc_ga ?_);refine xC (s:=⟨hh,g,d,t+1,os⟩) X I k ?_;refine xD (s:=⟨hh,g,d,t+1,os⟩) X I k ?_;exact handed_on rfl (Zq h)
end
end PySem.W
namespace L2
open PySem PySem.Spec PyProof.Rows
def zy {K:Z8}{e D:Z2}(k:ExcK K D):W.KitX K (.ref e) (.ref D) (pY e D) where
 ty:=λ_ _ _ p=>jq p
 it:=λ_ _ X _=>by
  have hc:=k.hc;unfold W.clsIn at hc;split at hc
  ·rename_i c' d' cd' sl' ho;intro A' Q' E' s' k q;unfold isType loadHead;exact Zx (wpAny_loadPart (k _ _ (X _ _ ho)) (Zq q))
  ·cases hc
 ne:=λh tp dd its n sl X htp=>by
  have hc:=k.hc;refine Bool.eq_false_iff.mpr λq=>?_;have e:D=tp:=Value.ref.inj (beq_iff_eq.mp q);subst e;unfold W.clsIn at hc;split at hc
  ·rename_i c' d' cd' sl' ho;have z:=(X _ _ ho).symm.trans htp;cases z
  ·cases hc
 ca:=λX I h=>W.exc_class X I k h
section
variable{X:Cx}{pins:Z9}{σ:St}{H:Hp}{s:Shared}
def cV:V→Value
 |.ref a=>.ref a
 |.ty n=>.type n
 |_=>.none
def DU {v:V}(h:RelV v u)(hv:cV v≠ .none):u=cV v:=by
 cases v with
 |ref a=>exact h
 |ty n=>exact h
 |_=>exact absurd rfl hv
end
inductive D where
 |non|bl (b:Bool)|int (i:Int)|str (x:Str)|lst (l:List D)|tup (l:List D)
 |ins (C:Z2) (ns:Zw) (l:List D)
 |dct (ks:List (List bL)) (l:List D)
 |scr (ns:List Int)
 |xc (C:Addr)
 |fdc (ks:List (List bL)) (l:List D)
inductive Res (α:Type) where
 |ok (a:α)|exc (c:Addr)|bad
def Res.bind {α β:Type}:Res α→(α→Res β)→Res β
 |.ok a,f=>f a
 |.exc c,_=>.exc c
 |.bad,_=>.bad
structure LsS (K:Z8)(G:Hp)(a:Z2)(xs:List V):Prop where
 h:G a=some (.lst xs)
def LsS.of {K:Z8}{G:Hp}{xs:List V}(h:G a=some (.lst xs)):LsS K G a xs:=⟨h⟩
def LsS.sq {K:Z8}{G:Hp}{xs:List V}(h:LsS K G a xs):gy K G a xs:=.inl (.inl h.h)
structure TpS (K:Z8)(G:Hp)(a:Z2)(xs:List V):Prop where
 h:G a=some (.tup xs)
def TpS.of {K:Z8}{G:Hp}{xs:List V}(h:G a=some (.tup xs)):TpS K G a xs:=⟨h⟩
def TpS.sq {K:Z8}{G:Hp}{xs:List V}(h:TpS K G a xs):nr K G a xs:=.inl (.inl h.h)
instance {K:Z8}{G:Hp}{a:Z2}{xs:List V}:Coe (TpS K G a xs) (nr K G a xs):=⟨TpS.sq⟩
mutual
def Rep (K:Z8)(G:Hp):D→V→Prop
 |.non,v=>v= .non
 |.bl b,v=>v= .bl b
 |.int i,v=>v= .int i
 |.str x,v=>v= .str x
 |.lst ds,v=>∃a xs,v= .ref a∧LsS K G a xs∧RepL K G ds xs
 |.tup ds,v=>∃a xs,v= .ref a∧TpS K G a xs∧RepL K G ds xs
 |.ins C ns ds,v=>∃a dx fs,v= .ref a∧G a=some (.ins C dx fs)∧fs.map (·.1)=ns∧RepL K G ds (fs.map (·.2))
 |.dct ks ds,v=>∃a kvs,v= .ref a∧Rd G a (.dT kvs)∧kvs.map (·.1)=ks∧RepL K G ds (kvs.map (·.2))
 |.scr ns,v=>∃a,v= .ref a∧gy K G a (ns.map V.int)
 |.xc C,v=>∃a,v= .ref a∧G a=some (m5 a (.ref C))∧ExcK K C
 |.fdc ks ds,v=>∃a o kvs,v= .ref a∧G a=some (.frz o (.dT kvs))∧kvs.map (·.1)=ks∧RepL K G ds (kvs.map (·.2))
def RepL (K:Z8)(G:Hp):List D→List V→Prop
 | [],vs=>vs=[]
 |d::ds,vs=>∃v r,vs=v::r∧Rep K G d v∧RepL K G ds r
end
def Same.seqT {K:Z8}{H H':Hp}{xs:List V}(e:Same H H')(h:nr K H a xs):nr K H' a xs:=by
 rcases h with (h|⟨o,h⟩)|h
 ·exact .inl (.inl (e _ _ h))
 ·exact .inl (.inr ⟨o,e _ _ h⟩)
 ·exact .inr h
mutual
theorem Rep.mono {K:Z8}{G G':Hp}(e:Same G G'):∀{d:D} {v:V},Rep K G d v→Rep K G' d v
 |.non,_,h=>h
 |.bl _,_,h=>h
 |.int _,_,h=>h
 |.str _,_,h=>h
 |.lst _,_,h=>by
  unfold Rep at h ⊢;obtain⟨a,xs,r,s,t⟩:=h;exact⟨a,xs,r,⟨e _ _ s.h⟩,RepL.mono e t⟩
 |.tup _,_,h=>by
  unfold Rep at h ⊢;obtain⟨a,xs,r,s,t⟩:=h;exact⟨a,xs,r,⟨e _ _ s.h⟩,RepL.mono e t⟩
 |.ins _ _ _,_,h=>by
  unfold Rep at h ⊢;obtain⟨a,dx,fs,r,s,n,t⟩:=h;exact⟨a,dx,fs,r,e _ _ s,n,RepL.mono e t⟩
 |.dct _ _,_,h=>by
  unfold Rep at h ⊢;obtain⟨a,kvs,r,s,n,t⟩:=h;refine⟨a,kvs,r,?_,n,RepL.mono e t⟩
  rcases s with s|⟨o,s⟩
  ·exact .inl (e _ _ s)
  ·exact .inr ⟨o,e _ _ s⟩
 |.scr _,_,h=>by
  unfold Rep at h ⊢;obtain⟨a,r,s⟩:=h;exact⟨a,r,e.seq s⟩
 |.xc _,_,h=>by
  unfold Rep at h ⊢;obtain⟨a,r,s,k⟩:=h;exact⟨a,r,e _ _ s,k⟩
 |.fdc _ _,_,h=>by
  unfold Rep at h ⊢;obtain⟨a,o,kvs,r,s,n,t⟩:=h;exact⟨a,o,kvs,r,e _ _ s,n,RepL.mono e t⟩
theorem RepL.mono {K:Z8}{G G':Hp}(e:Same G G'):∀{ds:List D} {vs:List V},RepL K G ds vs→RepL K G' ds vs
 | [],_,h=>h
 |_::_,_,h=>by
  unfold RepL at h ⊢;obtain⟨v,r,q,a,b⟩:=h;exact⟨v,r,q,Rep.mono e a,RepL.mono e b⟩
end
theorem RepL.length {K:Z8}{G:Hp}:∀{ds:List D} {vs:List V},RepL K G ds vs→ds.length=vs.length
 | [],vs,h=>by unfold RepL at h;rw[h];rfl
 |d::ds,vs,h=>by
  unfold RepL at h;obtain⟨v,r,rfl,_,b⟩:=h;rw[length_cons,length_cons,RepL.length b]
def RepL.nil {K:Z8}{G:Hp}:RepL K G [] []:=by unfold RepL;rfl
def RepL.cons {K:Z8}{G:Hp}{d:D}{v:V}{ds:List D}{vs:List V}(a:Rep K G d v)(b:RepL K G ds vs):RepL K G (d::ds) (v::vs):=by unfold RepL;exact⟨v,vs,rfl,a,b⟩
def RepL.inv {K:Z8}{G:Hp}{d:D}{ds:List D}{vs:List V}(h:RepL K G (d::ds) vs):∃v r,vs=v::r∧Rep K G d v∧RepL K G ds r:=by unfold RepL at h;exact h
def RepL.inv0 {K:Z8}{G:Hp}{vs:List V}(h:RepL K G [] vs):vs=[]:=by unfold RepL at h;exact h
theorem RepL.append {K:Z8}{G:Hp}:∀{ds es:List D} {vs ws:List V},RepL K G ds vs→RepL K G es ws→RepL K G (ds ++ es) (vs ++ ws)
 | [],_,_,_,h,h'=>by rw[h.inv0];exact h'
 |_::_,_,_,_,h,h'=>by
  obtain⟨v,r,rfl,a,b⟩:=h.inv;exact .cons a (RepL.append b h')
theorem RepL.get {K:Z8}{G:Hp}:∀{ds:List D} {vs:List V} {i:Nat} {d:D},RepL K G ds vs→ds[i]?=some d→∃v,vs[i]?=some v∧Rep K G d v
 | [],_,_,_,_,e=>by simp at e
 |_::_,_,0,_,h,e=>by
  obtain⟨v,r,rfl,a,b⟩:=h.inv;simp at e;subst e;exact⟨v,rfl,a⟩
 |_::_,_,i+1,_,h,e=>by
  obtain⟨v,r,rfl,a,b⟩:=h.inv;obtain⟨w,h1,h2⟩:=RepL.get (i:=i) b (by simpa using e);exact⟨w,by simpa using h1,h2⟩
theorem RepL.take {K:Z8}{G:Hp}:∀{ds:List D} {vs:List V} (n:Nat),RepL K G ds vs→RepL K G (ds.take n) (vs.take n)
 |_,_,0,_=>by simpa using RepL.nil
 | [],_,_+1,h=>by rw[h.inv0];simpa using RepL.nil
 |_::_,_,n+1,h=>by
  obtain⟨v,r,rfl,a,b⟩:=h.inv;exact .cons a (RepL.take n b)
theorem RepL.drop {K:Z8}{G:Hp}:∀{ds:List D} {vs:List V} (n:Nat),RepL K G ds vs→RepL K G (ds.drop n) (vs.drop n)
 |_,_,0,h=>h
 | [],_,_+1,h=>by rw[h.inv0];simpa using RepL.nil
 |_::_,_,n+1,h=>by
  obtain⟨v,r,rfl,a,b⟩:=h.inv;exact RepL.drop n b
theorem RepL.reverse {K:Z8}{G:Hp}:∀{ds:List D} {vs:List V},RepL K G ds vs→RepL K G ds.reverse vs.reverse
 | [],_,h=>by rw[h.inv0];simpa using RepL.nil
 |_::_,_,h=>by
  obtain⟨v,r,rfl,a,b⟩:=h.inv;rw[reverse_cons,reverse_cons];exact(RepL.reverse b).append (.cons a .nil)
theorem RepL.ints {K:Z8}{G:Hp}:∀{ns:Z1} {vs:List V},RepL K G (ns.map D.int) vs→vs=ns.map V.int
 | [],_,h=>h.inv0
 |n::ns,_,h=>by
  obtain⟨v,r,rfl,a,b⟩:=RepL.inv (by simpa using h);rw[RepL.ints b];have a':v= .int n:=by unfold Rep at a;exact a
  rw[a'];rfl
theorem RepL.of_ints {K:Z8}{G:Hp}:∀(ns:List Int),RepL K G (ns.map D.int) (ns.map V.int)
 | []=>.nil
 |n::ns=>.cons (by unfold Rep;rfl) (RepL.of_ints ns)
def oG (o:HO):Prop:=∃ks:List bL,o= .tup (ks.map kV)
structure Ext (G H G' H':Hp):Prop where
 hh:Same H H'
 gg:Same G G'
 gh:Same G' H'
 nw:∀b o,G' b=some o→G b=some o∨H b=none∨oG o
def Ext.refl {G H:Hp}(s:Same G H):Ext G H G H:=⟨.refl _,.refl _,s,λ_ _ h=>.inl h⟩
def Ext.trans {G H G1 H1 G2 H2:Hp}(a:Ext G H G1 H1)(b:Ext G1 H1 G2 H2):Ext G H G2 H2:=
 ⟨a.hh.trans b.hh,a.gg.trans b.gg,b.gh,λc o h=>(b.nw c o h).elim (λz=>a.nw c o z) λz=>.inr (z.imp a.hh.free id)⟩
def Ext.new {G H:Hp}(s:Same G H){p:Z2}(hp:H p=none)(o:HO):Ext G H (bc G p o) (bc H p o):=
 ⟨λb u e=>by rw[am (aD e hp)];exact e,λb u e=>by rw[am (aD (s b u e) hp)];exact e,
  λb u e=>by
   by_cases hb:b=p
   ·subst hb;rw[au]at e ⊢;exact e
   ·rw[am hb]at e ⊢;exact s b u e,
  λb u e=>by
   by_cases hb:b=p
   ·subst hb;exact .inr (.inl hp)
   ·rw[am hb]at e;exact .inl e⟩
def OkR {α:Type}(E:XK)(H:Hp):Res α→Prop
 |.ok _=>True
 |.exc c=>∀H',Same H H'→E (.ref c) none H'
 |.bad=>False
def OkR.fst {α β:Type}{E:XK}{H:Hp}{x:Res α}{f:α→Res β}(h:OkR E H (x.bind f)):OkR E H x:=by
 cases x with
 |ok a=>trivial
 |exc c=>exact h
 |bad=>exact h
def OkR.snd {α β:Type}{E:XK}{H H1:Hp}{x:Res α}{f:α→Res β}{a:α}(h:OkR E H (x.bind f))(e:x= .ok a)(s:Same H H1):OkR E H1 (f a):=by
 subst e;have h':OkR E H (f a):=h;cases q:f a with
 |ok b=>trivial
 |exc c=>rw[q]at h';exact λH' s'=>h' H' (s.trans s')
 |bad=>rw[q]at h';exact h'
def OkR.le {α:Type}{E:XK}{H H1:Hp}{x:Res α}(h:OkR E H x)(s:Same H H1):OkR E H1 x:=by
 cases x with
 |ok b=>trivial
 |exc c=>exact λH' s'=>h H' (s.trans s')
 |bad=>exact h
def aq {α β:Type}{x:Res α}{f:α→Res β}{a:α}{b:β}(e:x= .ok a)(h:f a= .ok b):x.bind f= .ok b:=by subst e;exact h
abbrev DS:=List (Option D)
def Ro (K:Z8)(G:Hp)(σ:St)(ρ:DS):Prop:=∀(i:Nat) (d:D),ρ[i]?=some (some d)→∃v,σ[i]?=some (some v)∧Rep K G d v
def Ro.mono {K:Z8}{G G':Hp}{σ:St}{ρ:DS}(h:Ro K G σ ρ)(s:Same G G'):Ro K G' σ ρ:=λi d e=>let ⟨v,a,b⟩:=h i d e;⟨v,a,b.mono s⟩
def Ro.nil {K:Z8}{G:Hp}{σ:St}:Ro K G σ []:=λi d e=>by simp at e
def Ro.cons {K:Z8}{G:Hp}{σ:St}{ρ:DS}{v:V}{d:D}(a:Rep K G d v)(h:Ro K G σ ρ):Ro K G (some v::σ) (some d::ρ):=λi e q=>by
 cases i with
 |zero=>simp at q;subst q;exact⟨v,rfl,a⟩
 |succ i=>simpa using h i e (by simpa using q)
def Ro.skip {K:Z8}{G:Hp}{σ:St}{ρ:DS}{o:Option V}(h:Ro K G σ ρ):Ro K G (o::σ) (none::ρ):=λi e q=>by
 cases i with
 |zero=>simp at q
 |succ i=>simpa using h i e (by simpa using q)
inductive DQ (X:Cx)(pins:Z9)(σ:St)(G H:Hp)(o:Res D)(u:Zc)(s':Z3):Prop
 |mk (d:D) (e:o= .ok d) (v:V) (G' H':Hp) (i:Inv X pins σ H' s') (r:RelV v u) (x:Ext G H G' H') (p:Rep X.K G' d v)
inductive DAQ (X:Cx)(pins:Z9)(σ:St)(G H:Hp)(o:Res (List D))(us:Z0)(s':Z3):Prop
 |mk (ds:List D) (e:o= .ok ds) (vs:List V) (G' H':Hp) (i:Inv X pins σ H' s') (r:Vals vs us) (x:Ext G H G' H') (p:RepL X.K G' ds vs)
inductive DTQ (X:Cx)(pins:Z9)(σ:St)(G H:Hp)(o:Res Bool)(b:Bool)(s':Z3):Prop
 |mk (e:o= .ok b) (G' H':Hp) (i:Inv X pins σ H' s') (x:Ext G H G' H')
def PD (X:Cx)(E:XK)(e:Y3)(f:DS→Res D):Prop:=
 ∀(pins:Z9) (s:Z3) (σ:St) (G H:Hp) (ρ:DS),Inv X pins σ H s→Same G H→Ro X.K G σ ρ→OkR E H (f ρ)→
  wpAny (model X.prog X.w) X.A (eval e X.env) (DQ X pins σ G H (f ρ)) X.xe s
def lU (X:Cx)(E:XK)(es:Ze)(f:DS→Res (List D)):Prop:=
 ∀(pos:Ys) (pins:Z9) (s:Z3) (σ:St) (G H:Hp) (ρ:DS),Inv X pins σ H s→Same G H→Ro X.K G σ ρ→OkR E H (f ρ)→
  wpAny (model X.prog X.w) X.A (spliced (backTo pos (starEach es X.env))) (DAQ X pins σ G H (f ρ)) X.xe s
def uI (X:Cx)(E:XK)(e:Y3)(f:DS→Res Bool):Prop:=
 ∀(pins:Z9) (s:Z3) (σ:St) (G H:Hp) (ρ:DS),Inv X pins σ H s→Same G H→Ro X.K G σ ρ→OkR E H (f ρ)→
  wpAny (model X.prog X.w) X.A (isTrue e X.env (eval e X.env)) (DTQ X pins σ G H (f ρ)) X.xe s
def PDW (X:Cx)(E:XK)(e:Y3)(f:DS→Res Bool):Prop:=
 ∀(whole:Sem Value) (pins:Z9) (s:Z3) (σ:St) (G H:Hp) (ρ:DS),Inv X pins σ H s→Same G H→Ro X.K G σ ρ→OkR E H (f ρ)→
  wpAny (model X.prog X.w) X.A (isTrue e X.env whole) (DTQ X pins σ G H (f ρ)) X.xe s
def PDW.pt {X:Cx}{E:XK}{f:DS→Res Bool}(h:PDW X E e f):uI X E e f:=h _
inductive tD (K:Z8)(E:XK)(f:DS→Res D)(σ:St)(H:Hp)(Q:VK):Prop
 |mk (G:Hp) (ρ:DS) (s:Same G H) (r:Ro K G σ ρ) (o:OkR E H (f ρ)) (k:∀d,f ρ= .ok d→∀v G' H',Ext G H G' H'→Rep K G' d v→Q v H')
def dM {X:Cx}{E:XK}{f:DS→Res D}(h:PD X E e f):PE X e (tD X.K E f):=by
 intro pins s σ H Q I hZ5;obtain⟨G,ρ,hs,hr,ho,k⟩:=hZ5;refine aV (h pins s σ G H ρ I hs hr ho) λu s' hZ107=>(by obtain⟨d,e,v,G',H',I',rv,x,rp⟩:=hZ107;exact⟨v,H',I',rv,k d e v G' H' x rp⟩)
inductive tDT (K:Z8)(E:XK)(f:DS→Res Bool)(σ:St)(H:Hp)(Q:Bool→Hp→Prop):Prop
 |mk (G:Hp) (ρ:DS) (s:Same G H) (r:Ro K G σ ρ) (o:OkR E H (f ρ)) (k:∀b,f ρ= .ok b→∀G' H',Ext G H G' H'→Q b H')
def HM {X:Cx}{E:XK}{f:DS→Res Bool}(h:uI X E e f):PT X e (tDT X.K E f):=by
 intro pins s σ H Q I hZ6;obtain⟨G,ρ,hs,hr,ho,k⟩:=hZ6;refine aV (h pins s σ G H ρ I hs hr ho) λb s' hZ108=>(by obtain⟨e,G',H',I',x⟩:=hZ108;exact⟨H',I',k b e G' H' x⟩)
inductive tDA (K:Z8)(E:XK)(f:DS→Res (List D))(σ:St)(H:Hp)(Q:List V→Hp→Prop):Prop
 |mk (G:Hp) (ρ:DS) (s:Same G H) (r:Ro K G σ ρ) (o:OkR E H (f ρ)) (k:∀ds,f ρ= .ok ds→∀vs G' H',Ext G H G' H'→RepL K G' ds vs→Q vs H')
def jd {X:Cx}{E:XK}{f:DS→Res (List D)}(h:lU X E es f):PA X es (tDA X.K E f):=by
 intro pos pins s σ H Q I hZ7;obtain⟨G,ρ,hs,hr,ho,k⟩:=hZ7;refine aV (h pos pins s σ G H ρ I hs hr ho) λus s' hZ109=>(by obtain⟨ds,e,vs,G',H',I',rv,x,rp⟩:=hZ109;exact⟨vs,H',I',rv,k ds e vs G' H' x rp⟩)
section
variable{X:Cx}{E:XK}
def E6 {i:Nat}{pos:Ys}(hN:X.N[i]?=some x)(hv:uJ X.env.scope x)(hd:zQ1 x:=by decide)(hcd:(x==("__classdict__" :Str))=false:=by decide) :
  PD X E (.Name x pos) (λρ=>match ρ[i]? with|some (some d)=>.ok d|_=>.bad):=by
 intro pins s σ G H ρ I hs hr ho;cases e:ρ[i]? with
 |none=>simp only[e]at ho;exact ho.elim
 |some o=>
  cases o with
  |none=>simp only[e]at ho;exact ho.elim
  |some d=>
   obtain⟨v,hv',rp⟩:=hr i d e;exact aV (en hN hv hd hcd pins s σ H (λv' H'=>H'=H∧v'=v) I ⟨v,hv',rfl,rfl⟩) λu s' hZ110=>by
    obtain⟨v',H',I',r,e1,e2⟩:=hZ110;subst e1 e2;exact⟨d,by simp only[e],v',G,H',I',r,.refl hs,rp⟩
def nH {t:TE}{d:D}(h:PE X e t)(ht:∀σ H,t σ H λv H'=>H'=H∧∀G,Rep X.K G d v):PD X E e (λ_=>.ok d):=by
 intro pins s σ G H ρ I hs hr ho;refine aV (h pins s σ H _ I (ht σ H)) λu s' hZ111=>?_;obtain⟨v,H',I',r,e1,e2⟩:=hZ111;subst e1;exact⟨d,rfl,v,G,H',I',r,.refl hs,e2 G⟩
def ag {i j pos}:PD X E (.Constant (.int i) j pos) (λ_=>.ok (.int i)):=nH zZ λ_ _=>⟨rfl,λ_=>by unfold Rep;rfl⟩
def ck {b j pos}:PD X E (.Constant (.bool b) j pos) (λ_=>.ok (.bl b)):=nH GP λ_ _=>⟨rfl,λ_=>by unfold Rep;rfl⟩
def mq {j pos}:PD X E (.Constant .none j pos) (λ_=>.ok .non):=nH E_ λ_ _=>⟨rfl,λ_=>by unfold Rep;rfl⟩
def zS {i:Int}(hg:Gl X x)(hm:X.mg x=some u)(r:∃t,u= .int i t)(hd:zQ1 x:=by decide):PD X E (.Name x pos) (λ_=>.ok (.int i)):=
 nH (wL (v:=.int i) hg hm r hd) λ_ _=>⟨rfl,λ_=>by unfold Rep;rfl⟩
def af:lU X E [] (λ_=>.ok []):=λ_ _ _ _ G H _ I hs _ _=>Calls.spliced_nil ⟨[],rfl,[],G,H,I,.nil,.refl hs,.nil⟩
def aa {f:DS→Res D}{g:DS→Res (List D)}(ha:PD X E e f)(hr:lU X E es g)(hs:zQ2 X e es:=by rfl) :
  lU X E (e::es) (λρ=>(f ρ).bind λd=>(g ρ).bind λds=>.ok (d::ds)):=by
 intro pos pins s σ G H ρ I hsm hro ho;have key:PA X (e::es) (w9 (tD X.K E f) (tDA X.K E g)):=bQ (dM ha) (jd hr) hs;refine aV (key pos pins s σ H (λvs H'=>∃ds,((f ρ).bind λd=>(g ρ).bind λds=>.ok (d::ds))= .ok ds∧∃G',Ext G H G' H'∧RepL X.K G' ds vs) I ?_) λus s' hZ112=>(by obtain⟨vs,H',I',r,ds,e1,G',x,rp⟩:=hZ112;exact⟨ds,e1,vs,G',H',I',r,x,rp⟩);refine⟨G,ρ,hsm,hro,ho.fst,λd ed v G1 H1 x1 r1=>⟨G1,ρ,x1.gh,hro.mono x1.gg,(ho.snd ed x1.hh).fst,λds eds vs G2 H2 x2 r2=>⟨d::ds,aq ed (aq eds rfl),G2,x1.trans x2,.cons (r1.mono x2.gg) r2⟩⟩⟩
def DOp (X:Cx)(E:XK)(f:Value→Value→Sem Value)(g:D→D→Res D):Prop:=
 ∀(pins:Z9) (s:Z3) (σ:St) (G H:Hp) (x y:V) (dx dy:D) (v u:Value),Inv X pins σ H s→Same G H→Rep X.K G dx x→Rep X.K G dy y→RelV x v→RelV y u→OkR E H (g dx dy)→
  wpAny (model X.prog X.w) X.A (f v u) (DQ X pins σ G H (g dx dy)) X.xe s
def DOp.of {f:Value→Value→Sem Value}{r:R2}{g:D→D→Res D}(ho:pK X f r)(h:∀(G H:Hp) (x y:V) (dx dy:D),Same G H→Rep X.K G dx x→Rep X.K G dy y→OkR E H (g dx dy)→r x y H (λv' H'=>∃d G',g dx dy= .ok d∧Ext G H G' H'∧Rep X.K G' d v')):DOp X E f g:=by
 intro pins s σ G H x y dx dy v u I hs rx ry rv ru ok;refine aV (ho pins s σ H x y v u _ I rv ru (h G H x y dx dy hs rx ry ok)) λw s' hZ113=>(by obtain⟨v',H',I',r',d,G',e,x',rp⟩:=hZ113;exact⟨d,e,v',G',H',I',r',x',rp⟩)
def ae (f:DS→Res D)(g:DS→Res D)(o:D→D→Res D):DS→Res D:=λρ=>(f ρ).bind λa=>(g ρ).bind λb=>o a b
def zW {fa fb:DS→Res D}(ha:PD X E a fa)(hb:PD X E b fb){op:Value→Value→Sem Value}{o:D→D→Res D}(hop:DOp X E op o){pins:Z9}{s:Z3}{σ:St}{G H:Hp}{ρ:DS}(I:Inv X pins σ H s)(hs:Same G H)(hro:Ro X.K G σ ρ)(ho:OkR E H (ae fa fb o ρ)) :
  wpAny (model X.prog X.w) X.A (eval a X.env) (λv s₁=>wpAny (model X.prog X.w) X.A (eval b X.env) (λu s₂=>wpAny (model X.prog X.w) X.A (op v u) (DQ X pins σ G H (ae fa fb o ρ)) X.xe s₂) X.xe s₁) X.xe s:=by
 refine aV (ha pins s σ G H ρ I hs hro ho.fst) λv s1 hZ114=>?_;obtain⟨d1,e1,v1,G1,H1,I1,r1,x1,p1⟩:=hZ114;refine aV (hb pins s1 σ G1 H1 ρ I1 x1.gh (hro.mono x1.gg) (ho.snd e1 x1.hh).fst) λu s2 hZ115=>?_;obtain⟨d2,e2,v2,G2,H2,I2,r2,x2,p2⟩:=hZ115;refine aV (hop pins s2 σ G2 H2 v1 v2 d1 d2 v u I2 x2.gh (p1.mono x2.gg) p2 r1 r2 ((ho.snd e1 x1.hh).snd e2 x2.hh)) λw s3 hZ116=>?_;obtain⟨d,e,v3,G3,H3,I3,r3,x3,p3⟩:=hZ116;exact⟨d,aq e1 (aq e2 e),v3,G3,H3,I3,r3,(x1.trans x2).trans x3,p3⟩
def ar {op:Operator}{fa fb:DS→Res D}{o:D→D→Res D}(hop:DOp X E (binaryOp op) o)(ha:PD X E a fa)(hb:PD X E b fb):PD X E (.BinOp a op b pos) (ae fa fb o):=
 λpins s σ G H ρ I hs hro ho=>wpAny_BinOp (zW ha hb hop I hs hro ho)
def cG (f:DS→Res D):DS→Res Bool:=λρ=>(f ρ).bind λd=>match d with|.bl b=>.ok b|_=>.bad
def aR {op:CmpOp}{fa fb:DS→Res D}{o:D→D→Res D}(hop:DOp X E (compareOp op) o)(ha:PD X E a fa)(hb:PD X E b fb)(hm:behindInMarks op b=false):uI X E (.Compare a [op] [b] pos) (cG (ae fa fb o)):=by
 intro pins s σ G H ρ I hs hro ho;refine wpAny_isTrue_Compare1 (aV (zW ha hb hop I hs hro ho.fst) λv s1 h1=>aV h1 λu s2 h2=>aV h2 λc s3 hZ117=>?_) hm;obtain⟨d,e,v3,G3,H3,I3,r3,x3,p3⟩:=hZ117;have k:=ho.snd e (Same.refl H);cases d with
 |bl b=>
  unfold Rep at p3;subst p3;cases r3;exact wpAny_truthy_bool ⟨aq e rfl,G3,H3,I3,x3⟩
 |_=>exact k.elim
def iM {f:DS→Res D}(h:PD X E e f)(he:∀whole,isTrue e X.env whole=(do let v ←whole;standAt e.pos;holding [v] (truthy v)):=by intro _;rfl):uI X E e (cG f):=by
 intro pins s σ G H ρ I hs hro ho;refine isTrue_plain (aV (h pins s σ G H ρ I hs hro ho.fst) λv s1 hZ118=>?_) (he _);obtain⟨d,e,v3,G3,H3,I3,r3,x3,p3⟩:=hZ118;have k:=ho.snd e (Same.refl H);cases d with
 |bl b=>
  unfold Rep at p3;subst p3;cases r3;exact wpAny_truthy_bool ⟨aq e rfl,G3,H3,I3,x3⟩
 |_=>exact k.elim
end
def rep_int {K:Z8}{G:Hp}{i:Int}{v:V}:Rep K G (.int i) v↔v= .int i:=by unfold Rep;exact Iff.rfl
def rep_bl {K:Z8}{G:Hp}{i:Bool}{v:V}:Rep K G (.bl i) v↔v= .bl i:=by unfold Rep;exact Iff.rfl
def rep_non {K:Z8}{G:Hp}{v:V}:Rep K G .non v↔v= .non:=by unfold Rep;exact Iff.rfl
def rep_str {K:Z8}{G:Hp}{v:V}:Rep K G (.str i) v↔v= .str i:=by unfold Rep;exact Iff.rfl
def rep_lst {K:Z8}{G:Hp}{ds:List D}{v:V}:Rep K G (.lst ds) v↔∃a xs,v= .ref a∧LsS K G a xs∧RepL K G ds xs:=by unfold Rep;exact Iff.rfl
def rep_tup {K:Z8}{G:Hp}{ds:List D}{v:V}:Rep K G (.tup ds) v↔∃a xs,v= .ref a∧TpS K G a xs∧RepL K G ds xs:=by unfold Rep;exact Iff.rfl
def sy {K:Z8}{G:Hp}{ns:Z1}{v:V}:Rep K G (.scr ns) v↔∃a,v= .ref a∧gy K G a (ns.map V.int):=by unfold Rep;exact Iff.rfl
def rep_xc {K:Z8}{G:Hp}{C:Z2}{v:V}:Rep K G (.xc C) v↔∃a,v= .ref a∧G a=some (m5 a (.ref C))∧ExcK K C:=by unfold Rep;exact Iff.rfl
def rep_fdc {K:Z8}{G:Hp}{ks:List (List bL)}{ds:List D}{v:V}:Rep K G (.fdc ks ds) v↔∃a o kvs,v= .ref a∧G a=some (.frz o (.dT kvs))∧kvs.map (·.1)=ks∧RepL K G ds (kvs.map (·.2)):=by unfold Rep;exact Iff.rfl
def rep_dct {K:Z8}{G:Hp}{ks:List (List bL)}{ds:List D}{v:V}:Rep K G (.dct ks ds) v↔∃a kvs,v= .ref a∧Rd G a (.dT kvs)∧kvs.map (·.1)=ks∧RepL K G ds (kvs.map (·.2)):=by unfold Rep;exact Iff.rfl
def rep_ins {K:Z8}{G:Hp}{C:Z2}{ns:Zw}{ds:List D}{v:V}:Rep K G (.ins C ns ds) v↔∃a dx fs,v= .ref a∧G a=some (.ins C dx fs)∧fs.map (·.1)=ns∧RepL K G ds (fs.map (·.2)):=by unfold Rep;exact Iff.rfl
def iI (c:Int→Int→Bool)(g:Int→Int→D):D→D→Res D
 |.int i,.int j=>if c i j=true then .ok (g i j) else .bad
 |_,_=>.bad
section
variable{X:Cx}{E:XK}
def nz {f:Value→Value→Sem Value}{C:Int→Int→Prop}{g:Int→Int→V}{c:Int→Int→Bool}{gD:Int→Int→D}(ho:pK X f (rI C g))(hc:∀i j,c i j=true→C i j)(hg:∀i j G,Rep X.K G (gD i j) (g i j)):DOp X E f (iI c gD):=
 DOp.of ho λG H x y dx dy hs rx ry ok=>by
  unfold iI at ok ⊢;split at ok
  ·rename_i i j;rw[rep_int]at rx ry;subst rx ry;by_cases h:c i j=true
   ·rw[Yo h];exact⟨i,j,rfl,rfl,hc i j h,_,G,rfl,.refl hs,hg i j G⟩
   ·rw[Ym h]at ok;exact ok.elim
  ·exact ok.elim
def jo {f:Value→Value→Sem Value}{g:Int→Int→V}{gD:Int→Int→D}(ho:pK X f (Dx g))(hg:∀i j G,Rep X.K G (gD i j) (g i j)):DOp X E f (iI (λ_ _=>true) gD):=
 DOp.of ho λG H x y dx dy hs rx ry ok=>by
  unfold iI at ok ⊢;split at ok
  ·rename_i i j;rw[rep_int]at rx ry;subst rx ry;exact⟨i,j,rfl,rfl,_,G,rfl,.refl hs,hg i j G⟩
  ·exact ok.elim
instance (i j:Int):Decidable (CMul i j):=by unfold CMul;infer_instance
instance (i j:Int):Decidable (yA i j):=by unfold yA;infer_instance
instance (i j:Int):Decidable (A9 i j):=by unfold A9;infer_instance
def yG:D→D→Res D:=iI (λ_ _=>true) λi j=>.int (i+j)
def fN:D→D→Res D:=iI (λ_ _=>true) λi j=>.int (i-j)
def xZ:D→D→Res D:=iI (λi j=>decide (CMul i j)) λi j=>.int (i*j)
def wf:D→D→Res D:=iI (λi j=>decide (yA i j)) λi j=>.int (i / j)
def oS:D→D→Res D:=iI (λ_ j=>decide (0<j)) λi j=>.int (i % j)
def yg:D→D→Res D:=iI (λi j=>decide (A9 i j)) λi j=>.int (i ^ j.toNat)
def zG:D→D→Res D:=iI (λ_ _=>true) λi j=>.bl (decide (i<j))
def uK:D→D→Res D:=iI (λ_ _=>true) λi j=>.bl (decide (i≤j))
def yx:D→D→Res D:=iI (λ_ _=>true) λi j=>.bl (decide (j<i))
def Iz:D→D→Res D:=iI (λ_ _=>true) λi j=>.bl (decide (j≤i))
def do_add:DOp X E (binaryOp .Add) yG:=jo ES λ_ _ _=>rep_int.mpr rfl
def ff:DOp X E (binaryOp .Sub) fN:=jo EY λ_ _ _=>rep_int.mpr rfl
def do_mul:DOp X E (binaryOp .Mult) xZ:=nz EV (λ_ _ h=>Zm h) λ_ _ _=>rep_int.mpr rfl
def Br:DOp X E (binaryOp .FloorDiv) wf:=nz Ci (λ_ _ h=>Zm h) λ_ _ _=>rep_int.mpr rfl
def kG:DOp X E (binaryOp .Mod) oS:=nz EU (λ_ _ h=>Zm h) λ_ _ _=>rep_int.mpr rfl
def yQ:DOp X E (binaryOp .Pow) yg:=nz EW (λ_ _ h=>Zm h) λ_ _ _=>rep_int.mpr rfl
def qh:DOp X E (compareOp .Lt) zG:=jo GM λ_ _ _=>rep_bl.mpr rfl
def iY:DOp X E (compareOp .LtE) uK:=jo GK λ_ _ _=>rep_bl.mpr rfl
def tm:DOp X E (compareOp .Gt) yx:=jo GJ λ_ _ _=>rep_bl.mpr rfl
def EO:D→Res D
 |.int i=>.ok (.int (-i))
 |_=>.bad
def mn {fa:DS→Res D}(ha:PD X E a fa):PD X E (.UnaryOp .USub a pos) (λρ=>(fa ρ).bind EO):=by
 intro pins s σ G H ρ I hs hro ho;refine UnaryOp_ (aV (ha pins s σ G H ρ I hs hro ho.fst) λv s1 hZ119=>?_);obtain⟨d1,e1,v1,G1,H1,I1,r1,x1,p1⟩:=hZ119;have k:=ho.snd e1 x1.hh;cases d1 with
 |int i=>
  rw[rep_int]at p1;subst p1;exact aV (FE pins s1 σ H1 (.int i) v (λv' H'=>H'=H1∧v'= .int (-i)) I1 r1 ⟨i,rfl,rfl,rfl⟩) λw s2 hZ120=>by
   obtain⟨v2,H2,I2,r2,h1,h2⟩:=hZ120;subst h1 h2;exact⟨.int (-i),aq e1 rfl,_,G1,_,I2,r2,x1,rep_int.mpr rfl⟩
 |_=>exact k.elim
def B2 (d:D):Bool:=match d with|.non=>true|_=>false
def uq {K:Z8}{G:Hp}{d:D}{v:V}(h:Rep K G d v):decide (v=V.non)=B2 d:=by
 cases d with
 |non=>rw[rep_non]at h;subst h;rfl
 |bl b=>rw[rep_bl]at h;subst h;rfl
 |int i=>rw[rep_int]at h;subst h;rfl
 |str x=>rw[rep_str]at h;subst h;rfl
 |lst l=>rw[rep_lst]at h;obtain⟨a,xs,rfl,_⟩:=h;rfl
 |tup l=>rw[rep_tup]at h;obtain⟨a,xs,rfl,_⟩:=h;rfl
 |ins C ns l=>rw[rep_ins]at h;obtain⟨a,dx,fs,rfl,_⟩:=h;rfl
 |dct ks l=>rw[rep_dct]at h;obtain⟨a,kvs,rfl,_⟩:=h;rfl
 |scr ns=>rw[sy]at h;obtain⟨a,rfl,_⟩:=h;rfl
 |xc C=>rw[rep_xc]at h;obtain⟨a,rfl,_⟩:=h;rfl
 |fdc ks l=>rw[rep_fdc]at h;obtain⟨a,o,kvs,rfl,_⟩:=h;rfl
def Ew (d e:D):Res D:=match e with|.non=>.ok (.bl (B2 d))|_=>.bad
def qE (d e:D):Res D:=match e with|.non=>.ok (.bl (!B2 d))|_=>.bad
def DY:DOp X E (compareOp .Is) Ew:=DOp.of ET λG H x y dx dy hs rx ry ok=>by
 cases dy with
 |non=>rw[rep_non]at ry;exact⟨ry,_,G,rfl,.refl hs,by rw[uq rx];exact rep_bl.mpr rfl⟩
 |_=>exact ok.elim
def Bs:DOp X E (compareOp .IsNot) qE:=DOp.of Cj λG H x y dx dy hs rx ry ok=>by
 cases dy with
 |non=>rw[rep_non]at ry;exact⟨ry,_,G,rfl,.refl hs,by rw[uq rx];exact rep_bl.mpr rfl⟩
 |_=>exact ok.elim
def zX {f:DS→Res Bool}(ha:uI X E a f):PDW X E (.BoolOp .And [a] pos) f:=by
 intro wh pins s σ G H ρ I hs hro ho;refine isTrue_and (aV (ha pins s σ G H ρ I hs hro ho) λc s1 e=>?_);cases c with
 |true=>exact isTrue_and_nil e
 |false=>exact e
def nI {f:DS→Res Bool}(ha:uI X E a f):PDW X E (.BoolOp .Or [a] pos) f:=by
 intro wh pins s σ G H ρ I hs hro ho;refine isTrue_or (aV (ha pins s σ G H ρ I hs hro ho) λc s1 e=>?_);cases c with
 |false=>exact isTrue_or_nil e
 |true=>exact e
def Be (f g:DS→Res Bool):DS→Res Bool:=λρ=>(f ρ).bind λb=>if b=true then g ρ else .ok false
def FO (f g:DS→Res Bool):DS→Res Bool:=λρ=>(f ρ).bind λb=>if b=true then .ok true else g ρ
def Cn {f g:DS→Res Bool}(ha:uI X E a f)(hb:PDW X E (.BoolOp .And (b::rest) pos) g):PDW X E (.BoolOp .And (a::b::rest) pos) (Be f g):=by
 intro wh pins s σ G H ρ I hs hro ho;refine isTrue_and (aV (ha pins s σ G H ρ I hs hro ho.fst) λc s1 hZ121=>?_);obtain⟨e,G1,H1,I1,x1⟩:=hZ121;cases c with
 |true=>exact aV (hb wh pins s1 σ G1 H1 ρ I1 x1.gh (hro.mono x1.gg) (ho.snd e x1.hh)) λc2 s2 hZ122=>(by obtain⟨e2,G2,H2,I2,x2⟩:=hZ122;exact⟨aq e (by rw[Yo rfl];exact e2),G2,H2,I2,x1.trans x2⟩)
 |false=>exact⟨aq e rfl,G1,H1,I1,x1⟩
def se {f g:DS→Res Bool}(ha:uI X E a f)(hb:PDW X E (.BoolOp .Or (b::rest) pos) g):PDW X E (.BoolOp .Or (a::b::rest) pos) (FO f g):=by
 intro wh pins s σ G H ρ I hs hro ho;refine isTrue_or (aV (ha pins s σ G H ρ I hs hro ho.fst) λc s1 hZ123=>?_);obtain⟨e,G1,H1,I1,x1⟩:=hZ123;cases c with
 |false=>exact aV (hb wh pins s1 σ G1 H1 ρ I1 x1.gh (hro.mono x1.gg) (ho.snd e x1.hh)) λc2 s2 hZ124=>(by obtain⟨e2,G2,H2,I2,x2⟩:=hZ124;exact⟨aq e (by rw[Ym Bool.false_ne_true];exact e2),G2,H2,I2,x1.trans x2⟩)
 |true=>exact⟨aq e rfl,G1,H1,I1,x1⟩
def jB (f:DS→Res Bool):DS→Res Bool:=λρ=>(f ρ).bind λb=>.ok (!b)
def cR {f:DS→Res Bool}(ha:uI X E a f):uI X E (.UnaryOp .Not a pos) (jB f):=by
 intro pins s σ G H ρ I hs hro ho;exact isTrue_not (aV (ha pins s σ G H ρ I hs hro ho.fst) λc s1 hZ125=>(by obtain⟨e,G1,H1,I1,x1⟩:=hZ125;exact⟨aq e rfl,G1,H1,I1,x1⟩))
def DM (f g:DS→Res D):DS→Res D:=λρ=>(f ρ).bind λd=>match d with|.bl true=>g ρ|.bl false=>.ok (.bl false)|_=>.bad
def EQ (f:DS→Res D):DS→Res D:=λρ=>(f ρ).bind λd=>match d with|.bl b=>.ok (.bl (!b))|_=>.bad
def E4 {op}{f:DS→Res D}(h:PD X E a f):PD X E (.BoolOp op [a] pos) f:=λpins s σ G H ρ I hs hro ho=>BoolOp_one (h pins s σ G H ρ I hs hro ho)
def E0 {f g:DS→Res D}(ha:PD X E a f)(hb:PD X E (.BoolOp .And (b::rest) pos) g):PD X E (.BoolOp .And (a::b::rest) pos) (DM f g):=by
 intro pins s σ G H ρ I hs hro ho;refine BoolOp_and (aV (ha pins s σ G H ρ I hs hro ho.fst) λv s1 hZ126=>?_);obtain⟨d1,e1,v1,G1,H1,I1,r1,x1,p1⟩:=hZ126;have k:=ho.snd e1 x1.hh;cases d1 with
 |bl c=>
  rw[rep_bl]at p1;subst p1;cases r1;refine wpAny_truthy_bool ?_;cases c with
  |true=>exact aV (hb pins s1 σ G1 H1 ρ I1 x1.gh (hro.mono x1.gg) k) λw s2 hZ127=>(by obtain⟨d2,e2,v2,G2,H2,I2,r2,x2,p2⟩:=hZ127;exact⟨d2,aq e1 e2,v2,G2,H2,I2,r2,x1.trans x2,p2⟩)
  |false=>exact⟨_,aq e1 rfl,.bl false,G1,H1,I1,rfl,x1,rep_bl.mpr rfl⟩
 |_=>exact k.elim
def E3 {f:DS→Res D}(ha:PD X E a f):PD X E (.UnaryOp .Not a pos) (EQ f):=by
 intro pins s σ G H ρ I hs hro ho;refine UnaryOp_ (aV (ha pins s σ G H ρ I hs hro ho.fst) λv s1 hZ128=>?_);obtain⟨d1,e1,v1,G1,H1,I1,r1,x1,p1⟩:=hZ128;have k:=ho.snd e1 x1.hh;cases d1 with
 |bl c=>
  rw[rep_bl]at p1;subst p1;cases r1;exact not_of (wpAny_truthy_bool ⟨_,aq e1 rfl,.bl (!c),G1,H1,I1,rfl,x1,rep_bl.mpr rfl⟩)
 |_=>exact k.elim
def iE (fa fb fc:DS→Res D)(o o':D→D→Res D):DS→Res Bool:=λρ=>(fa ρ).bind λa=>(fb ρ).bind λb=>(o a b).bind λr=>match r with|.bl true=>(fc ρ).bind λc=>(o' b c).bind λq=>(match q with|.bl k=>.ok k|_=>.bad)|.bl false=>.ok false|_=>.bad
def aQ (n:Nat):Bool:=decide (n≤100000)
def bK {n:Nat}(h:aQ n=true):n≤sizeLine:=le_trans (Zm h) (by decide)
def cU (f:DS→Res (List D)):DS→Res D:=λρ=>(f ρ).bind λds=>if aQ ds.length=true then .ok (.lst ds) else .bad
def cA (f:DS→Res (List D)):DS→Res D:=λρ=>(f ρ).bind λds=>if aQ ds.length=true then .ok (.tup ds) else .bad
def ef {f:DS→Res (List D)}(h:lU X E es f):PD X E (.List es pos) (cU f):=by
 intro pins s σ G H ρ I hs hro ho;refine aV (vt (jd h) pins s σ H (λv H'=>∃d G',cU f ρ= .ok d∧Ext G H G' H'∧Rep X.K G' d v) I ?_) λu s' hZ129=>(by obtain⟨v,H',I',r,d,G',e,x,rp⟩:=hZ129;exact⟨d,e,v,G',H',I',r,x,rp⟩);refine⟨G,ρ,hs,hro,ho.fst,λds e vs G1 H1 x1 r1=>?_⟩;have k:=ho.snd e x1.hh;by_cases hl:aQ ds.length=true
 ·refine⟨by rw[←r1.length];exact bK hl,λp hp=>⟨.lst ds,bc G1 p (.lst vs),aq e (Yo hl),x1.trans (.new x1.gh hp _),rep_lst.mpr ⟨p,vs,rfl,.of au,r1.mono (Ext.new x1.gh hp _).gg⟩⟩⟩
 ·rw[Ym hl]at k;exact k.elim
def cm {x1}{f:DS→Res (List D)}(h:lU X E es f):PD X E (.Tuple es x1 pos) (cA f):=by
 intro pins s σ G H ρ I hs hro ho;refine aV (vv (jd h) pins s σ H (λv H'=>∃d G',cA f ρ= .ok d∧Ext G H G' H'∧Rep X.K G' d v) I ?_) λu s' hZ130=>(by obtain⟨v,H',I',r,d,G',e,x,rp⟩:=hZ130;exact⟨d,e,v,G',H',I',r,x,rp⟩);refine⟨G,ρ,hs,hro,ho.fst,λds e vs G1 H1 x1 r1=>?_⟩;have k:=ho.snd e x1.hh;by_cases hl:aQ ds.length=true
 ·refine⟨by rw[←r1.length];exact bK hl,λp hp=>⟨.tup ds,bc G1 p (.tup vs),aq e (Yo hl),x1.trans (.new x1.gh hp _),rep_tup.mpr ⟨p,vs,rfl,.of au,r1.mono (Ext.new x1.gh hp _).gg⟩⟩⟩
 ·rw[Ym hl]at k;exact k.elim
end
section
variable{X:Cx}{E:XK}
def E5 {r:R2}{fa fb:DS→Res D}{o:D→D→Res D}(he:PE X e (H_ r (tD X.K E fa) (tD X.K E fb)))(h:∀(G H:Hp) (x y:V) (dx dy:D) (Q:VK),Same G H→Rep X.K G dx x→Rep X.K G dy y→OkR E H (o dx dy)→(∀d v' G' H',o dx dy= .ok d→Ext G H G' H'→Rep X.K G' d v'→Q v' H')→r x y H Q):PD X E e (ae fa fb o):=by
 intro pins s σ G H ρ I hs hro ho;refine aV (he pins s σ H (λv H'=>∃d G',ae fa fb o ρ= .ok d∧Ext G H G' H'∧Rep X.K G' d v) I ?_) λu s' hZ131=>(by obtain⟨v,H',I',r',d,G',e,x,rp⟩:=hZ131;exact⟨d,e,v,G',H',I',r',x,rp⟩);refine⟨G,ρ,hs,hro,ho.fst,λd1 e1 v1 G1 H1 x1 p1=>⟨G1,ρ,x1.gh,hro.mono x1.gg,(ho.snd e1 x1.hh).fst,λd2 e2 v2 G2 H2 x2 p2=>?_⟩⟩;exact h G2 H2 v1 v2 d1 d2 _ x2.gh (p1.mono x2.gg) p2 ((ho.snd e1 x1.hh).snd e2 x2.hh) λd v' G' H' ed xx rp=>⟨d,G',aq e1 (aq e2 ed),(x1.trans x2).trans xx,rp⟩
def RepL.atI {K:Z8}{G:Hp}{ds:List D}{vs:List V}{i:Int}{d:D}(h:RepL K G ds vs)(e:atI ds i=some d):∃v,L2.atI vs i=some v∧Rep K G d v:=by
 unfold L2.atI at e ⊢;rw[←h.length];cases q:pH ds.length i with
 |none=>rw[q]at e;cases e
 |some j=>
  rw[q]at e;exact h.get (by simpa using e)
def aH:D→D→Res D
 |.lst l,.int i=>match L2.atI l i with|some d=>.ok d|none=>.bad
 |.tup l,.int i=>match L2.atI l i with|some d=>.ok d|none=>.bad
 |.scr ns,.int i=>match L2.atI ns i with|some n=>.ok (.int n)|none=>.bad
 |.str z,.int i=>match L2.atI z.cps.toList i with|some c=>if aQ z.length=true then .ok (.str ⟨#[c]⟩) else .bad|none=>.bad
 |_,_=>.bad
def Bf {α β:Type}{f:α→β}{xs:List α}{i:Int}{a:α}(h:L2.atI xs i=some a):L2.atI (xs.map f) i=some (f a):=by
 unfold L2.atI at h ⊢;rw[length_map];cases q:pH xs.length i with
 |none=>rw[q]at h;cases h
 |some j=>
  rw[q]at h;show (xs.map f)[j]?=some (f a);have h':xs[j]?=some a:=h;rw[getElem?_map,h'];rfl
def ay {fa fb:DS→Res D}(ha:PD X E a fa)(hb:PD X E b fb)(hp:qV b:=by intro _ _;rfl):PD X E (.Subscript a b pos) (ae fa fb aH):=by
 refine E5 (Dv Ez (dM ha) (dM hb) hp) λG H x y dx dy Q hs rx ry ok k=>?_;unfold aH at ok k;split at ok
 ·rename_i l i;rw[rep_lst]at rx;rw[rep_int]at ry;obtain⟨p,xs,rfl,sq,rl⟩:=rx;subst ry;dsimp only at ok k;cases q:L2.atI l i with
  |none=>rw[q]at ok;exact ok.elim
  |some d=>
   obtain⟨v,hv,rv⟩:=rl.atI q;rw[q]at k;exact .inl ⟨p,xs,i,v,rfl,rfl,hs.seq sq.sq,hv,k d v G H rfl (.refl hs) rv⟩
 ·rename_i l i;rw[rep_tup]at rx;rw[rep_int]at ry;obtain⟨p,xs,rfl,sq,rl⟩:=rx;subst ry;dsimp only at ok k;cases q:L2.atI l i with
  |none=>rw[q]at ok;exact ok.elim
  |some d=>
   obtain⟨v,hv,rv⟩:=rl.atI q;rw[q]at k;exact .inr (.inl ⟨p,xs,i,v,rfl,rfl,hs.seqT sq,hv,k d v G H rfl (.refl hs) rv⟩)
 ·rename_i ns i;rw[sy]at rx;rw[rep_int]at ry;obtain⟨p,rfl,sq⟩:=rx;subst ry;dsimp only at ok k;cases q:L2.atI ns i with
  |none=>rw[q]at ok;exact ok.elim
  |some n=>
   rw[q]at k;exact .inl ⟨p,_,i,.int n,rfl,rfl,hs.seq sq,Bf q,k (.int n) (.int n) G H rfl (.refl hs) (rep_int.mpr rfl)⟩
 ·rename_i z i;rw[rep_str]at rx;rw[rep_int]at ry;subst rx ry;dsimp only at ok k;cases q:L2.atI z.cps.toList i with
  |none=>rw[q]at ok;exact ok.elim
  |some c=>
   rw[q]at k ok;dsimp only at k ok;by_cases hz:aQ z.length=true
   ·rw[Yo hz]at k;exact .inr (.inr ⟨z,i,c,rfl,rfl,bK hz,q,k _ _ G H rfl (.refl hs) (rep_str.mpr rfl)⟩)
   ·rw[Ym hz]at ok;exact ok.elim
 ·exact ok.elim
def A_ (K:Z8)(E:XK)(r:List V→Hp→VK→Prop)(g:List D→Res D):Prop:=
 ∀(G H:Hp) (vs:List V) (ds:List D) (Q:VK),Same G H→RepL K G ds vs→OkR E H (g ds)→(∀d v' G' H',g ds= .ok d→Ext G H G' H'→Rep K G' d v'→Q v' H')→r vs H Q
def bb (fs:DS→Res (List D))(g:List D→Res D):DS→Res D:=λρ=>(fs ρ).bind g
def zU {r:List V→Hp→VK→Prop}{fs:DS→Res (List D)}{g:List D→Res D}(he:PE X e (HW r (tDA X.K E fs)))(h:A_ X.K E r g):PD X E e (bb fs g):=by
 intro pins s σ G H ρ I hs hro ho;refine aV (he pins s σ H (λv H'=>∃d G',bb fs g ρ= .ok d∧Ext G H G' H'∧Rep X.K G' d v) I ?_) λu s' hZ132=>(by obtain⟨v,H',I',r',d,G',e,x,rp⟩:=hZ132;exact⟨d,e,v,G',H',I',r',x,rp⟩);refine⟨G,ρ,hs,hro,ho.fst,λds e1 vs G1 H1 x1 p1=>?_⟩;exact h G1 H1 vs ds _ x1.gh p1 (ho.snd e1 x1.hh) λd v' G' H' ed xx rp=>⟨d,G',aq e1 ed,x1.trans xx,rp⟩
def jD {p pos:Ys}{id:String}{r:List V→Hp→VK→Prop}{fs:DS→Res (List D)}{g:List D→Res D}(hc:eJ X (.builtin id) r)(h:A_ X.K E r g)(hg:Gl X x)(hm:X.mg x=none)(hv:bootBuiltins x=some (.builtin id))(ha:lU X E (e::es) fs)(hn:x≠ "__name__" :=by decide) (hdb:zQ1 x:=by decide)(he:zQ2 X e es:=by rfl) (hpl:(backTo pos (starEach es X.env)).any (·.1)=false:=by rfl):PD X E (.Call (.Name x p) (e::es) [] pos) (bb fs g):=
 zU (oW hc hg hm hv (jd ha) hn hdb he hpl) h
def mm {p pos:Ys}{T:String}{r:List V→Hp→VK→Prop}{fs:DS→Res (List D)}{g:List D→Res D}(hc:eJ X (.type T) r)(h:A_ X.K E r g)(hg:Gl X x)(hm:X.mg x=none)(hv:bootBuiltins x=some (.type T))(ha:lU X E (e::es) fs)(hn:x≠ "__name__" :=by decide) (hdb:zQ1 x:=by decide)(he:zQ2 X e es:=by rfl) (hpl:(backTo pos (starEach es X.env)).any (·.1)=false:=by rfl):PD X E (.Call (.Name x p) (e::es) [] pos) (bb fs g):=
 zU (eh hc hg hm hv (jd ha) hn hdb he hpl) h
def bj:List D→Res D
 | [.lst l]=>.ok (.int l.length)
 | [.tup l]=>.ok (.int l.length)
 | [.scr ns]=>.ok (.int ns.length)
 |_=>.bad
def DV {K:Z8}:A_ K E (λxs H Q=>∃p ys,xs=[.ref p]∧(gy K H p ys∨nr K H p ys)∧Q (.int ys.length) H) bj:=by
 intro G H vs ds Q hs rl ok k;unfold bj at ok k;split at ok
 ·obtain⟨v,r,rfl,rx,r0⟩:=rl.inv;rw[r0.inv0];rw[rep_lst]at rx;obtain⟨p,xs,rfl,sq,rx⟩:=rx;exact⟨p,xs,rfl,.inl (hs.seq sq.sq),k _ _ G H rfl (.refl hs) (by rw[rx.length];exact rep_int.mpr rfl)⟩
 ·obtain⟨v,r,rfl,rx,r0⟩:=rl.inv;rw[r0.inv0];rw[rep_tup]at rx;obtain⟨p,xs,rfl,sq,rx⟩:=rx;exact⟨p,xs,rfl,.inr (hs.seqT sq),k _ _ G H rfl (.refl hs) (by rw[rx.length];exact rep_int.mpr rfl)⟩
 ·obtain⟨v,r,rfl,rx,r0⟩:=rl.inv;rw[r0.inv0];rw[sy]at rx;obtain⟨p,rfl,sq⟩:=rx;exact⟨p,_,rfl,.inl (hs.seq sq),k _ _ G H rfl (.refl hs) (by rw[length_map];exact rep_int.mpr rfl)⟩
 ·exact ok.elim
def qD:List D→Res D
 | [.int i,.int j]=>.ok (.int (min i j))
 |_=>.bad
def GE:List D→Res D
 | [.int i,.int j]=>.ok (.int (max i j))
 |_=>.bad
def EK (i j:Int):(if j<i then j else i)=min i j:=by omega
def Bq {K:Z8}:A_ K E (λxs H Q=>∃i j,xs=[.int i,.int j]∧Q (.int (if j<i then j else i)) H) qD:=by
 intro G H vs ds Q hs rl ok k;unfold qD at ok k;split at ok
 ·obtain⟨v,r,rfl,rx,r0⟩:=rl.inv;obtain⟨v2,r2,rfl,ry,r1⟩:=r0.inv;rw[r1.inv0];rw[rep_int]at rx ry;subst rx ry;refine⟨_,_,rfl,?_⟩;rw[EK];exact k _ _ G H rfl (.refl hs) (rep_int.mpr rfl)
 ·exact ok.elim
def cD:List D→Res D
 | [.lst l]=>.ok (.lst l)
 | [.tup l]=>.ok (.lst l)
 |_=>.bad
def pE:List D→Res D
 | [.lst l]=>.ok (.tup l)
 | [.tup l]=>.ok (.tup l)
 |_=>.bad
def vY {K:Z8}:A_ K E (λxs H Q=>∃p ys,xs=[.ref p]∧(gy K H p ys∨nr K H p ys)∧∀l,H l=none→Q (.ref l) (bc H l (.lst ys))) cD:=by
 intro G H vs ds Q hs rl ok k;unfold cD at ok k;split at ok
 ·obtain⟨v,r,rfl,rx,r0⟩:=rl.inv;rw[r0.inv0];rw[rep_lst]at rx;obtain⟨p,xs,rfl,sq,rx⟩:=rx;exact⟨p,xs,rfl,.inl (hs.seq sq.sq),λl hl=>k _ _ _ _ rfl (.new hs hl _) (rep_lst.mpr ⟨l,xs,rfl,.of au,rx.mono (Ext.new hs hl _).gg⟩)⟩
 ·obtain⟨v,r,rfl,rx,r0⟩:=rl.inv;rw[r0.inv0];rw[rep_tup]at rx;obtain⟨p,xs,rfl,sq,rx⟩:=rx;exact⟨p,xs,rfl,.inr (hs.seqT sq),λl hl=>k _ _ _ _ rfl (.new hs hl _) (rep_lst.mpr ⟨l,xs,rfl,.of au,rx.mono (Ext.new hs hl _).gg⟩)⟩
 ·exact ok.elim
def yN {K:Z8}:A_ K E (λxs H Q=>∃p ys,xs=[.ref p]∧((gy K H p ys∧∀l,H l=none→Q (.ref l) (bc H l (.tup ys)))∨(nr K H p ys∧Q (.ref p) H))) pE:=by
 intro G H vs ds Q hs rl ok k;unfold pE at ok k;split at ok
 ·obtain⟨v,r,rfl,rx,r0⟩:=rl.inv;rw[r0.inv0];rw[rep_lst]at rx;obtain⟨p,xs,rfl,sq,rx⟩:=rx;exact⟨p,xs,rfl,.inl ⟨hs.seq sq.sq,λl hl=>k _ _ _ _ rfl (.new hs hl _) (rep_tup.mpr ⟨l,xs,rfl,.of au,rx.mono (Ext.new hs hl _).gg⟩)⟩⟩
 ·obtain⟨v,r,rfl,rx,r0⟩:=rl.inv;rw[r0.inv0];have rx':=rx;rw[rep_tup]at rx;obtain⟨p,xs,rfl,sq,rx⟩:=rx;exact⟨p,xs,rfl,.inr ⟨hs.seqT sq,k _ _ G H rfl (.refl hs) rx'⟩⟩
 ·exact ok.elim
inductive pureSp (K:Z8)(m:List D→Res D)(vs:List V)(H:Hp)(Q:VK)(E:XK):Prop
 |mk (ds:List D) (G:Hp) (s:Same G H) (r:RepL K G ds vs) (o:OkR E H (m ds)) (k:∀d,m ds= .ok d→∀v G' H',Ext G H G' H'→Rep K G' d v→Q v H')
def mM (C:Z2)(m:Yr):D→Bool
 |.ins C' ns _=>C'==C&&!ns.contains m
 |_=>false
def ki (C:Z2)(m:Yr)(fo:DS→Res D)(g:List D→Res D):DS→Res D:=λρ=>(fo ρ).bind λo=>if mM C m o=true then g [o] else .bad
def oQ {fs:List (Str×V)}(h:(fs.map (·.1)).contains m=false):fs.lookup m=none:=by
 induction fs with
 |nil=>rfl
 |cons p r ih=>
  rw[map_cons,List.contains_cons,Bool.or_eq_false_iff]at h;rw[lookup_cons];have:(m==p.1)=false:=h.1;rw[this];exact ih h.2
def zT {pl:Sem Bool}{CX:sO}{k:Nat}{f C:Z2}{fd:Y7}{ps:Zw}{g:List D→Res D}{apos pos:Ys}{fo:DS→Res D}(hoo:PD X E o fo)(c:Cls X.K C)(hm:Meth X.K C m f)(F:FnOk X.prog X.w X.K X.mg X.base CX k f fd ps (pureSp X.K g))(hr:Room k X.A)(hb:Binds X.K fd ps [])(hx:de CX X E)(hpe:PE X (.Call (.Attribute o m apos) [] [] pos) (DE C m (pureSp X.K g) [] E (tD X.K E fo) C5)):PD X E (.Call (.Attribute o m apos) [] [] pos) (ki C m fo g):=by
 intro pins s σ G H ρ I hs hro ho;refine aV (hpe pins s σ H (λv H'=>∃d G',ki C m fo g ρ= .ok d∧Ext G H G' H'∧Rep X.K G' d v) I ?_) λu s' hZ133=>(by obtain⟨v,H',I',r',d,G',e,x,rp⟩:=hZ133;exact⟨d,e,v,G',H',I',r',x,rp⟩);refine⟨G,ρ,hs,hro,ho.fst,λdO e1 v G1 H1 x1 p1=>?_⟩;have kk:=ho.snd e1 x1.hh;by_cases hi:mM C m dO=true
 ·rw[Yo hi]at kk;cases dO with
  |ins C' ns l=>
   have hi':=hi;unfold mM at hi';rw[and_eq_true,beq_iff_eq,Bool.not_eq_true']at hi';obtain⟨rfl,hn⟩:=hi';have p1':=p1;rw[rep_ins]at p1;obtain⟨a,dx,fs,rfl,ha,hns,_⟩:=p1;refine⟨a,dx,fs,rfl,x1.gh _ _ ha,oQ (by rw[hns];exact hn),?_⟩;exact⟨[.ins C' ns l],G1,x1.gh,.cons p1' .nil,kk,λd ed v G' H' xx rp=>⟨d,G',aq e1 (by rw[Yo hi];exact ed),x1.trans xx,rp⟩⟩
  |_=>cases hi
 ·rw[Ym hi]at kk;exact kk.elim
def tK:List Str→List D→Str→Option D
 |n::ns,d::ds,f=>if n=f then some d else tK ns ds f
 |_,_,_=>none
def li (C:Z2)(f:Yr):D→Res D
 |.ins C' ns ds=>if C'=C then (match tK ns ds f with|some d=>.ok d|none=>.bad) else .bad
 |_=>.bad
theorem mV {K:Z8}{G:Hp}{d:D}:∀{fs:List (Str×V)} {ds:List D},RepL K G ds (fs.map (·.2))→tK (fs.map (·.1)) ds f=some d→∃v,fs.lookup f=some v∧Rep K G d v
 | [],ds,_,h=>by cases ds <;> cases h
 |(n,v)::r,[],_,h=>by cases h
 |(n,v)::r,e::ds,hr,h=>by
  obtain⟨v',r',q,a,b⟩:=hr.inv;rw[map_cons]at q;cases q;rw[map_cons]at h;unfold tK at h;rw[lookup_cons];by_cases hn:n=f
  ·subst hn;rw[Yo rfl]at h;cases h;rw[show (n==n)=true by simp];exact⟨v,rfl,a⟩
  ·rw[Ym hn]at h;rw[show (f==n)=false by simpa using Ne.symm hn];exact mV b h
def zR {C:Z2}{fo:DS→Res D}(ho:PD X E o fo)(c:Cls X.K C)(n:NoAttr X.K C f)(hb:attributeBase o f X.env (eval o X.env)=eval o X.env:=by rfl):PD X E (.Attribute o f pos) (λρ=>(fo ρ).bind (li C f)):=by
 intro pins s σ G H ρ I hs hro hok;refine aV (E9 (dM ho) hb pins s σ H (λv H'=>∃d G',((fo ρ).bind (li C f))= .ok d∧Ext G H G' H'∧Rep X.K G' d v) I ?_) λu s' hZ134=>(by obtain⟨v,H',I',r',d,G',e,x,rp⟩:=hZ134;exact⟨d,e,v,G',H',I',r',x,rp⟩);refine⟨G,ρ,hs,hro,hok.fst,λdO e1 v G1 H1 x1 p1=>?_⟩;have kk:=hok.snd e1 x1.hh;cases dO with
 |ins C' ns l=>
  unfold li at kk;dsimp only at kk;by_cases hc:C'=C
  ·subst hc;rw[Yo rfl]at kk;rw[rep_ins]at p1;obtain⟨a,dx,fs,rfl,ha,hns,rl⟩:=p1;subst hns;cases q:tK (fs.map (·.1)) l f with
   |none=>rw[q]at kk;exact kk.elim
   |some d=>
    obtain⟨v,hv,rv⟩:=mV rl q;exact⟨a,C',dx,fs,v,rfl,x1.gh _ _ ha,c,n,hv,d,G1,aq e1 (by unfold li;dsimp only;rw[Yo rfl,q]),x1,rv⟩
  ·rw[Ym hc]at kk;exact kk.elim
 |_=>exact kk.elim
def fV {op op':CmpOp}{pos:Ys}{fa fb fc:DS→Res D}{o o':D→D→Res D}(ho:DOp X E (compareOp op) o)(ho':DOp X E (compareOp op') o')(ha:PD X E a fa)(hb:PD X E b fb)(hc:PD X E c fc)(hm:lastMarks [op,op'] [b,c]=false:=by with_unfolding_all rfl):uI X E (.Compare a [op,op'] [b,c] pos) (iE fa fb fc o o'):=by
 intro p s σ G H ρ I hs hro hok;refine isTrue_chain (aV (ha p s σ G H ρ I hs hro hok.fst) λv s1 ⟨d1,e1,v1,G1,H1,I1,r1,x1,p1⟩=>test_link (aV (hb p s1 σ G1 H1 ρ I1 x1.gh (hro.mono x1.gg) (hok.snd e1 x1.hh).fst) λu s2 hZ136=>?_)) hm;obtain⟨d2,e2,v2,G2,H2,I2,r2,x2,p2⟩:=hZ136;have k2:=(hok.snd e1 x1.hh).snd e2 x2.hh;refine aV (ho p s2 σ G2 H2 v1 v2 d1 d2 v u I2 x2.gh (p1.mono x2.gg) p2 r1 r2 k2.fst) λd s3 hZ137=>?_;obtain⟨d3,e3,v3,G3,H3,I3,r3,x3,p3⟩:=hZ137;have k3:=k2.snd e3 x3.hh;cases d3 with
 |bl k=>
  rw[rep_bl]at p3;subst p3;cases r3;refine wpAny_truthy_bool ?_;cases k with
  |false=>exact ite_ff ⟨aq e1 (aq e2 (aq e3 rfl)),G3,H3,I3,(x1.trans x2).trans x3⟩
  |true=>
   refine ite_tt (test_last (aV (hc p s3 σ G3 H3 ρ I3 x3.gh (hro.mono ((x1.gg.trans x2.gg).trans x3.gg)) k3.fst) λw' s4 hZ138=>?_));obtain⟨d4,e4,v4,G4,H4,I4,r4,x4,p4⟩:=hZ138;have k4:=k3.snd e4 x4.hh;refine aV (ho' p s4 σ G4 H4 v2 v4 d2 d4 u w' I4 x4.gh (p2.mono (x3.gg.trans x4.gg)) p4 r2 r4 k4.fst) λd' s5 hZ139=>?_;obtain⟨d5,e5,v5,G5,H5,I5,r5,x5,p5⟩:=hZ139;have k5:=k4.snd e5 x5.hh;cases d5 with
   |bl k=>
    rw[rep_bl]at p5;subst p5;cases r5;exact wpAny_truthy_bool ⟨aq e1 (aq e2 (aq e3 (aq e4 (aq e5 rfl)))),G5,H5,I5,(((x1.trans x2).trans x3).trans x4).trans x5⟩
   |_=>exact k5.elim
 |_=>exact k3.elim
end
mutual
def cn:D→D→Bool
 |.non,.non=>true
 |.bl a,.bl b=>a==b
 |.int a,.int b=>a==b
 |.bl a,.int b=>(if a then (1:Int) else 0)==b
 |.int a,.bl b=>a==(if b then (1:Int) else 0)
 |.str a,.str b=>a==b
 |.lst a,.lst b=>eqBL a b
 |.tup a,.tup b=>eqBL a b
 |_,_=>false
def eqBL:List D→List D→Bool
 | [],[]=>true
 |a::as,b::bs=>cn a b&&eqBL as bs
 |_,_=>false
end
mutual
def bg:Nat→D→Bool
 |_,.non=>true
 |_,.bl _=>true
 |_,.int _=>true
 |_,.str _=>true
 |n,.lst l=>decide (1≤n)&&plL (n-1) l
 |n,.tup l=>decide (1≤n)&&plL (n-1) l
 |_,.ins _ _ _=>false
 |_,.dct _ _=>false
 |_,.scr _=>false
 |_,.xc _=>false
 |_,.fdc _ _=>false
def plL:Nat→List D→Bool
 |_,[]=>true
 |n,d::ds=>bg n d&&plL n ds
end
theorem wN:∀{n:Nat} {ds:List D} {i:Nat} {d:D},plL n ds=true→ds[i]?=some d→bg n d=true
 |_,[],_,_,_,e=>by simp at e
 |n,a::as,0,_,h,e=>by
  simp at e;subst e;unfold plL at h;rw[and_eq_true]at h;exact h.1
 |n,a::as,i+1,d,h,e=>by
  unfold plL at h;rw[and_eq_true]at h;exact wN (i:=i) h.2 (by simpa using e)
theorem tw:∀{as bs:List D} {n:Nat} {e:Nat→Bool},as.length=bs.length→(∀(i:Nat) (a b:D),as[i]?=some a→bs[i]?=some b→e i=cn a b)→n=as.length→(List.range n).all e=eqBL as bs
 | [],[],_,_,_,_,hn=>by subst hn;unfold eqBL;rfl
 | [],_::_,_,_,h,_,_=>by simp at h
 |_::_,[],_,_,h,_,_=>by simp at h
 |a::as,b::bs,n,e,h,he,hn=>by
  subst hn;unfold eqBL;rw[length_cons,List.range_succ_eq_map,List.all_cons,he 0 a b rfl rfl,all_map];congr 1;exact tw (e:=e ∘ Nat.succ) (by simpa using h) (λi x y hx hy=>he (i+1) x y (by simpa using hx) (by simpa using hy)) rfl
theorem on:∀{as bs:List D},as.length≠bs.length→eqBL as bs=false
 | [],[],h=>absurd rfl h
 | [],_::_,_=>by unfold eqBL;rfl
 |_::_,[],_=>by unfold eqBL;rfl
 |a::as,b::bs,h=>by
  unfold eqBL;rw[on (as:=as) (bs:=bs) (λz=>h (by simp[z])),Bool.and_false]
mutual
theorem tz:∀{n:Nat} {d:D},bg n d=true→cn d d=true
 |_,.non,_=>by unfold cn;rfl
 |_,.bl b,_=>by unfold cn;simp
 |_,.int b,_=>by unfold cn;simp
 |_,.str b,_=>by unfold cn;simp
 |n,.lst l,h=>by
  unfold bg at h;rw[and_eq_true]at h;unfold cn;exact eqBL_refl h.2
 |n,.tup l,h=>by
  unfold bg at h;rw[and_eq_true]at h;unfold cn;exact eqBL_refl h.2
 |_,.ins _ _ _,h=>by unfold bg at h;cases h
theorem eqBL_refl:∀{n:Nat} {ds:List D},plL n ds=true→eqBL ds ds=true
 |_,[],_=>by unfold eqBL;rfl
 |n,d::ds,h=>by
  unfold plL at h;rw[and_eq_true]at h;unfold eqBL;rw[tz h.1,eqBL_refl h.2];rfl
end
section
variable{X:Cx}{E:XK}{pins:Z9}{σ:St}{G H:Hp}{s:Shared}
def Inv.isTup (I:Inv X pins σ H s){a:Z2}{xs:List V}(h:nr X.K H a xs):∃its:List Value,Vals xs its∧s.heap.IsTuple a its.toArray:=by
 obtain⟨its,r,p,_⟩:=I.tuple h;exact⟨its,r,p⟩
def Inv.isLst (I:Inv X pins σ H s){a:Z2}{xs:List V}(h:gy X.K H a xs):∃its:List Value,Vals xs its∧s.heap.IsList a its.toArray:=by
 obtain⟨its,r,p,_⟩:=I.list h;exact⟨its,r,p.isList⟩
mutual
theorem Rep.inj (I:Inv X pins σ H s)(hs:Same G H):∀{n m:Nat} {d e:D} {x:V},bg n d=true→bg m e=true→Rep X.K G d x→Rep X.K G e x→d=e
 |_,_,.non,e,x,_,he,hx,hy=>by
  rw[rep_non]at hx;subst hx;cases e with
  |non=>rfl
  |bl b=>rw[rep_bl]at hy;cases hy
  |int b=>rw[rep_int]at hy;cases hy
  |str b=>rw[rep_str]at hy;cases hy
  |lst b=>rw[rep_lst]at hy;obtain⟨_,_,q,_⟩:=hy;cases q
  |tup b=>rw[rep_tup]at hy;obtain⟨_,_,q,_⟩:=hy;cases q
  |ins _ _ _=>unfold bg at he;cases he
  |dct _ _=>unfold bg at he;cases he
  |scr _=>unfold bg at he;cases he
  |xc _=>unfold bg at he;cases he
  |fdc _ _=>unfold bg at he;cases he
 |_,_,.bl c,e,x,_,he,hx,hy=>by
  rw[rep_bl]at hx;subst hx;cases e with
  |non=>rw[rep_non]at hy;cases hy
  |bl b=>rw[rep_bl]at hy;cases hy;rfl
  |int b=>rw[rep_int]at hy;cases hy
  |str b=>rw[rep_str]at hy;cases hy
  |lst b=>rw[rep_lst]at hy;obtain⟨_,_,q,_⟩:=hy;cases q
  |tup b=>rw[rep_tup]at hy;obtain⟨_,_,q,_⟩:=hy;cases q
  |ins _ _ _=>unfold bg at he;cases he
  |dct _ _=>unfold bg at he;cases he
  |scr _=>unfold bg at he;cases he
  |xc _=>unfold bg at he;cases he
  |fdc _ _=>unfold bg at he;cases he
 |_,_,.int c,e,x,_,he,hx,hy=>by
  rw[rep_int]at hx;subst hx;cases e with
  |non=>rw[rep_non]at hy;cases hy
  |bl b=>rw[rep_bl]at hy;cases hy
  |int b=>rw[rep_int]at hy;cases hy;rfl
  |str b=>rw[rep_str]at hy;cases hy
  |lst b=>rw[rep_lst]at hy;obtain⟨_,_,q,_⟩:=hy;cases q
  |tup b=>rw[rep_tup]at hy;obtain⟨_,_,q,_⟩:=hy;cases q
  |ins _ _ _=>unfold bg at he;cases he
  |dct _ _=>unfold bg at he;cases he
  |scr _=>unfold bg at he;cases he
  |xc _=>unfold bg at he;cases he
  |fdc _ _=>unfold bg at he;cases he
 |_,_,.str c,e,x,_,he,hx,hy=>by
  rw[rep_str]at hx;subst hx;cases e with
  |non=>rw[rep_non]at hy;cases hy
  |bl b=>rw[rep_bl]at hy;cases hy
  |int b=>rw[rep_int]at hy;cases hy
  |str b=>rw[rep_str]at hy;cases hy;rfl
  |lst b=>rw[rep_lst]at hy;obtain⟨_,_,q,_⟩:=hy;cases q
  |tup b=>rw[rep_tup]at hy;obtain⟨_,_,q,_⟩:=hy;cases q
  |ins _ _ _=>unfold bg at he;cases he
  |dct _ _=>unfold bg at he;cases he
  |scr _=>unfold bg at he;cases he
  |xc _=>unfold bg at he;cases he
  |fdc _ _=>unfold bg at he;cases he
 |n,m,.lst c,e,x,hd,he,hx,hy=>by
  rw[rep_lst]at hx;obtain⟨a,xs,rfl,sq,rl⟩:=hx;unfold bg at hd;rw[and_eq_true]at hd;cases e with
  |non=>rw[rep_non]at hy;cases hy
  |bl b=>rw[rep_bl]at hy;cases hy
  |int b=>rw[rep_int]at hy;cases hy
  |str b=>rw[rep_str]at hy;cases hy
  |lst b=>
   rw[rep_lst]at hy;obtain⟨a',ys,q,t,r⟩:=hy;cases q;rw[I.list_inj (hs.seq t.sq) (hs.seq sq.sq)]at r;unfold bg at he;rw[and_eq_true]at he;rw[RepL.inj I hs hd.2 he.2 rl r]
  |tup b=>
   rw[rep_tup]at hy;obtain⟨a',ys,q,t,r⟩:=hy;cases q;obtain⟨_,_,p1⟩:=I.isLst (hs.seq sq.sq);obtain⟨_,_,p2⟩:=I.isTup (hs.seqT t.sq);exact absurd rfl (SeqAt.ne_of_list_tuple p1 p2)
  |ins _ _ _=>unfold bg at he;cases he
  |dct _ _=>unfold bg at he;cases he
  |scr _=>unfold bg at he;cases he
  |xc _=>unfold bg at he;cases he
  |fdc _ _=>unfold bg at he;cases he
 |n,m,.tup c,e,x,hd,he,hx,hy=>by
  rw[rep_tup]at hx;obtain⟨a,xs,rfl,sq,rl⟩:=hx;unfold bg at hd;rw[and_eq_true]at hd;cases e with
  |non=>rw[rep_non]at hy;cases hy
  |bl b=>rw[rep_bl]at hy;cases hy
  |int b=>rw[rep_int]at hy;cases hy
  |str b=>rw[rep_str]at hy;cases hy
  |tup b=>
   rw[rep_tup]at hy;obtain⟨a',ys,q,t,r⟩:=hy;cases q;rw[I.tuple_inj (hs.seqT t.sq) (hs.seqT sq.sq)]at r;unfold bg at he;rw[and_eq_true]at he;rw[RepL.inj I hs hd.2 he.2 rl r]
  |lst b=>
   rw[rep_lst]at hy;obtain⟨a',ys,q,t,r⟩:=hy;cases q;obtain⟨_,_,p1⟩:=I.isLst (hs.seq t.sq);obtain⟨_,_,p2⟩:=I.isTup (hs.seqT sq.sq);exact absurd rfl (SeqAt.ne_of_list_tuple p1 p2)
  |ins _ _ _=>unfold bg at he;cases he
  |dct _ _=>unfold bg at he;cases he
  |scr _=>unfold bg at he;cases he
  |xc _=>unfold bg at he;cases he
  |fdc _ _=>unfold bg at he;cases he
 |_,_,.ins _ _ _,_,_,hd,_,_,_=>by unfold bg at hd;cases hd
theorem RepL.inj (I:Inv X pins σ H s)(hs:Same G H):∀{n m:Nat} {ds es:List D} {xs:List V},plL n ds=true→plL m es=true→RepL X.K G ds xs→RepL X.K G es xs→ds=es
 |_,_,[],es,_,_,_,h,h'=>by
  rw[h.inv0]at h';cases es with
  |nil=>rfl
  |cons e es=>obtain⟨_,_,q,_⟩:=h'.inv;cases q
 |_,_,d::ds,es,_,hd,he,h,h'=>by
  obtain⟨v,r,rfl,a,b⟩:=h.inv;cases es with
  |nil=>have z:=h'.inv0;cases z
  |cons e es=>
   obtain⟨v',r',q,a',b'⟩:=h'.inv;cases q;unfold plL at hd he;rw[and_eq_true]at hd he;rw[Rep.inj I hs hd.1 he.1 a a',RepL.inj I hs hd.2 he.2 b b']
end
end
end L2
namespace L2
open PySem PySem.Spec PyProof.Rows PySem.SeqAt
section
variable{X:Cx}{E:XK}{pins:Z9}{σ:St}{G H:Hp}{s:Shared}
def Hq (A:Zg)(s:Z3)(u v:Zc)(b:Bool):Prop:=EqAt A s u v b∧RcAt A s u v b∧RcNeAt A s u v (!b)
def w_ {xs:List V}{us:Z0}(r:Vals xs us){j:Nat}(h:j<us.toArray.size):∃x,xs[j]?=some x∧RelV x us.toArray[j]:=by
 have hl:=r.length;have h':j<us.length:=by simpa using h
 have hx:j<xs.length:=by omega
 obtain⟨u,hu,ru⟩:=r.get (i:=j) (x:=xs[j]) (by simp[hx]);refine⟨xs[j],by simp[hx],?_⟩;have e:us.toArray[j]=u:=by
  have q:us[j]?=some us[j]:=by simp[h']
  rw[q]at hu;cases hu;simp
 rw[e];exact ru
def k_ {n:Nat}{ds es:List D}{xs ys:List V}{us vs:Z0}{A:Zg}(rd:RepL X.K G ds xs)(re:RepL X.K G es ys)(ru:Vals xs us)(rv:Vals ys vs)(ih:∀(d e:D) (x y:V) (u v:Value),d∈ds→e∈es→Rep X.K G d x→Rep X.K G e y→RelV x u→RelV y v→EqAt A s u v (cn d e)) :
  ∀j (h1:j<us.toArray.size) (h2:j<vs.toArray.size),EqAt A s us.toArray[j] vs.toArray[j] (cn (ds.getD j .non) (es.getD j .non)):=by
 intro j h1 h2;obtain⟨x,hx,rx⟩:=w_ ru h1;obtain⟨y,hy,ry⟩:=w_ rv h2;have l1:=rd.length;have l2:=re.length;have jx:j<ds.length:=by rw[l1];exact(fR hx).1
 have jy:j<es.length:=by rw[l2];exact(fR hy).1
 have e1:ds[j]?=some ds[j]:=by simp[jx]
 have e2:es[j]?=some es[j]:=by simp[jy]
 obtain⟨x',hx',px⟩:=rd.get e1;obtain⟨y',hy',py⟩:=re.get e2;rw[hx]at hx';cases hx';rw[hy]at hy';cases hy';have g1:ds.getD j .non=ds[j]:=by simp[List.getD,e1]
 have g2:es.getD j .non=es[j]:=by simp[List.getD,e2]
 rw[g1,g2];exact ih _ _ x y _ _ (getElem_mem jx) (getElem_mem jy) px py rx ry
def wm {ds:List D}{i:Nat}{d:D}(h:ds[i]?=some d):ds.getD i .non=d:=by simp[List.getD,h]
def oo {ds es:List D}{us vs:Z0}{xs ys:List V}(rd:RepL X.K G ds xs)(re:RepL X.K G es ys)(ru:Vals xs us)(rv:Vals ys vs)(hsz:us.toArray.size=vs.toArray.size) :(List.range us.toArray.size).all (λj=>cn (ds.getD j .non) (es.getD j .non))=eqBL ds es:=by
 have l1:=rd.length;have l2:=re.length;have l3:=ru.length;have l4:=rv.length;have h1:us.length=vs.length:=by simpa using hsz
 refine tw (by omega) (λi a b ha hb=>?_) (by simp;omega);rw[wm ha,wm hb]
def Ht (K:Z8)(G:Hp)(s:Z3):D→Value→Prop
 |.non,u=>u= .none
 |.bl b,u=>u= .bool b
 |.int i,u=>∃t,u= .int i t
 |.str x,u=>∃t,u= .str x t
 |.lst ds,u=>∃a its xs,u= .ref a∧s.heap.IsList a its.toArray∧RepL K G ds xs∧Vals xs its
 |.tup ds,u=>∃a its xs,u= .ref a∧s.heap.IsTuple a its.toArray∧RepL K G ds xs∧Vals xs its
 |.ins _ _ _,_=>True
 |.dct _ _,_=>True
 |.scr _,_=>True
 |.xc _,_=>True
 |.fdc _ _,_=>True
def ls (I:Inv X pins σ H s)(hs:Same G H){d:D}{x:V}{u:Zc}(rx:Rep X.K G d x)(ru:RelV x u):Ht X.K G s d u:=by
 cases d with
 |non=>rw[rep_non]at rx;subst rx;exact ru
 |bl b=>rw[rep_bl]at rx;subst rx;exact ru
 |int i=>rw[rep_int]at rx;subst rx;exact ru
 |str i=>rw[rep_str]at rx;subst rx;exact ru
 |lst l=>
  rw[rep_lst]at rx;obtain⟨a,xs,rfl,sq,rl⟩:=rx;obtain⟨its,r,p⟩:=I.isLst (hs.seq sq.sq);exact⟨a,its,xs,ru,p,rl,r⟩
 |tup l=>
  rw[rep_tup]at rx;obtain⟨a,xs,rfl,sq,rl⟩:=rx;obtain⟨its,r,p⟩:=I.isTup (hs.seqT sq.sq);exact⟨a,its,xs,ru,p,rl,r⟩
 |ins _ _ _=>trivial
 |dct _ _=>trivial
 |scr _=>trivial
 |xc _=>trivial
 |fdc _ _=>trivial
def xu {n m:Nat}{ds es:List D}{xs ys:List V}{us vs:Z0}{A:Zg}(hu:A.units<cLine)(ha:s.heap.IsList a us.toArray)(hb:s.heap.IsList b vs.toArray)(rd:RepL X.K G ds xs)(re:RepL X.K G es ys)(ru:Vals xs us)(rv:Vals ys vs)(same:a=b→eqBL ds es=true)(ih:∀(d e:D) (x y:V) (u v:Value),d∈ds→e∈es→Rep X.K G d x→Rep X.K G e y→RelV x u→RelV y v→EqAt A.in1 s u v (cn d e)):Hq A s (.ref a) (.ref b) (eqBL ds es):=by
 have l1:=rd.length;have l2:=re.length;have l3:=ru.length;have l4:=rv.length;have rc:RcAt A s (.ref a) (.ref b) (eqBL ds es)∧RcNeAt A s (.ref a) (.ref b) (!eqBL ds es):=by
  by_cases t:us.toArray.size=vs.toArray.size
  ·have e1:=oo rd re ru rv t;rw[←e1];exact⟨RcAt.lists ha hb t hu (k_ (n:=n) rd re ru rv ih),RcNeAt.lists ha hb t hu (k_ (n:=n) rd re ru rv ih)⟩
  ·have e1:eqBL ds es=false:=on λz=>t (by simp;omega);rw[e1];have hne:(us.toArray.size != vs.toArray.size)=true:=by simpa using t
   exact⟨RcAt.lists_lengths ha hb hne hu,RcNeAt.lists_lengths ha hb hne hu⟩
 refine⟨?_,rc.1,rc.2⟩;by_cases hab:a=b
 ·subst hab;rw[same rfl];exact EqAt.same _
 ·exact EqAt.of_refs hab rc.1
def uU {n m:Nat}{ds es:List D}{xs ys:List V}{us vs:Z0}{A:Zg}(hu:A.units<cLine)(ha:s.heap.IsTuple a us.toArray)(hb:s.heap.IsTuple b vs.toArray)(rd:RepL X.K G ds xs)(re:RepL X.K G es ys)(ru:Vals xs us)(rv:Vals ys vs)(same:a=b→eqBL ds es=true)(ih:∀(d e:D) (x y:V) (u v:Value),d∈ds→e∈es→Rep X.K G d x→Rep X.K G e y→RelV x u→RelV y v→EqAt A.in1 s u v (cn d e)):Hq A s (.ref a) (.ref b) (eqBL ds es):=by
 have l1:=rd.length;have l2:=re.length;have l3:=ru.length;have l4:=rv.length;have val:((List.range (min us.toArray.size vs.toArray.size)).all (λj=>cn (ds.getD j .non) (es.getD j .non))&&us.toArray.size==vs.toArray.size)=eqBL ds es:=by
  by_cases t:us.toArray.size=vs.toArray.size
  ·have e1:=oo rd re ru rv t;rw[←t,Nat.min_self,e1];simp
  ·have e1:eqBL ds es=false:=on λz=>t (by simp;omega);have e2:(us.toArray.size==vs.toArray.size)=false:=by simpa using t
   rw[e1,e2,Bool.and_false]
 have rc:RcAt A s (.ref a) (.ref b) (eqBL ds es)∧RcNeAt A s (.ref a) (.ref b) (!eqBL ds es):=by
  rw[←val];exact⟨RcAt.tuples ha hb hu (k_ (n:=n) rd re ru rv ih),RcNeAt.tuples ha hb hu (k_ (n:=n) rd re ru rv ih)⟩
 refine⟨?_,rc.1,rc.2⟩;by_cases hab:a=b
 ·subst hab;rw[same rfl];exact EqAt.same _
 ·exact EqAt.of_refs hab rc.1
def dN {n:Nat}{ds:List D}{d:D}(h:plL n ds=true)(hd:d∈ds):bg n d=true:=by
 obtain⟨i,hi⟩:=List.getElem?_of_mem hd;exact wN h hi
def om (I:Inv X pins σ H s)(hs:Same G H):∀(n m:Nat) (d e:D) (x y:V) (u v:Zc) (A:Around),bg n d=true→bg m e=true→Rep X.K G d x→Rep X.K G e y→RelV x u→RelV y v→A.units+n<cLine→Hq A s u v (cn d e):=by
 intro n
 induction n with
 |zero=>
  intro m d e x y u v A F B rx L R P hu;have kd:=ls I hs rx R;have C:=ls I hs L P;have w:A.units<cLine:=by omega
  cases d with
  |lst l=>unfold bg at F;simp at F
  |tup l=>unfold bg at F;simp at F
  |ins _ _ _=>unfold bg at F;cases F
  |dct _ _=>unfold bg at F;cases F
  |scr _=>unfold bg at F;cases F
  |xc _=>unfold bg at F;cases F
  |fdc _ _=>unfold bg at F;cases F
  |non=>
   cases (show u= .none from kd);cases e with
   |non=>cases (show v= .none from C);unfold cn;exact⟨EqAt.same _,RcAt.none_none,RcNeAt.none_none⟩
   |bl b=>cases (show v= .bool b from C);unfold cn;exact⟨EqAt.none_bool _,RcAt.none_bool _,RcNeAt.none_bool _⟩
   |int b=>obtain⟨t,rfl⟩:=C;unfold cn;exact⟨EqAt.none_int _ _,RcAt.none_int _ _,RcNeAt.none_int _ _⟩
   |str b=>obtain⟨t,rfl⟩:=C;unfold cn;exact⟨EqAt.none_str _ _,RcAt.none_str _ _,RcNeAt.none_str _ _⟩
   |lst b=>obtain⟨a,J,Q,rfl,p,_⟩:=C;unfold cn;exact⟨EqAt.none_list p w,RcAt.none_list p w,RcNeAt.none_list p w⟩
   |tup b=>obtain⟨a,J,Q,rfl,p,_⟩:=C;unfold cn;exact⟨EqAt.none_tuple p w,RcAt.none_tuple p w,RcNeAt.none_tuple p w⟩
   |ins _ _ _=>unfold bg at B;cases B
   |dct _ _=>unfold bg at B;cases B
   |scr _=>unfold bg at B;cases B
   |xc _=>unfold bg at B;cases B
   |fdc _ _=>unfold bg at B;cases B
  |bl c=>
   cases (show u= .bool c from kd);cases e with
   |non=>cases (show v= .none from C);unfold cn;exact⟨EqAt.bool_none _,RcAt.bool_none _,RcNeAt.bool_none _⟩
   |bl b=>cases (show v= .bool b from C);unfold cn;exact⟨EqAt.bool_bool _ _,RcAt.bool_bool _ _,RcNeAt.bool_bool _ _⟩
   |int b=>obtain⟨t,rfl⟩:=C;unfold cn;exact⟨EqAt.bool_int _ _ _,RcAt.bool_int _ _ _,RcNeAt.bool_int _ _ _⟩
   |str b=>obtain⟨t,rfl⟩:=C;unfold cn;exact⟨EqAt.bool_str _ _ _,RcAt.bool_str _ _ _,RcNeAt.bool_str _ _ _⟩
   |lst b=>obtain⟨a,J,Q,rfl,p,_⟩:=C;unfold cn;exact⟨EqAt.bool_list _ p w,RcAt.bool_list _ p w,RcNeAt.bool_list _ p w⟩
   |tup b=>obtain⟨a,J,Q,rfl,p,_⟩:=C;unfold cn;exact⟨EqAt.bool_tuple _ p w,RcAt.bool_tuple _ p w,RcNeAt.bool_tuple _ p w⟩
   |ins _ _ _=>unfold bg at B;cases B
   |dct _ _=>unfold bg at B;cases B
   |scr _=>unfold bg at B;cases B
   |xc _=>unfold bg at B;cases B
   |fdc _ _=>unfold bg at B;cases B
  |int c=>
   obtain⟨t0,rfl⟩:=kd;cases e with
   |non=>cases (show v= .none from C);unfold cn;exact⟨EqAt.int_none _ _,RcAt.int_none _ _,RcNeAt.int_none _ _⟩
   |bl b=>cases (show v= .bool b from C);unfold cn;exact⟨EqAt.int_bool _ _ _,RcAt.int_bool _ _ _,RcNeAt.int_bool _ _ _⟩
   |int b=>obtain⟨t,rfl⟩:=C;unfold cn;exact⟨EqAt.int_int _ _ _ _,RcAt.int_int _ _ _ _,RcNeAt.int_int _ _ _ _⟩
   |str b=>obtain⟨t,rfl⟩:=C;unfold cn;exact⟨EqAt.int_str _ _ _ _,RcAt.int_str _ _ _ _,RcNeAt.int_str _ _ _ _⟩
   |lst b=>obtain⟨a,J,Q,rfl,p,_⟩:=C;unfold cn;exact⟨EqAt.int_list _ _ p w,RcAt.int_list _ _ p w,RcNeAt.int_list _ _ p w⟩
   |tup b=>obtain⟨a,J,Q,rfl,p,_⟩:=C;unfold cn;exact⟨EqAt.int_tuple _ _ p w,RcAt.int_tuple _ _ p w,RcNeAt.int_tuple _ _ p w⟩
   |ins _ _ _=>unfold bg at B;cases B
   |dct _ _=>unfold bg at B;cases B
   |scr _=>unfold bg at B;cases B
   |xc _=>unfold bg at B;cases B
   |fdc _ _=>unfold bg at B;cases B
  |str c=>
   obtain⟨t0,rfl⟩:=kd;cases e with
   |non=>cases (show v= .none from C);unfold cn;exact⟨EqAt.str_none _ _,RcAt.str_none _ _,RcNeAt.str_none _ _⟩
   |bl b=>cases (show v= .bool b from C);unfold cn;exact⟨EqAt.str_bool _ _ _,RcAt.str_bool _ _ _,RcNeAt.str_bool _ _ _⟩
   |int b=>obtain⟨t,rfl⟩:=C;unfold cn;exact⟨EqAt.str_int _ _ _ _,RcAt.str_int _ _ _ _,RcNeAt.str_int _ _ _ _⟩
   |str b=>obtain⟨t,rfl⟩:=C;unfold cn;exact⟨EqAt.str_str _ _ _ _,RcAt.str_str _ _ _ _,RcNeAt.str_str _ _ _ _⟩
   |lst b=>obtain⟨a,J,Q,rfl,p,_⟩:=C;unfold cn;exact⟨EqAt.str_list _ _ p w,RcAt.str_list _ _ p w,RcNeAt.str_list _ _ p w⟩
   |tup b=>obtain⟨a,J,Q,rfl,p,_⟩:=C;unfold cn;exact⟨EqAt.str_tuple _ _ p w,RcAt.str_tuple _ _ p w,RcNeAt.str_tuple _ _ p w⟩
   |ins _ _ _=>unfold bg at B;cases B
   |dct _ _=>unfold bg at B;cases B
   |scr _=>unfold bg at B;cases B
   |xc _=>unfold bg at B;cases B
   |fdc _ _=>unfold bg at B;cases B
 |succ n ih=>
  intro m d e x y u v A F B rx L R P hu;have kd:=ls I hs rx R;have C:=ls I hs L P;have w:A.units<cLine:=by omega
  have hu1:A.in1.units+n<cLine:=by show A.units+1+n<cLine;omega
  have O:∀(c:D),bg (n+1) c=true→(match c with|.lst _=>False|.tup _=>False|_=>True)→bg n c=true:=λc h hc=>by cases c <;> first|exact hc.elim|(unfold bg at h ⊢;exact h)
  cases d with
  |lst l=>
   obtain⟨a,us,Q,rfl,E,rl,r1⟩:=kd;have hd':=F;unfold bg at hd';rw[and_eq_true]at hd';cases e with
   |non=>cases (show v= .none from C);unfold cn;exact⟨EqAt.list_none E w,RcAt.list_none E w,RcNeAt.list_none E w⟩
   |bl b=>cases (show v= .bool b from C);unfold cn;exact⟨EqAt.list_bool _ E w,RcAt.list_bool _ E w,RcNeAt.list_bool _ E w⟩
   |int b=>obtain⟨t,rfl⟩:=C;unfold cn;exact⟨EqAt.list_int _ _ E w,RcAt.list_int _ _ E w,RcNeAt.list_int _ _ E w⟩
   |str b=>obtain⟨t,rfl⟩:=C;unfold cn;exact⟨EqAt.list_str _ _ E w,RcAt.list_str _ _ E w,RcNeAt.list_str _ _ E w⟩
   |lst l2=>
    obtain⟨b,vs,ys,rfl,N,M,r2⟩:=C;have he':=B;unfold bg at he';rw[and_eq_true]at he';unfold cn;refine xu (X:=X) (n:=n) (m:=m) w E N rl M r1 r2 (λhab=>?_) λd' e' x' y' u' v' hm1 hm2 q1 q2 q3 q4=>(ih (m-1) d' e' x' y' u' v' A.in1 (dN hd'.2 hm1) (dN he'.2 hm2) q1 q2 q3 q4 hu1).1;subst hab;have ex:x= .ref a:=by rw[rep_lst]at rx;obtain⟨a',_,rfl,_⟩:=rx;cases R;rfl
    have ey:y= .ref a:=by rw[rep_lst]at L;obtain⟨a',_,rfl,_⟩:=L;cases P;rfl
    subst ex ey;have z:=Rep.inj I hs F B rx L;cases z;exact eqBL_refl hd'.2
   |tup l2=>
    obtain⟨b,vs,ys,rfl,N,M,r2⟩:=C;unfold cn;exact⟨EqAt.list_tuple E N w,RcAt.list_tuple E N w,RcNeAt.list_tuple E N w⟩
   |ins _ _ _=>unfold bg at B;cases B
   |dct _ _=>unfold bg at B;cases B
   |scr _=>unfold bg at B;cases B
   |xc _=>unfold bg at B;cases B
   |fdc _ _=>unfold bg at B;cases B
  |tup l=>
   obtain⟨a,us,Q,rfl,E,rl,r1⟩:=kd;have hd':=F;unfold bg at hd';rw[and_eq_true]at hd';cases e with
   |non=>cases (show v= .none from C);unfold cn;exact⟨EqAt.tuple_none E w,RcAt.tuple_none E w,RcNeAt.tuple_none E w⟩
   |bl b=>cases (show v= .bool b from C);unfold cn;exact⟨EqAt.tuple_bool _ E w,RcAt.tuple_bool _ E w,RcNeAt.tuple_bool _ E w⟩
   |int b=>obtain⟨t,rfl⟩:=C;unfold cn;exact⟨EqAt.tuple_int _ _ E w,RcAt.tuple_int _ _ E w,RcNeAt.tuple_int _ _ E w⟩
   |str b=>obtain⟨t,rfl⟩:=C;unfold cn;exact⟨EqAt.tuple_str _ _ E w,RcAt.tuple_str _ _ E w,RcNeAt.tuple_str _ _ E w⟩
   |tup l2=>
    obtain⟨b,vs,ys,rfl,N,M,r2⟩:=C;have he':=B;unfold bg at he';rw[and_eq_true]at he';unfold cn;refine uU (X:=X) (n:=n) (m:=m) w E N rl M r1 r2 (λhab=>?_) λd' e' x' y' u' v' hm1 hm2 q1 q2 q3 q4=>(ih (m-1) d' e' x' y' u' v' A.in1 (dN hd'.2 hm1) (dN he'.2 hm2) q1 q2 q3 q4 hu1).1;subst hab;have ex:x= .ref a:=by rw[rep_tup]at rx;obtain⟨a',_,rfl,_⟩:=rx;cases R;rfl
    have ey:y= .ref a:=by rw[rep_tup]at L;obtain⟨a',_,rfl,_⟩:=L;cases P;rfl
    subst ex ey;have z:=Rep.inj I hs F B rx L;cases z;exact eqBL_refl hd'.2
   |lst l2=>
    obtain⟨b,vs,ys,rfl,N,M,r2⟩:=C;unfold cn;exact⟨EqAt.tuple_list E N w,RcAt.tuple_list E N w,RcNeAt.tuple_list E N w⟩
   |ins _ _ _=>unfold bg at B;cases B
   |dct _ _=>unfold bg at B;cases B
   |scr _=>unfold bg at B;cases B
   |xc _=>unfold bg at B;cases B
   |fdc _ _=>unfold bg at B;cases B
  |ins _ _ _=>unfold bg at F;cases F
  |dct _ _=>unfold bg at F;cases F
  |scr _=>unfold bg at F;cases F
  |xc _=>unfold bg at F;cases F
  |fdc _ _=>unfold bg at F;cases F
  |non=>exact ih m _ e x y u v A (O _ F trivial) B rx L R P (by omega)
  |bl c=>exact ih m _ e x y u v A (O _ F trivial) B rx L R P (by omega)
  |int c=>exact ih m _ e x y u v A (O _ F trivial) B rx L R P (by omega)
  |str c=>exact ih m _ e x y u v A (O _ F trivial) B rx L R P (by omega)
def Bt (d e:D):Res D:=if bg 20 d=true∧bg 20 e=true then .ok (.bl (cn d e)) else .bad
def lX (d e:D):Res D:=if bg 20 d=true∧bg 20 e=true then .ok (.bl (!cn d e)) else .bad
def vZ (hu:X.A.units+64<cLine):DOp X E (compareOp .Eq) Bt:=by
 intro pins s σ G H x y dx dy v u I hs rx ry rv ru ok;unfold Bt at ok ⊢;by_cases h:bg 20 dx=true∧bg 20 dy=true
 ·rw[Yo h];exact(om I hs 20 20 dx dy x y v u X.A h.1 h.2 rx ry rv ru (by omega)).2.1 _ _ _ _ ⟨_,rfl,.bl (cn dx dy),G,H,I,rfl,.refl hs,rep_bl.mpr rfl⟩
 ·rw[Ym h]at ok;exact ok.elim
def gU (hu:X.A.units+64<cLine):DOp X E (compareOp .NotEq) lX:=by
 intro pins s σ G H x y dx dy v u I hs rx ry rv ru ok;unfold lX at ok ⊢;by_cases h:bg 20 dx=true∧bg 20 dy=true
 ·rw[Yo h];exact(om I hs 20 20 dx dy x y v u X.A h.1 h.2 rx ry rv ru (by omega)).2.2 _ _ _ _ ⟨_,rfl,.bl (!cn dx dy),G,H,I,rfl,.refl hs,rep_bl.mpr rfl⟩
 ·rw[Ym h]at ok;exact ok.elim
end
section
variable{X:Cx}{E:XK}{pins:Z9}{σ:St}{G H:Hp}{s:Shared}
open Classical in
noncomputable def yy (K:Z8)(G:Hp)(ds:List D)(dx:D)(u:Zc):Bool:=decide (∃d x,d∈ds∧Rep K G d x∧RelV x u∧cn d dx=true)
def gM (I:Inv X pins σ H s)(hs:Same G H){ds:List D}{dx d:D}{x:V}{u:Zc}(hp:plL 19 ds=true)(hd:d∈ds)(rx:Rep X.K G d x)(ru:RelV x u):yy X.K G ds dx u=cn d dx:=by
 unfold yy;cases e:cn d dx with
 |true=>exact @decide_eq_true _ (Classical.propDecidable _) ⟨d,x,hd,rx,ru,e⟩
 |false=>
  refine @decide_eq_false _ (Classical.propDecidable _) λhZ140=>?_;obtain⟨d',x',hd',rx',ru',e'⟩:=hZ140;have hx:x'=x:=RelV.inj ru' ru;subst hx;rw[Rep.inj I hs (dN hp hd') (dN hp hd) rx' rx,e]at e';cases e'
def iq {ds:List D}{xs:List V}{us:Z0}{f:Value→Bool}{g:D→Bool}:RepL X.K G ds xs→Vals xs us→(∀d x u,d∈ds→Rep X.K G d x→RelV x u→f u=g d)→us.any f=ds.any g:=by
 intro rd
 induction ds generalizing xs us with
 |nil=>intro r _;rw[rd.inv0]at r;cases r;rfl
 |cons d ds ih=>
  intro r h;obtain⟨v,q,rfl,a,b⟩:=rd.inv;cases r with
  |cons r1 r2=>
   rw[any_cons,any_cons,h d v _ mem_cons_self a r1,ih b r2 λd' x' u' hm=>h d' x' u' (dk hm)]
def pG (neg:Bool)(d e:D):Res D:=match e with
 |.lst l=>if plL 19 l=true∧bg 19 d=true then .ok (.bl (if neg then !(l.any λy=>cn y d) else l.any λy=>cn y d)) else .bad
 |.tup l=>if plL 19 l=true∧bg 19 d=true then .ok (.bl (if neg then !(l.any λy=>cn y d) else l.any λy=>cn y d)) else .bad
 |_=>.bad
def lv {ds:List D}{xs:List V}{us:Z0}(rd:RepL X.K G ds xs)(r:Vals xs us)(hu:u∈us):∃d x,d∈ds∧Rep X.K G d x∧RelV x u:=by
 induction ds generalizing xs us with
 |nil=>rw[rd.inv0]at r;cases r;cases hu
 |cons d ds ih=>
  obtain⟨v,q,rfl,a,b⟩:=rd.inv;cases r with
  |cons r1 r2=>
   rcases mem_cons.mp hu with rfl|hu
   ·exact⟨d,v,mem_cons_self,a,r1⟩
   ·obtain⟨d',x',h1,h2,h3⟩:=ih b r2 hu;exact⟨d',x',dk h1,h2,h3⟩
def yP (hu:X.A.units+64<cLine):DOp X E (compareOp .In) (pG false):=by
 intro pins s σ G H x y F dy v u I j rx ry rv ru ok;unfold pG at ok ⊢;cases dy with
 |lst l=>
  dsimp only at ok ⊢;by_cases h:plL 19 l=true∧bg 19 F=true
  ·rw[Yo h];rw[rep_lst]at ry;obtain⟨a,xs,rfl,sq,rl⟩:=ry;cases (show u= .ref a from ru);obtain⟨its,r,p⟩:=I.isLst (j.seq sq.sq);refine in_listAt (yy X.K G l F) p (λw hw=>?_) ?_
   ·obtain⟨d,z,h1,B,J⟩:=lv rl r (by simpa using hw);rw[gM I j h.1 h1 B J];exact(om I j 19 19 d F z x w v X.A.in1 (dN h.1 h1) h.2 B rx J rv (by show X.A.units+1+19<cLine;omega)).1
   ·have e1:its.toArray.any (yy X.K G l F)=l.any λy=>cn y F:=by
     rw[any_toArray];exact iq rl r λd z w hm B J=>gM I j h.1 hm B J
    rw[e1];exact⟨_,rfl,.bl (l.any λy=>cn y F),G,H,I,rfl,.refl j,rep_bl.mpr rfl⟩
  ·rw[Ym h]at ok;exact ok.elim
 |tup l=>
  dsimp only at ok ⊢;by_cases h:plL 19 l=true∧bg 19 F=true
  ·rw[Yo h];rw[rep_tup]at ry;obtain⟨a,xs,rfl,sq,rl⟩:=ry;cases (show u= .ref a from ru);obtain⟨its,r,p⟩:=I.isTup (j.seqT sq.sq);refine in_tupleAt (yy X.K G l F) p (λw hw=>?_) ?_
   ·obtain⟨d,z,h1,B,J⟩:=lv rl r (by simpa using hw);rw[gM I j h.1 h1 B J];exact(om I j 19 19 d F z x w v X.A.in1 (dN h.1 h1) h.2 B rx J rv (by show X.A.units+1+19<cLine;omega)).1
   ·have e1:its.toArray.any (yy X.K G l F)=l.any λy=>cn y F:=by
     rw[any_toArray];exact iq rl r λd z w hm B J=>gM I j h.1 hm B J
    rw[e1];exact⟨_,rfl,.bl (l.any λy=>cn y F),G,H,I,rfl,.refl j,rep_bl.mpr rfl⟩
  ·rw[Ym h]at ok;exact ok.elim
 |_=>exact ok.elim
def tq (hu:X.A.units+64<cLine):DOp X E (compareOp .NotIn) (pG true):=by
 intro pins s σ G H x y F dy v u I j rx ry rv ru ok;unfold pG at ok ⊢;cases dy with
 |lst l=>
  dsimp only at ok ⊢;by_cases h:plL 19 l=true∧bg 19 F=true
  ·rw[Yo h];rw[rep_lst]at ry;obtain⟨a,xs,rfl,sq,rl⟩:=ry;cases (show u= .ref a from ru);obtain⟨its,r,p⟩:=I.isLst (j.seq sq.sq);refine notIn_listAt (yy X.K G l F) p (λw hw=>?_) ?_
   ·obtain⟨d,z,h1,B,J⟩:=lv rl r (by simpa using hw);rw[gM I j h.1 h1 B J];exact(om I j 19 19 d F z x w v X.A.in1 (dN h.1 h1) h.2 B rx J rv (by show X.A.units+1+19<cLine;omega)).1
   ·have e1:its.toArray.any (yy X.K G l F)=l.any λy=>cn y F:=by
     rw[any_toArray];exact iq rl r λd z w hm B J=>gM I j h.1 hm B J
    rw[e1];exact⟨_,rfl,.bl (!(l.any λy=>cn y F)),G,H,I,rfl,.refl j,rep_bl.mpr rfl⟩
  ·rw[Ym h]at ok;exact ok.elim
 |tup l=>
  dsimp only at ok ⊢;by_cases h:plL 19 l=true∧bg 19 F=true
  ·rw[Yo h];rw[rep_tup]at ry;obtain⟨a,xs,rfl,sq,rl⟩:=ry;cases (show u= .ref a from ru);obtain⟨its,r,p⟩:=I.isTup (j.seqT sq.sq);refine notIn_tupleAt (yy X.K G l F) p (λw hw=>?_) ?_
   ·obtain⟨d,z,h1,B,J⟩:=lv rl r (by simpa using hw);rw[gM I j h.1 h1 B J];exact(om I j 19 19 d F z x w v X.A.in1 (dN h.1 h1) h.2 B rx J rv (by show X.A.units+1+19<cLine;omega)).1
   ·have e1:its.toArray.any (yy X.K G l F)=l.any λy=>cn y F:=by
     rw[any_toArray];exact iq rl r λd z w hm B J=>gM I j h.1 hm B J
    rw[e1];exact⟨_,rfl,.bl (!(l.any λy=>cn y F)),G,H,I,rfl,.refl j,rep_bl.mpr rfl⟩
  ·rw[Ym h]at ok;exact ok.elim
 |_=>exact ok.elim
def FD:D→Option Value
 |.non=>some (.type "NoneType")
 |.bl _=>some (.type "bool")
 |.int _=>some (.type "int")
 |.str _=>some (.type "str")
 |.lst _=>some (.type "list")
 |.tup _=>some (.type "tuple")
 |.ins _ _ _=>none
 |.dct _ _=>none
 |.scr _=>none
 |.xc C=>some (.ref C)
 |.fdc _ _=>none
def eO (K:Z8)(c:Zc)(d:D):Res D:=match FD d with
 |some t=>match W.kitOne K t c with|some b=>.ok (.bl b)|none=>.bad
 |none=>.bad
def zt {A:Zg}{d:D}{x:V}{b:Bool}{Q:Z6}{E':Z6}(I:Inv X pins σ H s)(hs:Same G H)(rx:Rep X.K G d x)(ru:RelV x u)(ht:FD d=some t)(e:W.kitOne X.K t c=some b)(h:∀tk,Q (.bool b) {s with toks:=tk}) :
  wpAny (model X.prog X.w) A (call (.builtin "isinstance") [u,c]) Q E' s:=by
 have kv:=ls I hs rx ru;cases d with
 |non=>cases ht;cases (show u= .none from kv);exact W.kia_one W.kitx_none I.kIn True.intro e (λz=>nomatch z) h
 |bl y=>cases ht;cases (show u= .bool y from kv);exact W.kia_one W.kitx_bool I.kIn True.intro e (λz=>nomatch z) h
 |int i=>cases ht;obtain⟨t,rfl⟩:=kv;exact W.kia_one W.kitx_int I.kIn True.intro e (λz=>nomatch z) h
 |str i=>cases ht;obtain⟨t,rfl⟩:=kv;exact W.kia_one W.kitx_str I.kIn True.intro e (λz=>nomatch z) h
 |lst l=>
  cases ht;obtain⟨a,its,xs,rfl,⟨o,h1,h2,_⟩,_⟩:=kv;exact W.kia_one W.kitx_list I.kIn ⟨o,h1,h2⟩ e (λz=>nomatch z) h
 |tup l=>
  cases ht;obtain⟨a,its,xs,rfl,⟨o,h1,h2,_⟩,_⟩:=kv;exact W.kia_one W.kitx_tuple I.kIn ⟨o,h1,h2⟩ e (λz=>nomatch z) h
 |ins _ _ _=>cases ht
 |dct _ _=>cases ht
 |scr _=>cases ht
 |fdc _ _=>cases ht
 |xc C=>
  cases ht;rw[rep_xc]at rx;obtain⟨a,rfl,ha,kk⟩:=rx;cases (show u=Value.ref a from ru);obtain⟨p,_,_⟩:=(show ObjOk X.prog X.w H s.heap a (m5 a (.ref C)) from I.hok a _ (hs a _ ha));exact W.kia_one (zy kk) I.kIn p e (λz=>nomatch z) h
def E2 {p pos:Ys}{fa:DS→Res D}{vc:V}(ha:PD X E a fa)(hcl:PE X c (tC vc))(hvc:cV vc≠ .none)(hg:Gl X "isinstance")(hm:X.mg "isinstance" =none)(hs1:starEach [a,c] X.env=(false,eval a X.env)::starEach [c] X.env:=by rfl) (hs2:starEach [c] X.env=(false,eval c X.env)::starEach [] X.env:=by rfl) (hpl:(backTo pos (starEach [c] X.env)).any (·.1)=false:=by rfl) :
  PD X E (.Call (.Name "isinstance" p) [a,c] [] pos) (λρ=>(fa ρ).bind (eO X.K (cV vc))):=by
 intro pins s σ G H ρ I hs hro ho;have hp:PA X [a,c] (w9 (tD X.K E fa) (w9 (tC vc) C5)):=bQ (dM ha) (bQ hcl df hs2) hs1;refine wpAny_Call_Name_kw (iK I hg hm PyProof.Rows.boot_isinstance ?_ (by decide) (by decide));refine PyProof.Rows.callWith_builtin1 (aV (hp pos pins s σ H (λvs H'=>∃d x G',fa ρ= .ok d∧vs=[x,vc]∧Ext G H G' H'∧Rep X.K G' d x) I ?_) λus s1 hZ141=>?_) hs1 hpl
 ·exact⟨G,ρ,hs,hro,ho.fst,λd e v G1 H1 x1 rp=>⟨d,v,G1,e,rfl,x1,rp⟩⟩
 ·obtain⟨vs,H1,I1,r1,d,x,G1,e1,e2,x1,rp⟩:=hZ141;subst e2;obtain⟨u1,u2,rfl,q1,q2⟩:=AZ r1;rw[DU q2 hvc];have k:=ho.snd e1 x1.hh;unfold eO at k;cases ht:FD d with
  |none=>rw[ht]at k;exact k.elim
  |some t=>
   rw[ht]at k;dsimp only at k;cases hk:W.kitOne X.K t (cV vc) with
   |none=>rw[hk]at k;exact k.elim
   |some b=>exact zt I1 x1.gh rp q1 ht hk λtk=>⟨.bl b,aq e1 (by unfold eO;rw[ht];dsimp only;rw[hk]),.bl b,G1,H1,I1.tok tk,rfl,x1,rep_bl.mpr rfl⟩
end
end L2
namespace L2
open PySem PySem.Spec PyProof.Rows
def A5 (K:Z8)(J:It)(ds:List D)(G:Hp):Prop:=∀(G2 H2:Hp),Same G G2→Same G2 H2→∀(i:Nat),
 (∀d,ds[i]?=some d→J.go i H2∧∀x H',J.yld i H2 x H'→∃G',Ext G2 H2 G' H'∧Rep K G' d x)∧(ds.length≤i→J.stop i H2)
inductive tDI (K:Z8)(E:XK)(fi:DS→Res (List D))(σ:St)(H:Hp)(R:It→Hp→Prop):Prop
 |mk (G:Hp) (ρ:DS) (s:Same G H) (r:Ro K G σ ρ) (o:OkR E H (fi ρ)) (k:∀ds,fi ρ= .ok ds→∀J G' H',Ext G H G' H'→A5 K J ds G'→R J H')
section
variable{X:Cx}{E:XK}{tg:Expr}
def AK:D→Res (List D)
 |.lst l=>.ok l
 |_=>.bad
def FC:D→Res (List D)
 |.tup l=>.ok l
 |_=>.bad
def ux {K:Z8}{G:Hp}{xs:List V}{ds:List D}(sq:gy K G a xs)(rl:RepL K G ds xs):A5 K (Da K a) ds G:=by
 intro G2 H2 g1 g2 i;have sq2:gy K H2 a xs:=g2.seq (g1.seq sq);refine⟨λd hd=>?_,λhl=>⟨xs,sq2,by rw[←rl.length];exact hl⟩⟩;obtain⟨v,hv,rv⟩:=rl.get hd;refine⟨⟨xs,v,sq2,hv⟩,λy H' hZ142=>?_⟩;obtain⟨e,h⟩:=hZ142;subst e;have q:=h xs sq2;rw[hv]at q;cases q;exact⟨G2,.refl g2,rv.mono g1⟩
def C1 {K:Z8}{G:Hp}{xs:List V}{ds:List D}(sq:nr K G a xs)(rl:RepL K G ds xs):A5 K (Hi K a) ds G:=by
 intro G2 H2 g1 g2 i;have sq2:nr K H2 a xs:=g2.seqT (g1.seqT sq);refine⟨λd hd=>?_,λhl=>⟨xs,sq2,by rw[←rl.length];exact hl⟩⟩;obtain⟨v,hv,rv⟩:=rl.get hd;refine⟨⟨xs,v,sq2,hv⟩,λy H' hZ143=>?_⟩;obtain⟨e,h⟩:=hZ143;subst e;have q:=h xs sq2;rw[hv]at q;cases q;exact⟨G2,.refl g2,rv.mono g1⟩
def pi (lo:Int)(n:Nat):List D:=(List.range n).map λ(i:Nat)=>D.int (lo+(i:Int))
def mG {K:Z8}{G:Hp}(lo:Int)(n:Nat):A5 K (FR lo n) (pi lo n) G:=by
 intro G2 H2 g1 g2 i;refine⟨λd hd=>?_,λhl=>(show n≤i by simpa [pi] using hl)⟩;unfold pi at hd;rw[getElem?_map]at hd;cases e:(List.range n)[i]? with
 |none=>rw[e]at hd;cases hd
 |some j=>
  rw[e]at hd;obtain⟨hj,rfl⟩:=fR e;cases hd;have hi:i<n:=by simpa using hj
  refine⟨hi,λy H' hZ144=>?_⟩;obtain⟨e1,e2⟩:=hZ144;subst e1 e2;refine⟨G2,.refl g2,rep_int.mpr ?_⟩;rw[List.getElem_range]
def bv {f:DS→Res D}(h:PD X E e f):PI X tg e (tDI X.K E (λρ=>(f ρ).bind AK)):=by
 intro pins s σ H R I hZ8;obtain⟨G,ρ,hs,hro,ho,k⟩:=hZ8;refine sm (dM h) pins s σ H R I ⟨G,ρ,hs,hro,ho.fst,λd e v G1 H1 x1 p1=>?_⟩;have kk:=ho.snd e x1.hh;cases d with
 |lst l=>
  rw[rep_lst]at p1;obtain⟨a,xs,rfl,sq,rl⟩:=p1;exact⟨a,rfl,⟨xs,x1.gh.seq sq.sq⟩,k l (aq e rfl) (Da X.K a) G1 H1 x1 (ux sq.sq rl)⟩
 |_=>exact kk.elim
def Ct {f:DS→Res D}(h:PD X E e f):PI X tg e (tDI X.K E (λρ=>(f ρ).bind FC)):=by
 intro pins s σ H R I hZ9;obtain⟨G,ρ,hs,hro,ho,k⟩:=hZ9;refine Ff (dM h) pins s σ H R I ⟨G,ρ,hs,hro,ho.fst,λd e v G1 H1 x1 p1=>?_⟩;have kk:=ho.snd e x1.hh;cases d with
 |tup l=>
  rw[rep_tup]at p1;obtain⟨a,xs,rfl,sq,rl⟩:=p1;exact⟨a,rfl,⟨xs,x1.gh.seqT sq⟩,k l (aq e rfl) (Hi X.K a) G1 H1 x1 (C1 sq rl)⟩
 |_=>exact kk.elim
def dh (i:Int):Bool:=decide (-(2 ^ 62)≤i)&&decide (i<2 ^ 62)
def lF:List D→Res (List D)
 | [.int j]=>if dh j=true then .ok (pi 0 j.toNat) else .bad
 |_=>.bad
def Ay:List D→Res (List D)
 | [.int i,.int j]=>if (dh i&&dh j)=true then .ok (pi i (j-i).toNat) else .bad
 |_=>.bad
def cO {fs:DS→Res (List D)}(hg:Gl X "range")(hm:X.mg "range" =none)(ha:lU X E [a] fs)(hs:starEach [a] X.env=[(false,eval a X.env)]:=by rfl):PI X tg (.Call (.Name "range" p) [a] [] pos) (tDI X.K E (λρ=>(fs ρ).bind lF)):=by
 intro pins s σ H R I hZ10;obtain⟨G,ρ,hsm,hro,ho,k⟩:=hZ10;refine qG hg hm (jd ha) hs pins s σ H R I ⟨G,ρ,hsm,hro,ho.fst,λds e vs G1 H1 x1 p1=>?_⟩;have kk:=ho.snd e x1.hh;unfold lF at kk;split at kk
 ·rename_i j;obtain⟨v,r,rfl,rv,r0⟩:=p1.inv;rw[r0.inv0];rw[rep_int]at rv;subst rv;by_cases hj:dh j=true
  ·have hj':=hj;unfold dh at hj';rw[and_eq_true]at hj';exact⟨j,rfl,Zm hj'.1,Zm hj'.2,k _ (aq e (Yo hj)) _ G1 H1 x1 (mG 0 j.toNat)⟩
  ·rw[Ym hj]at kk;exact kk.elim
 ·exact kk.elim
def oX {fs:DS→Res (List D)}(hg:Gl X "range")(hm:X.mg "range" =none)(ha:lU X E [a,b] fs)(hs:starEach [a,b] X.env=[(false,eval a X.env),(false,eval b X.env)]:=by rfl)(hs2:starEach [b] X.env=[(false,eval b X.env)]:=by rfl):PI X tg (.Call (.Name "range" p) [a,b] [] pos) (tDI X.K E (λρ=>(fs ρ).bind Ay)):=by
 intro pins s σ H R I hZ11;obtain⟨G,ρ,hsm,hro,ho,k⟩:=hZ11;refine ya hg hm (jd ha) hs hs2 pins s σ H R I ⟨G,ρ,hsm,hro,ho.fst,λds e vs G1 H1 x1 p1=>?_⟩;have kk:=ho.snd e x1.hh;unfold Ay at kk;split at kk
 ·rename_i i j;obtain⟨v,r,rfl,rv,r0⟩:=p1.inv;obtain⟨v2,r2,rfl,rv2,r02⟩:=r0.inv;rw[r02.inv0];rw[rep_int]at rv rv2;subst rv rv2;by_cases hj:(dh i&&dh j)=true
  ·have hj':=hj;unfold dh at hj';rw[and_eq_true,and_eq_true,and_eq_true]at hj';exact⟨i,j,rfl,⟨Zm hj'.1.1,Zm hj'.1.2,Zm hj'.2.1,Zm hj'.2.2⟩,k _ (aq e (Yo hj)) _ G1 H1 x1 (mG i (j-i).toNat)⟩
  ·rw[Ym hj]at kk;exact kk.elim
 ·exact kk.elim
def bS (t:D→Res Bool)(f:D→Res D):List D→Res (List D)
 | []=>.ok []
 |d::ds=>match t d with
  |.ok true=>(match f d with
   |.ok e=>(bS t f ds).bind λes=>.ok (e::es)
   |_=>.bad)
  |.ok false=>bS t f ds
  |_=>.bad
theorem l9 {t:D→Res Bool}{f:D→Res D}:∀{as bs es:List D},bS t f (as ++ bs)= .ok es→∃e1 e2,bS t f as= .ok e1∧bS t f bs= .ok e2∧es=e1 ++ e2
 | [],bs,es,h=>⟨[],es,rfl,h,rfl⟩
 |a::as,bs,es,h=>by
  rw[List.cons_append]at h;unfold bS at h;cases ht:t a with
  |bad=>rw[ht]at h;cases h
  |exc c=>rw[ht]at h;cases h
  |ok b=>
   rw[ht]at h;cases b with
   |false=>
    obtain⟨e1,e2,h1,h2,h3⟩:=l9 h;exact⟨e1,e2,by unfold bS;rw[ht];exact h1,h2,h3⟩
   |true=>
    cases hf:f a with
    |bad=>rw[hf]at h;cases h
    |exc c=>rw[hf]at h;cases h
    |ok e=>
     rw[hf]at h;dsimp only at h;cases hr:bS t f (as ++ bs) with
     |bad=>rw[hr]at h;cases h
     |exc c=>rw[hr]at h;cases h
     |ok es'=>
      rw[hr]at h;have h':Res.ok (e::es')=Res.ok es:=h;cases h';obtain⟨e1,e2,h1,h2,h3⟩:=l9 hr;subst h3;exact⟨e::e1,e2,by unfold bS;rw[ht,hf];dsimp only;rw[h1];rfl,h2,rfl⟩
theorem ma {t:D→Res Bool}{f:D→Res D}:∀{as es:List D},bS t f as= .ok es→es.length≤as.length
 | [],es,h=>by unfold bS at h;cases h;exact le_refl _
 |a::as,es,h=>by
  unfold bS at h;cases ht:t a with
  |bad=>rw[ht]at h;cases h
  |exc c=>rw[ht]at h;cases h
  |ok b=>
   rw[ht]at h;cases b with
   |false=>exact Nat.le_succ_of_le (ma h)
   |true=>
    cases hf:f a with
    |bad=>rw[hf]at h;cases h
    |exc c=>rw[hf]at h;cases h
    |ok e=>
     rw[hf]at h;dsimp only at h;cases hr:bS t f as with
     |bad=>rw[hr]at h;cases h
     |exc c=>rw[hr]at h;cases h
     |ok es'=>
      rw[hr]at h;have h':Res.ok (e::es')=Res.ok es:=h;cases h';have:=ma hr;rw[length_cons,length_cons];omega
def e_ (caps:Zn)(ρ:DS):DS:=caps.map λo=>o.bind λk=>(ρ[k]?).join
def Bl {K:Z8}{G:Hp}{σ:St}{ρ:DS}{caps:Zn}(h:Ro K G σ ρ):Ro K G (f9 caps σ) (e_ caps ρ):=by
 intro i d e;unfold e_ at e;rw[getElem?_map]at e;unfold f9;rw[getElem?_map];cases q:caps[i]? with
 |none=>rw[q]at e;cases e
 |some o=>
  rw[q]at e;cases o with
  |none=>simp at e
  |some k=>
   simp only[map_some,bind_some,Option.some.injEq]at e ⊢;cases q2:ρ[k]? with
   |none=>rw[q2]at e;simp at e
   |some o2=>
    rw[q2]at e;simp at e;subst e;obtain⟨v,hv,rv⟩:=h k d q2;exact⟨v,by rw[hv];rfl,rv⟩
def Ro.set {K:Z8}{G:Hp}{σ:St}{ρ:DS}{j:Nat}{v:V}{d:D}(h:Ro K G σ ρ)(hj:j<σ.length)(r:Rep K G d v):Ro K G (σ.set j (some v)) (ρ.set j (some d)):=by
 intro i e q;by_cases hi:i=j
 ·subst hi;by_cases hl:i<ρ.length
  ·rw[getElem?_set_self hl]at q;cases q;exact⟨v,getElem?_set_self hj,r⟩
  ·rw[getElem?_eq_none (by simpa using hl)]at q;cases q
 ·rw[getElem?_set_ne (Ne.symm hi)]at q ⊢;exact h i e q
abbrev pJ:XK:=λ_ _ _=>False
def xh (X:Cx)(E:XK)(ifs:Ze)(f:DS→Res Bool):Prop:=FJ X ifs (tDT X.K E f)
def bu:xh X E [] (λ_=>.ok true):=λpins s σ H Q I hZ145=>(by obtain⟨G,ρ,hs,hr,ho,k⟩:=hZ145;exact Cv pins s σ H Q I (k true rfl G H (.refl hs)))
def jE {f:DS→Res Bool}(h:uI X E c f):xh X E [c] f:=Cw (HM h)
end
section
variable{X:Cx}{E:XK}
def allInts:List D→Option (List Int)
 | []=>some []
 |.int i::ds=>(allInts ds).map (i::·)
 |_=>none
theorem fY:∀{ds:List D} {ns:List Int},allInts ds=some ns→ds=ns.map D.int
 | [],ns,h=>by unfold allInts at h;cases h;rfl
 |d::ds,ns,h=>by
  cases d with
  |int i=>
   unfold allInts at h;cases q:allInts ds with
   |none=>rw[q]at h;cases h
   |some ms=>rw[q]at h;cases h;rw[fY q];rfl
  |_=>unfold allInts at h;cases h
theorem eN:∀(ns:List Int),allInts (ns.map D.int)=some ns
 | []=>rfl
 |n::ns=>by show (allInts (ns.map D.int)).map (n::·)=_;rw[eN ns];rfl
def HL:List Int→Int
 | []=>0
 | [a]=>a
 |a::as=>min a (HL as)
def eS:List Int→Int
 | []=>0
 | [a]=>a
 |a::as=>max a (eS as)
theorem dl:∀{ns:List Int},ns≠[]→eS ns∈ns∧∀a∈ns,a≤eS ns
 | [],h=>absurd rfl h
 | [a],_=>⟨mem_singleton.mpr rfl,λb hb=>by rw[mem_singleton.mp hb];exact Int.le_refl _⟩
 |a::b::r,_=>by
  obtain⟨h1,h2⟩:=dl (ns:=b::r) (by simp);show max a (eS (b::r))∈_∧_;refine⟨?_,λc hc=>?_⟩
  ·by_cases h:eS (b::r)≤a
   ·rw[Int.max_eq_left h];exact mem_cons_self
   ·rw[Int.max_eq_right (by omega)];exact dk h1
  ·show c≤max a (eS (b::r))
   rcases mem_cons.mp hc with rfl|hc
   ·exact Int.le_max_left _ _
   ·exact Int.le_trans (h2 c hc) (Int.le_max_right _ _)
def mj:List D→Res D
 | [.lst l]=>match allInts l with|some (n::ns)=>.ok (.int (eS (n::ns)))|_=>.bad
 |_=>.bad
def xk (hc:X.calm=true):eJ X (.builtin "max") (λxs H Q=>∃p ns,xs=[.ref p]∧gy X.K H p (ns.map V.int)∧ns≠[]∧Q (.int (eS ns)) H):=by
 intro pins s σ H xs us Q I r h;obtain⟨p,ns,rfl,sq,hne,q⟩:=h;obtain⟨u,rfl,ru⟩:=jL r;cases (show u= .ref p from ru);obtain⟨its,rv,pl,_⟩:=I.list sq;have hi:=kJ rv;obtain⟨ys,e⟩:=hi.allInts.items;have J:ns=ys.toList.map (·.1):=by rw[←hi.numsOf,←nums_intItems,←e]
 have hsz:0<ys.size:=by
  have h3:0<ns.length:=length_pos_iff.mpr hne;rw[J,length_map,length_toList]at h3;exact h3
 have hl:=pl.isList;rw[e]at hl;refine max_intList (I.ok.hd hc) hl hsz λv h' tk hv hk=>?_;obtain⟨t,rfl⟩:=intItems_at hv;obtain⟨h1,h2⟩:=argBest_gt (numAt ys) (ys.size-1);have hm:numAt ys (argBest (λi j=>decide (numAt ys i>numAt ys j)) (ys.size-1))=eS ns:=by
  obtain⟨m1,m2⟩:=dl hne;refine le_antisymm (m2 _ ?_) ?_
  ·rw[J,numAt_eq];exact getD_mem (by rw[length_map,length_toList];omega)
  ·rw[J]at m1;obtain⟨j,hj,ej⟩:=mem_getD m1;rw[length_map,length_toList]at hj;rw[←J]at ej;rw[←ej,J,←numAt_eq];exact h2 j (by omega)
 rw[hm];exact⟨.int (eS ns),H,I.kept hk,⟨t,rfl⟩,q⟩
def Bp {K:Z8}:A_ K E (λxs H Q=>∃p ns,xs=[.ref p]∧gy K H p (ns.map V.int)∧ns≠[]∧Q (.int (eS ns)) H) mj:=by
 intro G H vs ds Q hs rl ok k;unfold mj at ok k;split at ok
 ·rename_i l;obtain⟨v,r,rfl,rx,r0⟩:=rl.inv;rw[r0.inv0];rw[rep_lst]at rx;obtain⟨p,xs,rfl,sq,rx⟩:=rx;dsimp only at k;cases q:allInts l with
  |none=>rw[q]at ok;exact ok.elim
  |some ns=>
   cases ns with
   |nil=>rw[q]at ok;exact ok.elim
   |cons n ns=>
    rw[q]at k;have e:=fY q;subst e;have ex:=rx.ints;subst ex;exact⟨p,n::ns,rfl,hs.seq sq.sq,by simp,k _ _ G H rfl (.refl hs) (rep_int.mpr rfl)⟩
 ·exact ok.elim
def sB (hi:Int)(n:Nat):List D:=(List.range n).map λ(i:Nat)=>D.int (hi-(i:Int))
def pS {a b c:Int}{t u v:Tok}{n:Nat}{pins:Z9}{σ:St}{H:Hp}{s:Z3}{Q:VK}(hc:X.calm=true)(I:Inv X pins σ H s)(hr:IsRange s.heap r a b c t u v)(hsm:Builtin.Range.small a b c=true)(hn:Builtin.Range.rangeSize a b c=n)(hz:n≤100000)(q:∀p,H p=none→Q (.ref p) (bc H p (.lst ((List.range n).map λ(i:Nat)=>V.int (a+(i:Int)*c))))):wpAny (model X.prog X.w) X.A (call (.type "list") [.ref r]) (EP X pins σ Q) X.xe s:=by
 refine call_list_range (I.ok.hd hc) hr hsm hn (le_trans hz (by decide)) λh' tk acc c' hk hD hI=>?_;obtain⟨h1,h2⟩:=hI;have hv:Vals ((List.range n).map λ(i:Nat)=>V.int (a+(i:Int)*c)) acc.toList:=by
  have aux:∀(m:Nat) (f:Nat→V) (l:List Value),l.length=m→(∀j u,l[j]?=some u→RelV (f j) u)→Vals ((List.range m).map f) l:=by
   intro m
   induction m with
   |zero=>
    intro f l hl _;cases l with
    |nil=>exact .nil
    |cons x xs=>simp at hl
   |succ m ih=>
    intro f l hl h;cases l with
    |nil=>simp at hl
    |cons x xs=>
     rw[List.range_succ_eq_map,map_cons,map_map];exact .cons (h 0 x rfl) (ih (f ∘ Nat.succ) xs (by simpa using hl) λj u e=>h (j+1) u (by simpa using e))
  refine aux n _ acc.toList (by simpa using h1) λj u e=>?_;obtain⟨t',rfl⟩:=h2 j u (by simpa using e);exact⟨t',rfl⟩
 refine⟨.ref s.heap.objs.size,_,I.laid (o:=.lst ((List.range n).map λ(i:Nat)=>V.int (a+(i:Int)*c))) hk (le_refl _) ⟨?_,acc.toList,c',hv,?_⟩,rfl,q _ (I.hok.fresh (le_refl _))⟩
 ·rw[length_map,length_range];exact le_trans hz (by decide)
 ·rw[hD]
def jt {i:Int}(h1: -(2 ^ 62)≤i)(h2:i≤2 ^ 62):Builtin.Range.rangeFitsLong i=true:=by
 unfold Builtin.Range.rangeFitsLong;simp only[and_eq_true,decide_eq_true_eq];omega
def qL {a b:Int}:Builtin.Range.rangeSize a b (-1)=((a-b).toNat:Int):=by
 unfold Builtin.Range.rangeSize;rw[Ym (by decide)];split
 ·have:(-(-1:Int))=1:=by decide
  rw[this,Int.ediv_one];omega
 ·omega
def qM {a b c:Int}(h1: -(2 ^ 60)≤a)(h2:a<2 ^ 60)(h3: -(2 ^ 60)≤b)(h4:b<2 ^ 60)(hc:c=1∨c= -1):Builtin.Range.small a b c=true:=by
 rcases hc with rfl|rfl
 ·exact small_one (by omega) (by omega) (by omega) (by omega)
 ·unfold Builtin.Range.small;rw[qL,jt (i:=a) (by omega) (by omega),jt (i:=b) (by omega) (by omega),jt (i:= -1) (by decide) (by decide),jt (i:=((a-b).toNat:Int)) (by omega) (by omega)];rw[Ym (by decide),jt (i:=b+(-1+1)) (by omega) (by omega)];simp
def uM (p:Z2)(a b c:Int):HO:=.ext λh=>∃t u v,IsRange h p a b c t u v
def Inv.rng {pins:Z9}{σ:St}{H:Hp}{s:Z3}{a b c:Int}{t u v:Tok}{tk:Nat}(I:Inv X pins σ H s):Inv X pins σ (bc H s.heap.objs.size (uM s.heap.objs.size a b c)) {s with heap:=s.heap.push {cls:=.type "range",data:=.fields #[.int a t,.int b u,.int c v]},toks:=tk}:=
 I.laid (λb o e=>Heap.get?_push_of_some _ e) (le_refl _) ⟨⟨t,u,v,Heap.get?_push_size _ rfl⟩,⟨_,Heap.get?_push_size _ rfl⟩,λh1 h2 ⟨t,u,v,e⟩ k=>⟨t,u,v,k _ e⟩⟩
def sX:eJ X (.type "range") (λxs H Q=>∃i j,xs=[.int i,.int j]∧∀p,H p=none→Q (.ref p) (bc H p (uM p i j 1))):=by
 intro pins s σ H xs us Q I r h;obtain⟨i,j,rfl,q⟩:=h;obtain⟨u1,u2,rfl,⟨t1,rfl⟩,⟨t2,rfl⟩⟩:=AZ r;exact call_range_2 ⟨.ref s.heap.objs.size,_,I.rng,rfl,q _ (I.hok.fresh (le_refl _))⟩
def Hg {x y z:V}{us:Z0}(r:Vals [x,y,z] us):∃u v w,us=[u,v,w]∧RelV x u∧RelV y v∧RelV z w:=by
 cases r with
 |cons a b=>cases b with
  |cons c d=>cases d with
   |cons e f=>cases f;exact⟨_,_,_,rfl,a,c,e⟩
def sY:eJ X (.type "range") (λxs H Q=>∃i j,xs=[.int i,.int j,.int (-1)]∧∀p,H p=none→Q (.ref p) (bc H p (uM p i j (-1)))):=by
 intro pins s σ H xs us Q I r h;obtain⟨i,j,rfl,q⟩:=h;obtain⟨u1,u2,u3,rfl,⟨t1,rfl⟩,⟨t2,rfl⟩,⟨t3,rfl⟩⟩:=Hg r;exact call_range_3 (by decide) ⟨.ref s.heap.objs.size,_,I.rng (tk:=s.toks),rfl,q _ (I.hok.fresh (le_refl _))⟩ (.inl (PyProof.noPylong_small (by decide)))
def k7 (hc:X.calm=true):eJ X (.type "list") (λxs H Q=>∃p a b c n,xs=[.ref p]∧H p=some (uM p a b c)∧Builtin.Range.small a b c=true∧Builtin.Range.rangeSize a b c=((n:Nat):Int)∧n≤100000∧∀l,H l=none→Q (.ref l) (bc H l (.lst ((List.range n).map λ(i:Nat)=>V.int (a+(i:Int)*c))))):=by
 intro pins s σ H xs us Q I r h;obtain⟨p,a,b,c,n,rfl,hp,hsm,hn,hz,q⟩:=h;obtain⟨u,rfl,ru⟩:=jL r;cases (show u= .ref p from ru);obtain⟨⟨t,u,v,e⟩,_,_⟩:=(show ObjOk X.prog X.w H s.heap p (uM p a b c) from I.hok p _ hp);exact pS hc I e hsm hn hz q
def jb (i:Int):Bool:=decide (-(2 ^ 60)≤i)&&decide (i<2 ^ 60)
def qz:List D→Res D
 | [.int i,.int j]=>if (jb i&&jb j&&aQ (j-i).toNat)=true then .ok (.lst (pi i (j-i).toNat)) else .bad
 |_=>.bad
def qA:List D→Res D
 | [.int i,.int j,.int k]=>if (jb i&&jb j&&aQ (i-j).toNat&&decide (k= -1))=true then .ok (.lst (sB i (i-j).toNat)) else .bad
 |_=>.bad
theorem pf {K:Z8}{G:Hp}{f:Nat→D}{g:Nat→V}(h:∀i,Rep K G (f i) (g i)):∀(l:List Nat),RepL K G (l.map f) (l.map g)
 | []=>.nil
 |a::r=>.cons (h a) (pf h r)
def vp {p1 p2 pos1 pos2:Ys}{fs:DS→Res (List D)}(hc:X.calm=true)(hgl:Gl X "list")(hml:X.mg "list" =none)(hg:Gl X "range")(hm:X.mg "range" =none)(ha:lU X E [a,b] fs)(hs:starEach [a,b] X.env=(false,eval a X.env)::starEach [b] X.env:=by rfl) (hpl:(backTo pos2 (starEach [b] X.env)).any (·.1)=false:=by rfl)(hs3:starEach [.Call (.Name "range" p2) [a,b] [] pos2] X.env=(false,eval (.Call (.Name "range" p2) [a,b] [] pos2) X.env)::starEach [] X.env:=by rfl) :
  PD X E (.Call (.Name "list" p1) [.Call (.Name "range" p2) [a,b] [] pos2] [] pos1) (bb fs qz):=by
 intro pins s σ G H ρ I hsm hro ho;have he:=eh (pos:=pos1) (p:=p1) (k7 hc) hgl hml PyProof.Rows.boot_list (bQ (eh (pos:=pos2) (p:=p2) sX hg hm boot_range (jd ha) (by decide) (by decide) hs hpl) df hs3) (by decide) (by decide) hs3 rfl;refine aV (he pins s σ H (λv H'=>∃d G',bb fs qz ρ= .ok d∧Ext G H G' H'∧Rep X.K G' d v) I ?_) λu s' hZ146=>(by obtain⟨v,H',I',r,d,G',e,xx,rp⟩:=hZ146;exact⟨d,e,v,G',H',I',r,xx,rp⟩);refine⟨G,ρ,hsm,hro,ho.fst,λds e vs G1 H1 x1 p1=>?_⟩;have kk:=ho.snd e x1.hh;unfold qz at kk;split at kk
 ·rename_i i j;obtain⟨v,r,rfl,rv,r0⟩:=p1.inv;obtain⟨v2,r2,rfl,rv2,r02⟩:=r0.inv;rw[r02.inv0];rw[rep_int]at rv rv2;subst rv rv2;by_cases hj:(jb i&&jb j&&aQ (j-i).toNat)=true
  ·have hj':=hj;unfold jb at hj';simp only[and_eq_true,decide_eq_true_eq]at hj';obtain⟨⟨⟨a1,a2⟩,b1,b2⟩,l1⟩:=hj';refine⟨i,j,rfl,λp hp=>⟨p,i,j,1,(j-i).toNat,rfl,au,qM a1 a2 b1 b2 (.inl rfl),by rw[rangeSize_one];split <;> omega,Zm l1,λl hl=>?_⟩⟩;have x2:=x1.trans (Ext.new x1.gh hp (uM p i j 1));have x3:=x2.trans (Ext.new x2.gh hl (.lst ((List.range (j-i).toNat).map λ(k:Nat)=>V.int (i+(k:Int)*1))));refine⟨_,_,aq e (Yo hj),x3,rep_lst.mpr ⟨l,_,rfl,.of au,pf (λk=>rep_int.mpr (by rw[Int.mul_one])) _⟩⟩
  ·rw[Ym hj]at kk;exact kk.elim
 ·exact kk.elim
def vq {p1 p2 pos1 pos2:Ys}{fs:DS→Res (List D)}(hc:X.calm=true)(hgl:Gl X "list")(hml:X.mg "list" =none)(hg:Gl X "range")(hm:X.mg "range" =none)(ha:lU X E [a,b,c] fs)(hs:starEach [a,b,c] X.env=(false,eval a X.env)::starEach [b,c] X.env:=by rfl) (hpl:(backTo pos2 (starEach [b,c] X.env)).any (·.1)=false:=by rfl)(hs3:starEach [.Call (.Name "range" p2) [a,b,c] [] pos2] X.env=(false,eval (.Call (.Name "range" p2) [a,b,c] [] pos2) X.env)::starEach [] X.env:=by rfl) :
  PD X E (.Call (.Name "list" p1) [.Call (.Name "range" p2) [a,b,c] [] pos2] [] pos1) (bb fs qA):=by
 intro pins s σ G H ρ I hsm hro ho;have he:=eh (pos:=pos1) (p:=p1) (k7 hc) hgl hml PyProof.Rows.boot_list (bQ (eh (pos:=pos2) (p:=p2) sY hg hm boot_range (jd ha) (by decide) (by decide) hs hpl) df hs3) (by decide) (by decide) hs3 rfl;refine aV (he pins s σ H (λv H'=>∃d G',bb fs qA ρ= .ok d∧Ext G H G' H'∧Rep X.K G' d v) I ?_) λu s' hZ147=>(by obtain⟨v,H',I',r,d,G',e,xx,rp⟩:=hZ147;exact⟨d,e,v,G',H',I',r,xx,rp⟩);refine⟨G,ρ,hsm,hro,ho.fst,λds e vs G1 H1 x1 p1=>?_⟩;have kk:=ho.snd e x1.hh;unfold qA at kk;split at kk
 ·rename_i i j k;obtain⟨v,r,rfl,rv,r0⟩:=p1.inv;obtain⟨v2,r2,rfl,rv2,r02⟩:=r0.inv;obtain⟨v3,r3,rfl,rv3,r03⟩:=r02.inv;rw[r03.inv0];rw[rep_int]at rv rv2 rv3;subst rv rv2 rv3;by_cases hj:(jb i&&jb j&&aQ (i-j).toNat&&decide (k= -1))=true
  ·have hj':=hj;unfold jb at hj';simp only[and_eq_true,decide_eq_true_eq]at hj';obtain⟨⟨⟨⟨a1,a2⟩,b1,b2⟩,l1⟩,rfl⟩:=hj';refine⟨i,j,rfl,λp hp=>⟨p,i,j,-1,(i-j).toNat,rfl,au,qM a1 a2 b1 b2 (.inr rfl),qL,Zm l1,λl hl=>?_⟩⟩;have x2:=x1.trans (Ext.new x1.gh hp (uM p i j (-1)));have x3:=x2.trans (Ext.new x2.gh hl (.lst ((List.range (i-j).toNat).map λ(k:Nat)=>V.int (i+(k:Int)*(-1)))));refine⟨_,_,aq e (Yo hj),x3,rep_lst.mpr ⟨l,_,rfl,.of au,pf (λk=>rep_int.mpr (by congr 1;omega)) _⟩⟩
  ·rw[Ym hj]at kk;exact kk.elim
 ·exact kk.elim
def Bn (l:List D)(lo hi:Yy):List D:=(l.drop (HT.dg l.length 0 lo)).take (HT.dg l.length l.length hi-HT.dg l.length 0 lo)
def vW {K:Z8}{G:Hp}{ds:List D}{xs:List V}(h:RepL K G ds xs)(lo hi:Yy):RepL K G (Bn ds lo hi) (s_ xs lo hi):=by
 unfold Bn s_;rw[←h.length];exact(h.drop _).take _
def kS (lo hi:Yy):D→Res D
 |.lst l=>.ok (.lst (Bn l lo hi))
 |.tup l=>if HT.dg l.length 0 lo=0∧HT.dg l.length l.length hi=l.length then .bad else .ok (.tup (Bn l lo hi))
 |_=>.bad
inductive tPO (K:Z8)(E:XK)(f:DS→Res (Option Int))(σ:St)(H:Hp)(Q:Option Int→Hp→Prop):Prop
 |mk (G:Hp) (ρ:DS) (s:Same G H) (r:Ro K G σ ρ) (ok:OkR E H (f ρ)) (k:∀o,f ρ= .ok o→∀G' H',Ext G H G' H'→Q o H')
def FU (X:Cx)(E:XK)(e:Option Expr)(f:DS→Res (Option Int)):Prop:=PO X e (tPO X.K E f)
def oU:FU X E none (λ_=>.ok none):=λpins s σ H Q I hZ148=>(by obtain⟨G,ρ,hs,hr,ho,k⟩:=hZ148;exact CG pins s σ H Q I (k none rfl G H (.refl hs)))
def Hx:D→Res (Option Int)
 |.int i=>.ok (some i)
 |_=>.bad
def oV {f:DS→Res D}(h:PD X E e f):FU X E (some e) (λρ=>(f ρ).bind Hx):=by
 intro pins s σ H Q I hZ12;obtain⟨G,ρ,hs,hr,ho,k⟩:=hZ12;refine CH (dM h) pins s σ H Q I ⟨G,ρ,hs,hr,ho.fst,λd e v G1 H1 x1 p1=>?_⟩;have kk:=ho.snd e x1.hh;cases d with
 |int i=>rw[rep_int]at p1;exact⟨i,p1,k (some i) (aq e rfl) G1 H1 x1⟩
 |_=>exact kk.elim
def FP (f:DS→Res D)(lo hi:DS→Res (Option Int)):DS→Res D:=λρ=>(f ρ).bind λd=>(lo ρ).bind λl=>(hi ρ).bind λu=>kS l u d
def oT {lo hi:Option Expr}{f:DS→Res D}{fl fh:DS→Res (Option Int)}(he:PD X E e f)(hl:FU X E lo fl)(hh:FU X E hi fh):PD X E (.Subscript e (.Slice lo hi none p2) pos) (FP f fl fh):=by
 intro pins s σ G H ρ I hsm hro ho;have hp:=Ab (pos:=pos) (p2:=p2) (sl_list.or Fw) (dM he) hl hh;refine aV (hp pins s σ H (λv H'=>∃d G',FP f fl fh ρ= .ok d∧Ext G H G' H'∧Rep X.K G' d v) I ?_) λu s' hZ149=>(by obtain⟨v,H',I',r,d,G',e,xx,rp⟩:=hZ149;exact⟨d,e,v,G',H',I',r,xx,rp⟩);refine⟨G,ρ,hsm,hro,ho.fst,λd e v G1 H1 x1 p1=>?_⟩;have k1:=ho.snd e x1.hh;refine⟨G1,ρ,x1.gh,hro.mono x1.gg,k1.fst,λl el G2 H2 x2=>?_⟩;have k2:=k1.snd el x2.hh;refine⟨G2,ρ,x2.gh,(hro.mono x1.gg).mono x2.gg,k2.fst,λu eu G3 H3 J=>?_⟩;have k3:=k2.snd eu J.hh;have x13:=(x1.trans x2).trans J;have p3:=p1.mono (x2.gg.trans J.gg);cases d with
 |lst ds=>
  rw[rep_lst]at p3;obtain⟨a,xs,rfl,sq,rl⟩:=p3;exact .inl ⟨a,xs,rfl,J.gh.seq sq.sq,λp hp=>⟨_,_,aq e (aq el (aq eu rfl)),x13.trans (.new J.gh hp _),rep_lst.mpr ⟨p,_,rfl,.of au,(vW rl l u).mono (Ext.new J.gh hp _).gg⟩⟩⟩
 |tup ds=>
  rw[rep_tup]at p3;obtain⟨a,xs,rfl,sq,rl⟩:=p3;unfold kS at k3;dsimp only at k3;by_cases hw:HT.dg ds.length 0 l=0∧HT.dg ds.length ds.length u=ds.length
  ·rw[Yo hw]at k3;exact k3.elim
  ·exact .inr ⟨a,xs,rfl,J.gh.seqT sq,by rw[←rl.length];exact hw,λp hp=>⟨_,_,aq e (aq el (aq eu (Ym hw))),x13.trans (.new J.gh hp _),rep_tup.mpr ⟨p,_,rfl,.of au,(vW rl l u).mono (Ext.new J.gh hp _).gg⟩⟩⟩
 |_=>exact k3.elim
end
inductive Out where
 |nx (ρ:DS)|rt (d:D)|bk (ρ:DS)|ct (ρ:DS)|exc (c:Addr)|bad
abbrev Z7:=DS→Res D
abbrev Z5:=DS→Res (List D)
abbrev Zy:=List D
abbrev Zu:=List V
abbrev Zr:=List D→Res D
abbrev Zp:=DS→Res Bool
abbrev Zl:=DS→Out
abbrev Zi:=DS→Res (List Nat)
abbrev Zf:=D→V→List Addr→Prop
abbrev Za:=D→DS→Option DS
abbrev Y8:=Option D
abbrev Y5:=D→D→Res D
abbrev Yv:=St→Hp→Prop
abbrev Yt:=DS→Res (Option Int)
def OkO (E:XK)(H:Hp):Out→Prop
 |.exc c=>∀H',Same H H'→E (.ref c) none H'
 |.bad=>False
 |_=>True
def Out.then:Out→(DS→Out)→Out
 |.nx ρ,f=>f ρ
 |o,_=>o
def Res.out {α:Type}:Res α→(α→Out)→Out
 |.ok a,f=>f a
 |.exc c,_=>.exc c
 |.bad,_=>.bad
def SO (X:Cx)(pins:Z9)(G H:Hp)(o:Out)(fl:Flow)(s':Z3):Prop:=
 match fl with
 |.next=>∃ρ' σ' G' H',o= .nx ρ'∧Inv X pins σ' H' s'∧Ext G H G' H'∧Ro X.K G' σ' ρ'
 |.brk=>∃ρ' σ' G' H',o= .bk ρ'∧Inv X pins σ' H' s'∧Ext G H G' H'∧Ro X.K G' σ' ρ'
 |.cont=>∃ρ' σ' G' H',o= .ct ρ'∧Inv X pins σ' H' s'∧Ext G H G' H'∧Ro X.K G' σ' ρ'
 |.ret u=>∃d v σ' G' H',o= .rt d∧Inv X pins σ' H' s'∧RelV v u∧Ext G H G' H'∧Rep X.K G' d v
def Bc (X:Cx)(E:XK)(st:Yq)(F:Zl):Prop:=
 ∀(pins:Z9) (s:Z3) (σ:St) (G H:Hp) (ρ:DS),Inv X pins σ H s→Same G H→Ro X.K G σ ρ→OkO E H (F ρ)→
  wpAny (model X.prog X.w) X.A (exec st X.env) (SO X pins G H (F ρ)) X.xe s
def Hv (X:Cx)(E:XK)(sts:List Stmt)(F:Zl):Prop:=
 ∀(pins:Z9) (s:Z3) (σ:St) (G H:Hp) (ρ:DS),Inv X pins σ H s→Same G H→Ro X.K G σ ρ→OkO E H (F ρ)→
  wpAny (model X.prog X.w) X.A (execs sts X.env) (SO X pins G H (F ρ)) X.xe s
def OkO.fst {E:XK}{H:Hp}{o:Out}{f:Zl}(h:OkO E H (o.then f)):OkO E H o:=by cases o <;> first|exact h|trivial
def OkO.snd {E:XK}{H H1:Hp}{o:Out}{f:Zl}{ρ:DS}(h:OkO E H (o.then f))(e:o= .nx ρ)(s:Same H H1):OkO E H1 (f ρ):=by
 subst e;have h':OkO E H (f ρ):=h;cases q:f ρ with
 |exc c=>rw[q]at h';exact λH' s'=>h' H' (s.trans s')
 |bad=>rw[q]at h';exact h'
 |nx _=>trivial
 |rt _=>trivial
 |bk _=>trivial
 |ct _=>trivial
def OkO.le {E:XK}{H H1:Hp}{o:Out}(h:OkO E H o)(s:Same H H1):OkO E H1 o:=by
 cases o with
 |exc c=>exact λH' s'=>h H' (s.trans s')
 |bad=>exact h
 |_=>trivial
def OkO.res {α:Type}{E:XK}{H:Hp}{x:Res α}{f:α→Out}(h:OkO E H (x.out f)):OkR E H x:=by cases x <;> first|exact h|trivial
def OkO.res2 {α:Type}{E:XK}{H H1:Hp}{x:Res α}{f:α→Out}{a:α}(h:OkO E H (x.out f))(e:x= .ok a)(s:Same H H1):OkO E H1 (f a):=by
 subst e;exact OkO.le (show OkO E H (f a) from h) s
def bY {α:Type}{x:Res α}{f:α→Out}{a:α}(e:x= .ok a):x.out f=f a:=by subst e;rfl
section
variable{X:Cx}{E:XK}
def av (F R:Zl):DS→Out:=λρ=>(F ρ).then R
def wV {st:Yq}{F:Zl}(h1:Bc X E st F):Hv X E [st] F:=by
 intro pins s σ G H ρ I hs hr ho;refine wpAny_execs_cons (aV (h1 pins s σ G H ρ I hs hr ho) λfl s1 q=>?_);cases fl with
 |next=>exact wpAny_execs_nil q
 |brk=>exact q
 |cont=>exact q
 |ret u=>exact q
def bR (f:Z7):DS→Out:=λρ=>(f ρ).out .rt
def Am {f:Z7}(h:PD X E e f):Bc X E (.Return (some e) pos) (bR f):=by
 intro pins s σ G H ρ I hs hr ho;refine aV (su (pos:=pos) (dM h) pins s σ H {nx:=λ_ _=>False,bk:=λ_ _=>False,ct:=λ_ _=>False,rt:=λv H'=>∃d G',f ρ= .ok d∧Ext G H G' H'∧Rep X.K G' d v} I ⟨G,ρ,hs,hr,ho.res,λd e v G' H' x rp=>⟨d,G',e,x,rp⟩⟩) λfl s1 q=>?_;cases fl with
 |next=>obtain⟨_,_,_,q⟩:=q;exact q.elim
 |brk=>obtain⟨_,_,_,q⟩:=q;exact q.elim
 |cont=>obtain⟨_,_,_,q⟩:=q;exact q.elim
 |ret u=>
  obtain⟨v,σ',H',I',rv,d,G',e,x,rp⟩:=q;exact⟨d,v,σ',G',H',bY e,I',rv,x,rp⟩
def aF (i:Nat)(f:Z7):DS→Out:=λρ=>(f ρ).out λd=>.nx (ρ.set i (some d))
def dX (fc:Zp)(Fa Fb:Zl):DS→Out:=λρ=>(fc ρ).out λk=>if k=true then Fa ρ else Fb ρ
def cX (C:Z2)(ok:DS→Bool):DS→Out:=λρ=>if ok ρ=true then .exc C else .bad
def ui {np cpos pos:Ys}{C:Z2}{t:TA}(hR:kx X E)(hc:X.calm=true)(Gx:ExcC X.K X.mg x C)(hg:Gl X x)(ha:PA X (e::es) t)(ok:DS→Bool)(ht:∀σ G H ρ,Same G H→Ro X.K G σ ρ→ok ρ=true→t σ H λvs H1=>vs.length≤sizeLine∧H1=H)(he:zQ2 X e es:=by rfl) (hpl:(backTo cpos (starEach es X.env)).any (·.1)=false:=by rfl) (hdb:zQ1 x:=by decide)(hmono:∀σ H Q Q',(∀vs H1,Q vs H1→Q' vs H1)→t σ H Q→t σ H Q') :
  Bc X E (.Raise (some (.Call (.Name x np) (e::es) [] cpos)) none pos) (cX C ok):=by
 intro pins s σ G H ρ I hs hr ho;unfold cX at ho ⊢;by_cases hk:ok ρ=true
 ·rw[Yo hk]at ho ⊢;refine wpAny_mono (Ar hR hc Gx hg ha he hpl hdb pins s σ H {nx:=λ_ _=>False,bk:=λ_ _=>False,ct:=λ_ _=>False,rt:=λ_ _=>False} I (hmono _ _ _ _ (λvs H1 hZ150=>(by obtain⟨a,b⟩:=hZ150;exact⟨a,by subst b;exact ho _ (.refl _)⟩)) (ht σ G H ρ hs hr hk))) (λfl s1 q=>?_) λ_ _ z=>z;cases fl with
  |next=>obtain⟨_,_,_,q⟩:=q;exact q.elim
  |brk=>obtain⟨_,_,_,q⟩:=q;exact q.elim
  |cont=>obtain⟨_,_,_,q⟩:=q;exact q.elim
  |ret u=>obtain⟨_,_,_,_,_,q⟩:=q;exact q.elim
 ·rw[Ym hk]at ho;exact ho.elim
def BX (j:Nat)(F:Zl):List D→DS→Out
 | [],ρ=>.nx ρ
 |d::ds,ρ=>match F (ρ.set j (some d)) with
  |.nx ρ'=>BX j F ds ρ'
  |.ct ρ'=>BX j F ds ρ'
  |.bk ρ'=>.nx ρ'
  |.rt d=>.rt d
  |.exc c=>.exc c
  |.bad=>.bad
def HC (fi:Z5)(j:Nat)(F:Zl):DS→Out:=λρ=>(fi ρ).out λds=>BX j F ds ρ
end
def ee:Out→Res D
 |.rt d=>.ok d
 |.nx _=>.ok .non
 |.exc c=>.exc c
 |_=>.bad
def aM (N:Zw)(ds:Zy):DS:=ds.map some ++ replicate (N.length-ds.length) none
def uu {K:Z8}{G:Hp}{N:Zw}{ds:Zy}{vs:Zu}(h:RepL K G ds vs):Ro K G (gF N vs) (aM N ds):=by
 intro i d e;unfold aM at e;unfold gF;by_cases hi:i<ds.length
 ·rw[List.getElem?_append_left (by simpa using hi),getElem?_map]at e;cases q:ds[i]? with
  |none=>rw[q]at e;cases e
  |some d'=>
   rw[q]at e;cases e;obtain⟨v,hv,rv⟩:=h.get q;have hv2:i<vs.length:=(fR hv).1;exact⟨v,by rw[List.getElem?_append_left (by simpa using hv2),getElem?_map,hv];rfl,rv⟩
 ·rw[getElem?_append_right (by simpa using hi),List.getElem?_replicate]at e;split at e <;> cases e
section
variable{P:Zv}{w:Zk}{K:Z8}{mg:Z4}{base:Heap}
abbrev yB (P:Zv)(w:Zk)(K:Z8)(mg:Z4)(base:Y6)(N:Zw)(qual:Yr)(scope:Yz)(f:Z2)(cdv:Zc)(A:Zg)(outer:Y1)(s:Z3)(H:Hp)(E:XK):Cx:=pO (CXF P w) P w K mg base N qual scope f cdv A outer s H E
def Fun.okF {st:Yq}{fd:Y7}{N ps:Zw}{k:Nat}{sp:Sp}(F:Fun K x qual st f fd)(S:FnScope N ps (aj st))(len:∀vs H Q E,sp vs H Q E→vs.length=ps.length)(hbody:∀(cdv:Zc) (A:Zg) (outer:Y1) (s:Z3) (H:Hp) (vs:Zu) (Q:VK) (E:XK),Room k (A.deeper (envOfC qual (aj st) s.heap.objs.size f cdv))→sp vs H Q E→
   ∃t,FL (yB P w K mg base N qual (aj st) f cdv A outer s H E) (da st) t∧t {nx:=λ_ H'=>Q .non H',rt:=Q} (gF N vs) H):FnOk P w K mg base (CXF P w) (k+1) f fd ps sp:=by
 obtain⟨oc,od,kV,doc,pm,an,cdv,ct,osl,rfl,lk,hcd⟩:=F.ex;exact zf lk hcd S len λA outer s H vs Q E hr hsp=>hbody cdv A outer s H vs Q E hr hsp
def Fun.pure {st:Yq}{fd:Y7}{N ps:Zw}{k:Nat}{m:Zr}(F:Fun K x qual st f fd)(S:FnScope N ps (aj st))(len:∀ds,m ds≠ .bad→ds.length=ps.length)(hbody:∀(cdv:Zc) (A:Zg) (outer:Y1) (s:Z3) (H:Hp) (E:XK),Room k (A.deeper (envOfC qual (aj st) s.heap.objs.size f cdv))→
   ∃Fb,Hv (yB P w K mg base N qual (aj st) f cdv A outer s H E) E (da st) Fb∧∀ds,m ds≠ .bad→ee (Fb (aM N ds))=m ds):FnOk P w K mg base (CXF P w) (k+1) f fd ps (pureSp K m):=by
 have nb:∀{E:XK} {H:Hp} {r:Res D},OkR E H r→r≠ .bad:=λh z=>by rw[z]at h;exact h
 obtain⟨oc,od,kV,doc,pm,an,cdv,ct,osl,rfl,lk,hcd⟩:=F.ex;refine zf lk hcd S (λvs H Q E hZ151=>(by obtain⟨ds,G,_,rl,L,_⟩:=hZ151;rw[←rl.length];exact len ds (nb L))) λA outer s H vs Q E hr hsp=>?_;obtain⟨ds,G,hs,rl,L,k⟩:=hsp;obtain⟨Fb,hb,hm⟩:=hbody cdv A outer s H E hr;have J:=hm ds (nb L);have hoO:OkO E H (Fb (aM N ds)):=by
  rw[←J]at L;cases q:Fb (aM N ds) with
  |exc c=>rw[q]at L;exact L
  |bad=>rw[q]at L;exact L
  |_=>trivial
 refine⟨λD σ H1=>(σ=gF N vs∧H1=H∧(D.nx=λ_ M=>Q .non M)∧D.rt=Q),?_,rfl,rfl,rfl,rfl⟩;intro pins s1 σ H1 D I hZ13;obtain⟨e1,e2,e3,e4⟩:=hZ13;subst e1 e2;refine aV (hb pins s1 _ G H1 (aM N ds) I hs (uu rl) hoO) λfl s2 q=>?_;cases fl with
 |next=>
  obtain⟨ρ',B,G',M,e,I',x,r⟩:=q;refine⟨B,M,I',?_⟩;rw[e3];exact k .non (by rw[←J,e];rfl) .non G' M x (rep_non.mpr rfl)
 |brk=>
  obtain⟨ρ',B,G',M,e,I',x,r⟩:=q;rw[e]at J;exact absurd J.symm (nb L)
 |cont=>
  obtain⟨ρ',B,G',M,e,I',x,r⟩:=q;rw[e]at J;exact absurd J.symm (nb L)
 |ret u=>
  obtain⟨d,v,B,G',M,e,I',rv,x,rp⟩:=q;refine⟨v,B,M,I',rv,?_⟩;rw[e4];exact k d (by rw[←J,e];rfl) v G' M x rp
end
section
variable{X:Cx}{E:XK}
def ac (i:Nat):DS→Res D:=λρ=>match ρ[i]? with|some (some d)=>.ok d|_=>.bad
def dv (i:Nat){x:Yr}{pos:Ys}(hN:X.N[i]?=some x:=by rfl)(hv:uJ X.env.scope x:=by first|exact Or.inl rfl|exact Or.inr (Or.inl rfl)|exact Or.inr (Or.inr rfl))(hd:zQ1 x:=by decide)(hcd:(x==("__classdict__" :Str))=false:=by decide):PD X E (.Name x pos) (ac i):=E6 hN hv hd hcd
end
section
variable{α β:Type}{a:α}{f:α→Res β}{g:α→Out}{c:Addr}
def az:(Res.ok a).bind f=f a:=id rfl
def tE:(Res.exc c:Res α).bind f= .exc c:=id rfl
def aL:(Res.ok a).out g=g a:=id rfl
def uX:(Res.exc c:Res α).out g= .exc c:=id rfl
end
section
variable{ρ:DS}{R:Zl}{d e:D}{i j:Int}{l:Zy}{c:Z2}{F F':Zl}{f f':Z7}{fc:Zp}{b:Bool}
def bf:(Out.nx ρ).then R=R ρ:=id rfl
def uZ:(Out.rt d).then R= .rt d:=id rfl
def tH:(Out.exc c).then R= .exc c:=id rfl
def bJ:av F R ρ=(F ρ).then R:=id rfl
def uY {k:Nat}:aF k f ρ=(f ρ).out λd=>.nx (ρ.set k (some d)):=id rfl
def kH:bR f ρ=(f ρ).out .rt:=id rfl
def yV:dX fc F F' ρ=(fc ρ).out λk=>if k=true then F ρ else F' ρ:=id rfl
def Df {o:Y5}:ae f f' o ρ=(f ρ).bind λa=>(f' ρ).bind λb=>o a b:=id rfl
def Gb {fs:Z5}{g:Zr}:bb fs g ρ=(fs ρ).bind g:=id rfl
def D2:cG f ρ=(f ρ).bind λd=>match d with|.bl b=>.ok b|_=>.bad:=id rfl
def BT:ac 0 (some d::ρ)= .ok d:=id rfl
def BU {k:Nat}{o:Y8}:ac (k+1) (o::ρ)=ac k ρ:=id rfl
def BK {o o':Y8}:(o::ρ).set 0 o'=o'::ρ:=id rfl
def BM {k:Nat}{o o':Y8}:(o::ρ).set (k+1) o'=o::ρ.set k o':=id rfl
def yY:ee (.rt d)= .ok d:=id rfl
def yX:ee (.nx ρ)= .ok .non:=id rfl
def xB:ee (.exc c)= .exc c:=id rfl
def D0:yG (.int i) (.int j)= .ok (.int (i+j)):=id rfl
def Ep:fN (.int i) (.int j)= .ok (.int (i-j)):=id rfl
def BF (h1: -(2 ^ 64)<j)(h2:j<2 ^ 64):xZ (.int i) (.int j)= .ok (.int (i*j)):=by
 unfold xZ iI;dsimp only;rw[Yo (Zo (show CMul i j from Or.inr ⟨h1,h2⟩))]
def BE (h1: -(2 ^ 64)<i)(h2:i<2 ^ 64):xZ (.int i) (.int j)= .ok (.int (i*j)):=by
 unfold xZ iI;dsimp only;rw[Yo (Zo (show CMul i j from Or.inl ⟨h1,h2⟩))]
def rj (h:0<j):oS (.int i) (.int j)= .ok (.int (i % j)):=by
 unfold oS iI;dsimp only;rw[Yo (Zo h)]
def v8 (h1:0<j)(h2:j<1073741824):wf (.int i) (.int j)= .ok (.int (i / j)):=by
 unfold wf iI;dsimp only;rw[Yo (Zo (show yA i j from ⟨h1,h2⟩))]
def Gg:zG (.int i) (.int j)= .ok (.bl (decide (i<j))):=id rfl
def De:uK (.int i) (.int j)= .ok (.bl (decide (i≤j))):=id rfl
def Gf:yx (.int i) (.int j)= .ok (.bl (decide (j<i))):=id rfl
def Gd:Iz (.int i) (.int j)= .ok (.bl (decide (j≤i))):=id rfl
def v9:bj [.lst l]= .ok (.int l.length):=id rfl
def By:bj [.tup l]= .ok (.int l.length):=id rfl
def l8 {d:D}(h:atI l i=some d):aH (.lst l) (.int i)= .ok d:=by unfold aH;dsimp only;rw[h]
def gK {d:D}(h:atI l i=some d):aH (.tup l) (.int i)= .ok d:=by unfold aH;dsimp only;rw[h]
def ji {α:Type}{xs:List α}{i:Int}{v:α}(h0:0≤i)(h:xs[i.toNat]?=some v):atI xs i=some v:=by
 have:=vV (j:=i.toNat) h;rwa[Int.toNat_of_nonneg h0]at this
def BD:qD [.int i,.int j]= .ok (.int (min i j)):=id rfl
def BA:GE [.int i,.int j]= .ok (.int (max i j)):=id rfl
end
section
variable{X:Cx}{E:XK}
def we (f:Z7):DS→Out:=λρ=>(f ρ).out λ_=>.nx ρ
def yd {np cpos pos jp:Ys}{n:Nat}{t:Yv}{C:Z2}(hR:kx X E)(hc:X.calm=true)(Gx:ExcC X.K X.mg x C)(hg:Gl X x)(h:FI X (v1::v2::rest) n t)(ok:DS→Bool)(ht:∀σ G H ρ,Same G H→Ro X.K G σ ρ→ok ρ=true→t σ H) (hn:n≤100000:=by decide)(he:starEach [.JoinedStr (v1::v2::rest) jp] X.env=(false,eval (.JoinedStr (v1::v2::rest) jp) X.env)::starEach [] X.env:=by rfl) (hdb:zQ1 x:=by decide) :
  Bc X E (.Raise (some (.Call (.Name x np) [.JoinedStr (v1::v2::rest) jp] [] cpos)) none pos) (cX C ok):=
 ui hR hc Gx hg (bQ (Cp h hn) df he) ok (λσ G H ρ hs hr hk=>⟨ht σ G H ρ hs hr hk,λx=>⟨by show 1≤sizeLine;decide,rfl⟩⟩) he rfl hdb λσ H Q Q' hq hZ152=>(by obtain⟨a,b⟩:=hZ152;exact⟨a,λx=>hq _ _ (b x)⟩)
def ye {np cpos pos jp:Ys}{y:Yr}{j:Nat}{C:Z2}(hR:kx X E)(hc:X.calm=true)(Gx:ExcC X.K X.mg x C)(hg:Gl X x)(he:starEach [.Constant (.str y) j jp] X.env=(false,eval (.Constant (.str y) j jp) X.env)::starEach [] X.env:=by rfl) (hdb:zQ1 x:=by decide) :
  Bc X E (.Raise (some (.Call (.Name x np) [.Constant (.str y) j jp] [] cpos)) none pos) (cX C λ_=>true):=
 ui hR hc Gx hg (bQ Fd df he) (λ_=>true) (λσ G H ρ hs hr hk=>⟨by show 1≤sizeLine;decide,rfl⟩) he rfl hdb λσ H Q Q' hq h=>hq _ _ h
def A7 (i:Nat)(ρ:DS):Bool:=match ρ[i]? with|some (some (.int n))=>decide (n.natAbs.log2<1920)|_=>false
def Ds {i:Nat}{K:Z8}{σ:St}{G H:Hp}{ρ:DS}(hr:Ro K G σ ρ)(h:A7 i ρ=true):DB (Fz i) σ H:=by
 unfold A7 at h;split at h
 ·rename_i n q;obtain⟨v,hv,rv⟩:=hr i _ q;rw[rep_int]at rv;subst rv;exact⟨_,hv,rfl,n,rfl,Zm h⟩
 ·cases h
def rG (K:Z8)(C:Z2)(m:Zr):Sp:=λvs H Q E=>∃p dx rest ds G,vs= .ref p::rest∧H p=some (.ins C dx [])∧Same G H∧G p=none∧RepL K G ds rest∧OkR E H (m ds)∧
 ∀ns fds,m ds= .ok (.ins C ns fds)→∀fs G' H',fs.map (·.1)=ns→RepL K G' fds (fs.map (·.2))→H' p=some (.ins C dx fs)→(∀b o,H b=some o→b≠p→H' b=some o)→Same G G'→Same G' H'→(∀b o,G' b=some o→G b=some o∨H b=none∨oG o)→G' p=none→Q .non H'
def DH (C:Z2)(m:Zr):Prop:=∀ds d,m ds= .ok d→∃ns fds,d= .ins C ns fds
def Ck {CX:sO}{k:Nat}{f C:Z2}{fd:Y7}{ps:Zw}{m:Zr}{p pos:Ys}{e:Y3}{es:Ze}{fs:Z5}(M:Mk X.K C f)(F:FnOk X.prog X.w X.K X.mg X.base CX k f fd ps (rG X.K C m))(hmk:DH C m)(hr:Room (k+1) X.A)(hg:Gl X x)(hm:X.mg x=some (.ref C))(hb:Binds X.K fd ps [])(hx:de CX X E)(ha:lU X E (e::es) fs) (hpe:∀t,PA X (e::es) t→PE X (.Call (.Name x p) (e::es) [] pos) (DC C (rG X.K C m) [] E t)) :
  PD X E (.Call (.Name x p) (e::es) [] pos) (bb fs m):=by
 intro pins s σ G H ρ I hs hro ho;refine aV (hpe _ (jd ha) pins s σ H (λv H'=>∃d G',bb fs m ρ= .ok d∧Ext G H G' H'∧Rep X.K G' d v) I ?_) λu s' hZ153=>(by obtain⟨v,H',I',r',d,G',e,x,rp⟩:=hZ153;exact⟨d,e,v,G',H',I',r',x,rp⟩);refine⟨G,ρ,hs,hro,ho.fst,λds e1 vs G1 H1 x1 p1 y dy hy hdy hne=>?_⟩;have kk:=ho.snd e1 x1.hh;have P:Same H1 (bc (bc H1 dy (.own y)) y (.ins C dy [])):=λb o N=>by rw[am (aD N hy),am (aD N hdy)];exact N
 have fr2:∀b,(bc (bc H1 dy (.own y)) y (.ins C dy [])) b=none→H1 b=none:=λb N=>P.free N;have g1y:G1 y=none:=by
  cases q:G1 y with
  |none=>rfl
  |some o=>rw[x1.gh y o q]at hy;cases hy
 refine⟨y,dy,vs,ds,G1,by rw[append_nil],au,x1.gh.trans P,g1y,p1,kk.le P,λns fds em fs2 G' H' hn rl hp kp sg sh nw gp=>⟨rfl,?_⟩⟩;refine⟨.ins C ns fds,bc G' y (.ins C dy fs2),aq e1 em,x1.trans ⟨?_,?_,?_,?_⟩,rep_ins.mpr ⟨y,dy,fs2,rfl,au,hn,rl.mono ?_⟩⟩
 ·exact λb o N=>kp b o (P b o N) (aD N hy)
 ·exact λb o N=>by rw[am (aD (sg b o N) gp)];exact sg b o N
 ·intro b o N;by_cases O:b=y
  ·subst O;rw[au]at N;cases N;exact hp
  ·rw[am O]at N;exact sh b o N
 ·intro b o N;by_cases O:b=y
  ·subst O;exact .inr (.inl hy)
  ·rw[am O]at N;exact(nw b o N).imp id (Or.imp (fr2 b) id)
 ·exact λb o N=>by rw[am (aD N gp)];exact N
def Ih (F:Zl)(g:Addr→Option D):DS→Out:=λρ=>match F ρ with
 |.exc c=>(match g c with|some d=>.rt d|none=>.bad)
 |o=>o
end
def jP:bootBuiltins "list" =some (.type "list"):=by decide +kernel
def yL:bootBuiltins "tuple" =some (.type "tuple"):=by decide +kernel
def DP:bootBuiltins "int" =some (.type "int"):=by decide +kernel
def Bj:bootBuiltins "bool" =some (.type "bool"):=by decide +kernel
def F3:bootBuiltins "ValueError" =some (.type "ValueError"):=by decide +kernel
def DR:bootBuiltins "min" =some (.builtin "min"):=by decide +kernel
def yK:bootBuiltins "max" =some (.builtin "max"):=by decide +kernel
section
variable{X:Cx}{E:XK}
def t_ {i:Int}(hm:∃t,X.mg x=some (.int i t))(hg:Gl X x:=by rfl)(hd:zQ1 x:=by decide):PD X E (.Name x pos) (λ_=>.ok (.int i)):=by
 obtain⟨t,hm⟩:=hm;exact zS hg hm ⟨t,rfl⟩ hd
end
section
variable{ρ:DS}{fa fb fc:Z7}{f g:Zp}{b:Bool}{c:Z2}{F:Zl}{j:Nat}{d:D}{ds:List D}
def D1:Be f g ρ=(f ρ).bind λb=>if b=true then g ρ else .ok false:=id rfl
def Gh:FO f g ρ=(f ρ).bind λb=>if b=true then .ok true else g ρ:=id rfl
def En:jB f ρ=(f ρ).bind λb=>.ok (!b):=id rfl
def Bw:we fa ρ=(fa ρ).out λ_=>.nx ρ:=id rfl
def D7 {fi:Z5}:HC fi j F ρ=(fi ρ).out λds=>BX j F ds ρ:=id rfl
def yZ {ok:DS→Bool}(h:ok ρ=true):cX c ok ρ= .exc c:=Yo h
def Ek {a b:Int}:lX (.int a) (.int b)= .ok (.bl (!(a==b))):=id rfl
def D5 {a b:Int}:Bt (.int a) (.int b)= .ok (.bl (a==b)):=id rfl
def Bu:DM fa fb ρ=(fa ρ).bind λd=>match d with|.bl true=>fb ρ|.bl false=>.ok (.bl false)|_=>.bad:=id rfl
def BG:EQ fa ρ=(fa ρ).bind λd=>match d with|.bl b=>.ok (.bl (!b))|_=>.bad:=id rfl
def Bz {fs:Z5}:cU fs ρ=(fs ρ).bind λds=>if aQ ds.length=true then .ok (.lst ds) else .bad:=id rfl
def BR {fs:Z5}:cA fs ρ=(fs ρ).bind λds=>if aQ ds.length=true then .ok (.tup ds) else .bad:=id rfl
def BC {C:Z2}{m:Yr}{gm:Zr}:ki C m fa gm ρ=(fa ρ).bind λo=>if mM C m o=true then gm [o] else .bad:=id rfl
def y9 {lo hi:Yt}:FP fa lo hi ρ=(fa ρ).bind λd=>(lo ρ).bind λl=>(hi ρ).bind λu=>kS l u d:=id rfl
def Er {F:Zl}{gx:Addr→Option D}:Ih F gx ρ=match F ρ with|.exc c=>(match gx c with|some d=>.rt d|none=>.bad)|o=>o:=id rfl
def Eb {d:D}:Ew d .non= .ok (.bl (B2 d)):=id rfl
def BH {d:D}:qE d .non= .ok (.bl (!B2 d)):=id rfl
def qy {n:Int}(h1: -(10 ^ 20)<n)(h2:n<10 ^ 20):n.natAbs.log2<1920:=by
 have h:n.natAbs<2 ^ 100:=by omega
 by_cases hz:n.natAbs=0
 ·rw[hz];decide
 ·exact lt_of_lt_of_le ((Nat.log2_lt hz).mpr h) (by decide)
end
section
variable{X:Cx}{E:XK}
def GV {np cpos pos jp:Ys}{n:Nat}{t:Yv}{C:Z2}(Gx:ExcC X.K X.mg x C)(h:FI X (v1::v2::rest) n t)(ok:DS→Bool)(ht:∀σ G H ρ,Same G H→Ro X.K G σ ρ→ok ρ=true→t σ H) (hR:kx X E:=by exact qH λ_ _ _ h=>h) (hc:X.calm=true:=by rfl) (hg:Gl X x:=by rfl) (hn:n≤100000:=by decide)(he:starEach [.JoinedStr (v1::v2::rest) jp] X.env=(false,eval (.JoinedStr (v1::v2::rest) jp) X.env)::starEach [] X.env:=by rfl) (hdb:zQ1 x:=by decide) :
  Bc X E (.Raise (some (.Call (.Name x np) [.JoinedStr (v1::v2::rest) jp] [] cpos)) none pos) (cX C ok):=yd hR hc Gx hg h ok ht hn he hdb
def GW {np cpos pos jp:Ys}{y:Yr}{j:Nat}{C:Z2}(Gx:ExcC X.K X.mg x C)(hR:kx X E:=by exact qH λ_ _ _ h=>h)(hc:X.calm=true:=by rfl)(hg:Gl X x:=by rfl)(he:starEach [.Constant (.str y) j jp] X.env=(false,eval (.Constant (.str y) j jp) X.env)::starEach [] X.env:=by rfl) (hdb:zQ1 x:=by decide) :
  Bc X E (.Raise (some (.Call (.Name x np) [.Constant (.str y) j jp] [] cpos)) none pos) (cX C λ_=>true):=ye hR hc Gx hg he hdb
def GN {pl:Sem Bool}{k:Nat}{f C:Z2}{fd:Y7}{ps:Zw}{g:Zr}{apos pos:Ys}{fo:Z7}(hoo:PD X E o fo)(c:Cls X.K C)(hm:Meth X.K C m f)(F:FnOk X.prog X.w X.K X.mg X.base (CXF X.prog X.w) k f fd ps (pureSp X.K g))(hr:Room k X.A)(hb:Binds X.K fd ps [])(hx:de (CXF X.prog X.w) X E:=by exact jm λ_ _ _ h=>h)(ht:eval (.Call (.Attribute o m apos) [] [] pos) X.env=(do
   let ov ←eval o X.env
   standAt apos.atName
   let (f,first) ←holding [ov] (getMethod ov m pl)
   callWith pos f first (backTo pos (starEach [] X.env)) (backToKw pos (keywordEach [] X.env))):=by rfl):PD X E (.Call (.Attribute o m apos) [] [] pos) (ki C m fo g):=
 zT (pl:=pl) hoo c hm F hr hb hx (z_ (pl:=pl) (dM hoo) c hm F hr hb .nil hx ht)
end
section
variable{X:Cx}{E:XK}{e e2:Y3}{p pos:Ys}{f f2:DS→Res D}
def bp (hm:X.mg "len" =none)(h:PD X E e f)(hg:Gl X "len" :=by rfl)(he:zQ2 X e []:=by rfl):PD X E (.Call (.Name "len" p) [e] [] pos) (λρ=>(f ρ).bind λa=>bj [a]):=by
 have q:=jD (X:=X) (E:=E) (p:=p) (pos:=pos) qY DV hg hm PySem.boot_len (aa h af he) (by decide) (by decide) he rfl;have e:bb (λρ=>(f ρ).bind λd=>(Res.ok []:Res (List D)).bind λds=>.ok (d::ds)) bj=λρ=>(f ρ).bind λa=>bj [a]:=funext λρ=>by
  show ((f ρ).bind _).bind _=_;cases f ρ <;> rfl
 exact e ▸ q
def wG (hm:X.mg "list" =none)(h:PD X E e f)(hg:Gl X "list" :=by rfl)(he:zQ2 X e []:=by rfl):PD X E (.Call (.Name "list" p) [e] [] pos) (λρ=>(f ρ).bind λa=>cD [a]):=by
 have q:=mm (X:=X) (E:=E) (p:=p) (pos:=pos) iD vY hg hm jP (aa h af he) (by decide) (by decide) he rfl;have e:bb (λρ=>(f ρ).bind λd=>(Res.ok []:Res (List D)).bind λds=>.ok (d::ds)) cD=λρ=>(f ρ).bind λa=>cD [a]:=funext λρ=>by
  show ((f ρ).bind _).bind _=_;cases f ρ <;> rfl
 exact e ▸ q
def zV (hm:X.mg "tuple" =none)(h:PD X E e f)(hg:Gl X "tuple" :=by rfl)(he:zQ2 X e []:=by rfl):PD X E (.Call (.Name "tuple" p) [e] [] pos) (λρ=>(f ρ).bind λa=>pE [a]):=by
 have q:=mm (X:=X) (E:=E) (p:=p) (pos:=pos) pL yN hg hm yL (aa h af he) (by decide) (by decide) he rfl;have e:bb (λρ=>(f ρ).bind λd=>(Res.ok []:Res (List D)).bind λds=>.ok (d::ds)) pE=λρ=>(f ρ).bind λa=>pE [a]:=funext λρ=>by
  show ((f ρ).bind _).bind _=_;cases f ρ <;> rfl
 exact e ▸ q
def wH (hm:X.mg "max" =none)(h:PD X E e f)(hc:X.calm=true:=by rfl)(hg:Gl X "max" :=by rfl)(he:zQ2 X e []:=by rfl):PD X E (.Call (.Name "max" p) [e] [] pos) (λρ=>(f ρ).bind λa=>mj [a]):=by
 have q:=jD (X:=X) (E:=E) (p:=p) (pos:=pos) (xk hc) Bp hg hm yK (aa h af he) (by decide) (by decide) he rfl;have e:bb (λρ=>(f ρ).bind λd=>(Res.ok []:Res (List D)).bind λds=>.ok (d::ds)) mj=λρ=>(f ρ).bind λa=>mj [a]:=funext λρ=>by
  show ((f ρ).bind _).bind _=_;cases f ρ <;> rfl
 exact e ▸ q
def Cm {fs:Z5}(hm:X.mg "min" =none)(h:lU X E [e,e2] fs)(hc:X.calm=true:=by rfl)(hg:Gl X "min" :=by rfl)(he:starEach [e,e2] X.env=(false,eval e X.env)::starEach [e2] X.env:=by rfl)(hpl:(backTo pos (starEach [e2] X.env)).any (·.1)=false:=by rfl):PD X E (.Call (.Name "min" p) [e,e2] [] pos) (bb fs qD):=
 jD (xm hc) Bq hg hm DR h (by decide) (by decide) he hpl
def Ac {n:String}(hm:X.mg x=none)(hv:bootBuiltins x=some (.type n))(hg:Gl X x:=by rfl)(hn:x≠ "__name__" :=by decide)(hd:zQ1 x:=by decide):PE X (.Name x pos) (tC (.ty n)):=sf hg hm hv rfl hn hd
def si {C:Z2}(hm:X.mg x=some (.ref C))(hg:Gl X x:=by rfl)(hd:zQ1 x:=by decide):PE X (.Name x pos) (tC (.ref C)):=wL hg hm rfl hd
def lx {p pos:Ys}{fa:Z7}{vc:V}(hm:X.mg "isinstance" =none)(ha:PD X E a fa)(hcl:PE X c (tC vc))(hvc:cV vc≠ .none:=by exact λz=>nomatch z)(hg:Gl X "isinstance" :=by rfl)(hs1:starEach [a,c] X.env=(false,eval a X.env)::starEach [c] X.env:=by rfl) (hs2:starEach [c] X.env=(false,eval c X.env)::starEach [] X.env:=by rfl) (hpl:(backTo pos (starEach [c] X.env)).any (·.1)=false:=by rfl) :
  PD X E (.Call (.Name "isinstance" p) [a,c] [] pos) (λρ=>(fa ρ).bind (eO X.K (cV vc))):=E2 ha hcl hvc hg hm hs1 hs2 hpl
end
section
variable{ρ:DS}{fa fb fc:Z7}{c:Z2}{l:Zy}{i:Int}
def Hm:D→D→Res D→Res Bool
 |.int a,.int b,z=>if a≤b then z.bind λc=>(match c with|.int c=>.ok (decide (b≤c))|_=>.bad) else .ok false
 |_,_,_=>.bad
def Ed {x y z:Int}:Hm (.int x) (.int y) (.ok (.int z))= .ok (decide (x≤y)&&decide (y≤z)):=by
 unfold Hm;dsimp only;by_cases h:x≤y
 ·rw[Yo h,Zo h];rfl
 ·rw[Ym h,Zj h];rfl
def xz:iE fa fb fc uK uK ρ=(fa ρ).bind λa=>(fb ρ).bind λb=>Hm a b (fc ρ):=by
 unfold iE;cases fa ρ with
 |ok a=>
  cases fb ρ with
  |ok b=>
   rw[az,az,az,az];cases a with
   |int x=>
    cases b with
    |int y=>
     rw[De,az];unfold Hm;dsimp only;by_cases h:x≤y
     ·rw[Zo h,Yo h];dsimp only;cases fc ρ with
      |ok c=>
       rw[az,az];cases c <;> rfl
      |_=>rfl
     ·rw[Zj h,Ym h]
    |_=>rfl
   |_=>cases b <;> rfl
  |_=>rfl
 |_=>rfl
def D3:Hx (.int i)= .ok (some i):=id rfl
def BS:FC (.tup l)= .ok l:=id rfl
def BJ:AK (.lst l)= .ok l:=id rfl
def Gi:cX c (λ_=>true) ρ= .exc c:=id rfl
def Em:EO (.int i)= .ok (.int (-i)):=id rfl
def BQ {x y z:D}:(([x,y,z]:List D).length:Int)=3:=id rfl
def v_ {x:D}{r:Zy}:aH (.tup (x::r)) (.int 0)= .ok x:=gK (ji (by decide) rfl)
def y_ {x y:D}{r:Zy}:aH (.tup (x::y::r)) (.int 1)= .ok y:=gK (ji (by decide) rfl)
def wc {x y z:D}{r:Zy}:aH (.tup (x::y::z::r)) (.int 2)= .ok z:=gK (ji (by decide) rfl)
def tF {x:D}{r:Zy}:aH (.lst (x::r)) (.int 0)= .ok x:=l8 (ji (by decide) rfl)
def tG {x y:D}{r:Zy}:aH (.lst (x::y::r)) (.int 1)= .ok y:=l8 (ji (by decide) rfl)
def Ee {α:Type}:aQ ([]:List α).length=true:=Zo (by show 0≤100000;decide)
def Ef {α:Type}{a:α}:aQ [a].length=true:=Zo (by show 1≤100000;decide)
def Eh {α:Type}{a b:α}:aQ [a,b].length=true:=Zo (by show 2≤100000;decide)
def Ei {α:Type}{a b c:α}:aQ [a,b,c].length=true:=Zo (by show 3≤100000;decide)
def Ej {α:Type}{a b c d:α}:aQ [a,b,c,d].length=true:=Zo (by show 4≤100000;decide)
def Eo {x y z:D}:kS none (some 2) (.tup [x,y,z])= .ok (.tup [x,y]):=by
 unfold kS;dsimp only;rw[Ym (by simp[HT.dg])];rfl
end
def cN {P:Zv}{w:Zk}{X:Cx}:de (CXF P w) X pJ:=by
 intro pins σ H s e s' I h;obtain⟨_,_,_,_,_,_,_,_,_,_,_,_,_,_,q⟩:=h;exact q.elim
def Gp:D→Option bL
 |.int i=>some (.inl i)
 |.str x=>some (.inr x)
 |_=>none
def gY:List D→Option (List bL)
 | []=>some []
 |d::ds=>match Gp d,gY ds with
  |some k,some ks=>some (k::ks)
  |_,_=>none
theorem jW {K:Z8}{G:Hp}:∀{ds:Zy} {xs:Zu} {k:List bL},RepL K G ds xs→gY ds=some k→xs=k.map kV
 | [],xs,k,h,e=>by unfold gY at e;cases e;rw[h.inv0];rfl
 |d::ds,xs,k,h,e=>by
  obtain⟨v,r,rfl,h1,h2⟩:=h.inv;unfold gY at e;split at e
  ·rename_i k0 ks e1 e2;cases e;rw[jW h2 e2];unfold Gp at e1;split at e1
   ·cases e1;rw[rep_int.mp h1];rfl
   ·cases e1;rw[rep_str.mp h1];rfl
   ·cases e1
  ·cases e
def sJ:List (List bL)→List D→List bL→Option D
 |k::ks,d::ds,q=>if k=q then some d else sJ ks ds q
 |_,_,_=>none
theorem uD {K:Z8}{G:Hp}{q:List bL}:∀{kvs:List (List bL×V)} {ds:List D},RepL K G ds (kvs.map (·.2))→(∀d,sJ (kvs.map (·.1)) ds q=some d→∃v,je kvs q=some v∧Rep K G d v)∧(sJ (kvs.map (·.1)) ds q=none→je kvs q=none)
 | [],ds,h=>⟨λd e=>(by unfold sJ at e;cases ds <;> cases e),λ_=>rfl⟩
 |(k,v)::r,ds,h=>by
  cases ds with
  |nil=>exact absurd h.inv0 (by simp)
  |cons d0 ds=>
   obtain⟨v',r',e',h1,h2⟩:=h.inv;rw[map_cons]at e';cases e';have ih:=uD (q:=q) h2;have ev:je ((k,v)::r) q=if k=q then some v else je r q:=by
    unfold je;rw[find?_cons];by_cases z:k=q
    ·rw[Zo z,Yo z];rfl
    ·rw[Zj z,Ym z]
   rw[map_cons];unfold sJ;rw[ev];by_cases z:k=q
   ·rw[Yo z,Yo z];exact⟨λd e=>⟨v,rfl,(by cases e;exact h1)⟩,λe=>(by cases e)⟩
   ·rw[Ym z,Ym z];exact ih
def k9 (ks:List (List bL))(ds kd:Zy):Res D:=match gY kd with
 |some k=>(match sJ ks ds k with|some d=>.ok d|none=>.bad)
 |none=>.bad
def aT:D→D→Res D
 |.dct ks ds,.tup kd=>k9 ks ds kd
 |.fdc ks ds,.tup kd=>k9 ks ds kd
 |_,_=>.bad
def Same.rd {H H':Hp}{u:HO}(s:Same H H')(h:Rd H a u):Rd H' a u:=by
 rcases h with h|⟨o,h⟩
 ·exact .inl (s _ _ h)
 ·exact .inr ⟨o,s _ _ h⟩
section
variable{X:Cx}{E:XK}
def cE {fo fi:Z7}(hu:X.A.units+64<cLine)(ho:PD X E o fo)(hi:PD X E i fi)(hs:Ba i:=by intro _ _;rfl):PD X E (.Subscript o i pos) (ae fo fi aT):=by
 intro pins s σ G H ρ I hsm hro hok;refine aV (wK (pos:=pos) (by omega) (dM ho) (dM hi) hs pins s σ H (λv H'=>∃d G',ae fo fi aT ρ= .ok d∧Ext G H G' H'∧Rep X.K G' d v) I ?_) λu s' hZ154=>(by obtain⟨v,H',I',r',d,G',e,x,rp⟩:=hZ154;exact⟨d,e,v,G',H',I',r',x,rp⟩);refine⟨G,ρ,hsm,hro,hok.fst,λd1 e1 v1 G1 H1 x1 p1=>⟨G1,ρ,x1.gh,hro.mono x1.gg,(hok.snd e1 x1.hh).fst,λd2 e2 v2 G2 H2 x2 p2=>?_⟩⟩;have P:=(hok.snd e1 x1.hh).snd e2 x2.hh;have eo:ae fo fi aT ρ=aT d1 d2:=by unfold ae;rw[e1,az,e2,az]
 have go:∀{ks:List (List bL)} {ds kd:Zy} {a:Z2} {N:List (List bL×V)},aT d1 d2=k9 ks ds kd→v1= .ref a→Rd G1 a (.dT N)→N.map (·.1)=ks→RepL X.K G1 ds (N.map (·.2))→Rep X.K G2 (.tup kd) v2→DA (λ_ H Q=>Q v1 H) (λ_ H Q=>Q v2 H) σ H2 (λv H'=>∃d G',ae fo fi aT ρ= .ok d∧Ext G H G' H'∧Rep X.K G' d v):=λ{ks ds kd a N} ed ev rd hk rl p2=>by
  rw[ed]at P;unfold k9 at P;cases ek:gY kd with
  |none=>rw[ek]at P;exact P.elim
  |some k=>
  rw[ek]at P;dsimp only at P;cases eq:sJ ks ds k with
  |none=>rw[eq]at P;exact P.elim
  |some d=>
  rw[rep_tup]at p2;obtain⟨b,xs,rfl,tb,rk⟩:=p2;subst hk;obtain⟨v,ev',rv⟩:=(uD (q:=k) rl).1 d eq;have hx:=jW rk ek;subst hx;refine⟨a,v,ev,.inr ⟨N,k,b,(x2.gg.trans x2.gh).rd rd,rfl,x2.gh _ _ tb.h,ev'.symm⟩,d,G2,?_,x1.trans x2,rv.mono x2.gg⟩;rw[eo,ed];unfold k9;rw[ek];dsimp only;rw[eq]
 cases d1 with
 |dct ks ds=>
  cases d2 with
  |tup kd=>
   rw[rep_dct]at p1;obtain⟨a,N,e,rd,hk,rl⟩:=p1;exact go rfl e rd hk rl p2
  |_=>exact P.elim
 |fdc ks ds=>
  cases d2 with
  |tup kd=>
   rw[rep_fdc]at p1;obtain⟨a,o,N,e,rd,hk,rl⟩:=p1;exact go rfl e (.inr ⟨o,rd⟩) hk rl p2
  |_=>exact P.elim
 |_=>exact P.elim
end
section
variable{X:Cx}{E:XK}
def yH:D→D→Res D
 |.str a,.str b=>if aQ (a.length+b.length)=true then .ok (.str (a ++ b)) else .bad
 |_,_=>.bad
def do_addS:DOp X E (binaryOp .Add) yH:=DOp.of vn λG H x y dx dy hs rx ry ok=>by
 unfold yH at ok ⊢;split at ok
 ·rename_i a b;rw[rep_str]at rx ry;subst rx ry;by_cases hz:aQ (a.length+b.length)=true
  ·rw[Yo hz];exact⟨a,b,rfl,rfl,bK hz,_,G,rfl,.refl hs,rep_str.mpr rfl⟩
  ·rw[Ym hz]at ok;exact ok.elim
 ·exact ok.elim
def l7:D→D→Res D
 |.lst a,.lst b=>if aQ (a.length+b.length)=true then .ok (.lst (a ++ b)) else .bad
 |_,_=>.bad
def DX:DOp X E (binaryOp .Add) l7:=DOp.of zQ λG H x y dx dy hs rx ry ok=>by
 unfold l7 at ok ⊢;split at ok
 ·rename_i a b;rw[rep_lst]at rx ry;obtain⟨p,xs,rfl,l1,r1⟩:=rx;obtain⟨q,ys,rfl,l2,r2⟩:=ry;by_cases hz:aQ (a.length+b.length)=true
  ·rw[Yo hz];refine⟨p,q,xs,ys,rfl,rfl,hs _ _ l1.h,hs _ _ l2.h,by rw[←r1.length,←r2.length];exact bK hz,λt ht=>⟨_,_,rfl,.new hs ht _,?_⟩⟩;exact rep_lst.mpr ⟨t,_,rfl,.of au,(r1.append r2).mono (Ext.new hs ht _).gg⟩
  ·rw[Ym hz]at ok;exact ok.elim
 ·exact ok.elim
theorem RepL.flat {K:Z8}{G:Hp}{ds:Zy}{vs:Zu}(h:RepL K G ds vs):∀n:Nat,RepL K G (replicate n ds).flatten (replicate n vs).flatten
 |0=>.nil
 |n+1=>by rw[replicate_succ,replicate_succ,flatten_cons,flatten_cons];exact h.append (RepL.flat h n)
def Fr:D→D→Res D
 |.lst a,.int k=>if (decide (-1000000≤k)&&decide (k≤1000000)&&aQ (a.length*k.toNat))=true then .ok (.lst (replicate k.toNat a).flatten) else .bad
 |_,_=>.bad
def DZ:DOp X E (binaryOp .Mult) Fr:=DOp.of EX λG H x y dx dy hs rx ry ok=>by
 unfold Fr at ok ⊢;split at ok
 ·rename_i a k;rw[rep_lst]at rx;rw[rep_int]at ry;subst ry;obtain⟨p,xs,rfl,l1,r1⟩:=rx;by_cases hz:(decide (-1000000≤k)&&decide (k≤1000000)&&aQ (a.length*k.toNat))=true
  ·rw[Yo hz];simp only[and_eq_true,decide_eq_true_eq]at hz;refine⟨p,k,xs,rfl,rfl,hs _ _ l1.h,by omega,by omega,by rw[←r1.length];exact bK hz.2,λt ht=>⟨_,_,rfl,.new hs ht _,?_⟩⟩;exact rep_lst.mpr ⟨t,_,rfl,.of au,(r1.flat _).mono (Ext.new hs ht _).gg⟩
  ·rw[Ym hz]at ok;exact ok.elim
 ·exact ok.elim
def Du (g1 g2:Y5)(a b:D):Res D:=match g1 a b with
 |.bad=>g2 a b
 |r=>r
def DOp.or {f:Value→Value→Sem Value}{g1 g2:Y5}(h1:DOp X E f g1)(h2:DOp X E f g2):DOp X E f (Du g1 g2):=by
 intro o s σ G H x y dx dy v u I hs rx ry rv ru ok;unfold Du at ok ⊢;cases q:g1 dx dy with
 |bad=>
  rw[q]at ok;exact h2 o s σ G H x y dx dy v u I hs rx ry rv ru ok
 |ok d=>
  rw[q]at ok;have:=h1 o s σ G H x y dx dy v u I hs rx ry rv ru (by rw[q];exact ok);rw[q]at this;exact this
 |exc c=>
  rw[q]at ok;have:=h1 o s σ G H x y dx dy v u I hs rx ry rv ru (by rw[q];exact ok);rw[q]at this;exact this
def aW:D→D→Res D:=Du yG (Du yH l7)
def gk:D→D→Res D:=Du xZ Fr
def aE:DOp X E (binaryOp .Add) aW:=do_add.or (do_addS.or DX)
def cP:DOp X E (binaryOp .Mult) gk:=do_mul.or DZ
def oq {i j:Int}:aW (.int i) (.int j)= .ok (.int (i+j)):=id rfl
def tB {a b:Zy}(h:aQ (a.length+b.length)=true):aW (.lst a) (.lst b)= .ok (.lst (a ++ b)):=by
 show l7 (.lst a) (.lst b)=_;exact Yo h
end
section
variable{X:Cx}{E:XK}{tg:Expr}
end
section
variable{X:Cx}{E:XK}
end
section
variable{X:Cx}{E:XK}
end
section
variable{X:Cx}{E:XK}{pins:Z9}{σ:St}{H:Hp}{s:Shared}
end
section
variable{X:Cx}{E:XK}{pins:Z9}{σ:St}{H:Hp}{s:Shared}
end
section
variable{X:Cx}{CX:sO}{k:Nat}{f C:Z2}{fd:Y7}{ps:Zw}{sp:Sp}{dvs:Zu}{ds:Z0}{E:XK}
def Fu {pins:Z9}{σ:St}{H:Hp}{s:Z3}{Q:VK}{us:Z0}{vs:Zu}(F:FnOk X.prog X.w X.K X.mg X.base CX k f fd ps sp)(hr:Room k X.A)(hb:Binds X.K fd ps ds)(hd:Vals dvs ds)(I:Inv X pins σ H s) (hx:∀e t,CX X.stack H s E e t→X.xe e t) (r:Vals vs us) (h:sp (vs ++ dvs) H Q E):wpAny (model X.prog X.w) X.A (call (.ref f) us) (EP X pins σ Q) X.xe s:=by
 have r2:Vals (vs ++ dvs) (us ++ ds):=r.append hd;have hl:(us ++ ds).length=ps.length:=by rw[←r2.length];exact F.len _ _ _ _ h
 refine wpAny_call (codeAny_mono (F.run X.A X.stack s H ⟨us,[]⟩ (us ++ ds) (vs ++ dvs) Q E hr I.env0 (hb s us I.kIn hl) r2 h) λr t hq=>?_);cases r with
 |error e=>exact hx e t hq
 |ok fl=>
  cases fl with
  |ret u=>exact I.after hq
  |next=>exact False.elim hq
  |brk=>exact False.elim hq
  |cont=>exact False.elim hq
end
end L2
namespace TX
open PySem PySem.Builtin PySem.Builtin.Str PySem.StrLaws
end TX
namespace L2
open PySem PySem.Spec PyProof.Rows
section
variable{X:Cx}{E:XK}
end
end L2
namespace PySem
open Sem (wp)
end PySem
namespace L2
open PySem PySem.Spec PyProof.Rows
section
variable{X:Cx}{E:XK}{e:Y3}{f:Z7}{p pos:Pos}
def wB {g:Zr}:bb (λρ=>(f ρ).bind λd=>(Res.ok []:Res (List D)).bind λds=>.ok (d::ds)) g=λρ=>(f ρ).bind λa=>g [a]:=funext λρ=>by
 show ((f ρ).bind _).bind _=_;cases f ρ <;> rfl
def D6 {a b:Yr}:Bt (.str a) (.str b)= .ok (.bl (a==b)):=id rfl
def El {a b:Yr}:lX (.str a) (.str b)= .ok (.bl (!(a==b))):=id rfl
end
mutual
def flat:D→Bool
 |.lst _=>false
 |.dct _ _=>false
 |.fdc _ _=>false
 |.scr _=>false
 |.tup l=>flats l
 |.ins _ _ l=>flats l
 |_=>true
def flats:List D→Bool
 | []=>true
 |d::ds=>flat d&&flats ds
end
theorem gb:∀(ns:List Int),flats (ns.map D.int)=true
 | []=>by unfold flats;rfl
 |n::ns=>by rw[map_cons];unfold flats;rw[gb ns];unfold flat;rfl
def isCell (S:Y4)(o:HO):Prop:=(∃xs,o= .lst xs)∨(∃kvs,o= .dT kvs)∨∃xs b,o= .tup xs∧V.ref b∈xs∧S b
def isCell.mono {S T:Y4}{o:HO}(k:∀a,S a→T a)(h:isCell S o):isCell T o:=h.imp id (Or.imp id λhZ155=>(by obtain⟨xs,b,e,m,s⟩:=hZ155;exact⟨xs,b,e,m,k b s⟩))
def isCell.nokey {S:Y4}{o:HO}(h:isCell S o):¬oG o:=by
 intro hZ14;obtain⟨ks,rfl⟩:=hZ14
 rcases h with ⟨xs,e⟩|⟨kvs,e⟩|⟨xs,b,e,m,s⟩
 ·cases e
 ·cases e
 ·cases e;obtain⟨k,_,e⟩:=mem_map.mp m;cases k with
  |inl i=>cases e
  |inr x=>cases e
noncomputable def oB (W:Y4)(G:Hp):Hp:=λb=> @ite _ (W b) (Classical.propDecidable _) none (G b)
def jz {W:Y4}{G:Hp}{o:HO}(h:oB W G b=some o):¬W b∧G b=some o:=by
 unfold oB at h;by_cases q:W b
 ·rw[Yo q]at h;cases h
 ·rw[Ym q]at h;exact⟨q,h⟩
def rF {W:Y4}{G:Hp}{o:HO}(h1:¬W b)(h2:G b=some o):oB W G b=some o:=by
 unfold oB;rw[Ym h1];exact h2
def Ev {W:Y4}{G:Hp}(h1:W b):oB W G b=none:=by
 unfold oB;rw[Yo h1]
mutual
theorem Rep.nocell {K:Z8}{G:Hp}{W:Y4}(hl:∀b o,W b→G b=some o→isCell W o):∀{d:D} {v:V},L2.flat d=true→Rep K G d v→∀a,v= .ref a→¬W a
 |.non,_,_,h,a,e=>by unfold Rep at h;subst h;cases e
 |.bl _,_,_,h,a,e=>by unfold Rep at h;subst h;cases e
 |.int _,_,_,h,a,e=>by unfold Rep at h;subst h;cases e
 |.str _,_,_,h,a,e=>by unfold Rep at h;subst h;cases e
 |.lst ds,_,ha,_,_,_=>by unfold L2.flat at ha;cases ha
 |.dct _ _,_,ha,_,_,_=>by unfold L2.flat at ha;cases ha
 |.fdc _ _,_,ha,_,_,_=>by unfold L2.flat at ha;cases ha
 |.scr _,_,ha,_,_,_=>by unfold L2.flat at ha;cases ha
 |.tup ds,_,ha,h,a,e=>λw=>by
  unfold Rep at h;unfold L2.flat at ha;obtain⟨a',ys,r,s,t⟩:=h;subst r;cases e
  rcases hl a _ w s.h with ⟨vs,z⟩|⟨vs,z⟩|⟨vs,b,z,m,wb⟩
  ·cases z
  ·cases z
  ·cases z;exact RepL.nocell hl ha t (.ref b) m b rfl wb
 |.ins _ _ ds,_,ha,h,a,e=>λw=>by
  unfold Rep at h;obtain⟨a',dx,fs,r,s,n,t⟩:=h;subst r;cases e
  rcases hl a _ w s with ⟨vs,z⟩|⟨vs,z⟩|⟨vs,b,z,m,wb⟩ <;> cases z
 |.xc _,_,_,h,a,e=>λw=>by
  unfold Rep at h;obtain⟨a',r,s,_⟩:=h;subst r;cases e
  rcases hl a _ w s with ⟨vs,z⟩|⟨vs,z⟩|⟨vs,b,z,m,wb⟩ <;> cases z
theorem RepL.nocell {K:Z8}{G:Hp}{W:Y4}(hl:∀b o,W b→G b=some o→isCell W o):∀{ds:Zy} {vs:List V},flats ds=true→RepL K G ds vs→∀v∈vs,∀a,v= .ref a→¬W a
 | [],_,_,h,v,m=>by unfold RepL at h;subst h;cases m
 |_::_,_,ha,h,v,m=>by
  unfold RepL at h;unfold flats at ha;rw[and_eq_true]at ha;obtain⟨w,r,q,a,b⟩:=h;subst q
  rcases mem_cons.mp m with z|z
  ·subst z;exact Rep.nocell hl ha.1 a
  ·exact RepL.nocell hl ha.2 b v z
end
mutual
theorem Rep.lfree {K:Z8}{G:Hp}{W:Y4}(hl:∀b o,W b→G b=some o→isCell W o):∀{d:D} {v:V},L2.flat d=true→Rep K G d v→Rep K (oB W G) d v
 |.non,_,_,h=>by unfold Rep at h ⊢;exact h
 |.bl _,_,_,h=>by unfold Rep at h ⊢;exact h
 |.int _,_,_,h=>by unfold Rep at h ⊢;exact h
 |.str _,_,_,h=>by unfold Rep at h ⊢;exact h
 |.lst ds,_,ha,h=>by unfold L2.flat at ha;cases ha
 |.dct _ _,_,ha,h=>by unfold L2.flat at ha;cases ha
 |.fdc _ _,_,ha,h=>by unfold L2.flat at ha;cases ha
 |.scr _,_,ha,h=>by unfold L2.flat at ha;cases ha
 |.tup ds,v,ha,h=>by
  have nc:=Rep.nocell hl ha h;unfold Rep at h ⊢;unfold L2.flat at ha;obtain⟨a,ys,r,s,t⟩:=h;exact⟨a,ys,r,⟨rF (nc a r) s.h⟩,RepL.lfree hl ha t⟩
 |.ins _ _ ds,v,ha,h=>by
  have nc:=Rep.nocell hl ha h;unfold Rep at h ⊢;unfold L2.flat at ha;obtain⟨a,dx,fs,r,s,n,t⟩:=h;exact⟨a,dx,fs,r,rF (nc a r) s,n,RepL.lfree hl ha t⟩
 |.xc _,v,ha,h=>by
  have nc:=Rep.nocell hl ha h;unfold Rep at h ⊢;obtain⟨a,r,s,k⟩:=h;exact⟨a,r,rF (nc a r) s,k⟩
theorem RepL.lfree {K:Z8}{G:Hp}{W:Y4}(hl:∀b o,W b→G b=some o→isCell W o):∀{ds:Zy} {vs:List V},flats ds=true→RepL K G ds vs→RepL K (oB W G) ds vs
 | [],_,_,h=>by unfold RepL at h ⊢;exact h
 |_::_,_,ha,h=>by
  unfold RepL at h ⊢;unfold flats at ha;rw[and_eq_true]at ha;obtain⟨v,r,q,a,b⟩:=h;exact⟨v,r,q,Rep.lfree hl ha.1 a,RepL.lfree hl ha.2 b⟩
end
def AllW (P:Zf):List D→List V→List Addr→Prop
 | [],vs,S=>vs=[]∧S=[]
 |d::ds,vs,S=>∃v r A B,vs=v::r∧S=A ++ B∧P d v A∧AllW P ds r B
def Ow (K:Z8)(G H:Hp):Nat→D→V→List Addr→Prop
 |0,d,v,S=>S=[]∧Rep K G d v
 |n+1,.lst ds,v,S=>∃a xs T,v= .ref a∧H a=some (.lst xs)∧S=a::T∧AllW (Ow K G H n) ds xs T
 |n+1,.dct ks ds,v,S=>∃a kvs T,v= .ref a∧H a=some (.dT kvs)∧kvs.map (·.1)=ks∧S=a::T∧AllW (Ow K G H n) ds (kvs.map (·.2)) T
 |n+1,.tup ds,v,S=>(L2.flat (.tup ds)=true∧S=[]∧Rep K G (.tup ds) v)∨∃a xs T,v= .ref a∧H a=some (.tup xs)∧S=a::T∧T≠[]∧AllW (Ow K G H n) ds xs T
 |_+1,d,v,S=>L2.flat d=true∧S=[]∧Rep K G d v
def bW:Nat→D→Bool
 |0,d=>L2.flat d
 |n+1,.lst ds=>ds.all (bW n)
 |n+1,.dct _ ds=>ds.all (bW n)
 |n+1,.tup ds=>L2.flat (.tup ds)||ds.all (bW n)
 |_+1,d=>L2.flat d
theorem jU:∀{ds:List D},flats ds=true→∀{d:D},d∈ds→L2.flat d=true
 | [],_,_,m=>by cases m
 |d0::ds,h,d,m=>by
  unfold flats at h;rw[and_eq_true]at h
  rcases mem_cons.mp m with z|z
  ·subst z;exact h.1
  ·exact jU h.2 z
theorem jZ {d:D}(h:L2.flat d=true):∀{n:Nat},bW n d=true
 |0=>h
 |n+1=>by
  cases d with
  |lst ds=>unfold L2.flat at h;cases h
  |dct ks ds=>unfold L2.flat at h;cases h
  |tup ds=>unfold bW;rw[h];rfl
  |_=>unfold bW;exact h
section
variable{K:Z8}{G H G' H':Hp}
theorem AllW.mono {P Q:Zf}:∀{ds:Zy} {vs:Zu} {S:List Addr},(∀d v A,d∈ds→(∀a∈A,a∈S)→P d v A→Q d v A)→AllW P ds vs S→AllW Q ds vs S
 | [],_,_,_,h=>h
 |d::ds,_,_,k,h=>by
  obtain⟨v,r,A,B,e1,e2,h1,h2⟩:=h;subst e2;exact⟨v,r,A,B,e1,rfl,k d v A (mem_cons_self ..) (λa ha=>mem_append_left _ ha) h1,AllW.mono (λd' v' A' hd ha=>k d' v' A' (dk hd) λa h=>mem_append_right _ (ha a h)) h2⟩
theorem AllW.length {P:Zf}:∀{ds:Zy} {vs:Zu} {S:List Addr},AllW P ds vs S→ds.length=vs.length
 | [],_,_,h=>by rw[h.1];rfl
 |d::ds,_,_,h=>by
  obtain⟨v,r,A,B,e1,e2,h1,h2⟩:=h;subst e1;rw[length_cons,length_cons,AllW.length h2]
theorem AllW.append {P:Zf}:∀{ds es:Zy} {vs ws:Zu} {S T:List Addr},AllW P ds vs S→AllW P es ws T→AllW P (ds ++ es) (vs ++ ws) (S ++ T)
 | [],_,_,_,_,_,h,h'=>by rw[h.1,h.2];exact h'
 |d::ds,_,_,_,_,_,h,h'=>by
  obtain⟨v,r,A,B,e1,e2,h1,h2⟩:=h;subst e1 e2;exact⟨v,_,A,_,rfl,append_assoc ..,h1,AllW.append h2 h'⟩
def AllW.one {P:Zf}{d:D}{v:V}{S:Zt}(h:P d v S):AllW P [d] [v] S:=⟨v,[],S,[],rfl,(append_nil _).symm,h,rfl,rfl⟩
theorem AllW.at {P:Zf}:∀{ds:Zy} {vs:Zu} {S:Zt} {i:Nat} {d:D},AllW P ds vs S→ds[i]?=some d→
  ∃v A L R,vs[i]?=some v∧S=L ++ A ++ R∧P d v A∧(∀Q:D→V→List Addr→Prop,(∀d v B,(∀b∈B,b∈L∨b∈R)→P d v B→Q d v B)→∀d' v' A',Q d' v' A'→AllW Q (ds.set i d') (vs.set i v') (L ++ A' ++ R))
 | [],_,_,_,_,_,e=>by simp at e
 |d0::ds,_,_,0,d,h,e=>by
  obtain⟨v,r,A,B,e1,e2,h1,h2⟩:=h;subst e1 e2;simp at e;subst e;refine⟨v,A,[],B,rfl,by simp,h1,λQ k d' v' A' hq=>⟨v',r,A',B,rfl,by simp,hq,AllW.mono (λd v B' _ hb hp=>k d v B' (λb hb'=>.inr (hb b hb')) hp) h2⟩⟩
 |d0::ds,_,_,i+1,d,h,e=>by
  obtain⟨v,r,A,B,e1,e2,h1,h2⟩:=h;subst e1 e2;obtain⟨w,A2,L,R,g1,g2,g3,g4⟩:=AllW.at (i:=i) h2 (by simpa using e);refine⟨w,A2,A ++ L,R,by simpa using g1,by rw[g2];simp only[append_assoc],g3,λQ k d' v' A' hq=>⟨v,r.set i v',A,L ++ A' ++ R,rfl,by simp only[append_assoc],k d0 v A (λb hb=>.inl (mem_append_left _ hb)) h1,g4 Q (λd v B hb hp=>k d v B (λb hb'=>(hb b hb').imp (mem_append_right _) id) hp) d' v' A' hq⟩⟩
theorem Ow.mono (sg:Same G G'):∀{n:Nat} {d:D} {v:V} {S:List Addr},(∀a∈S,∀o,H a=some o→H' a=some o)→Ow K G H n d v S→Ow K G' H' n d v S
 |0,_,_,_,_,h=>⟨h.1,h.2.mono sg⟩
 |n+1,d,_,_,k,h=>by
  cases d with
  |lst ds=>
   obtain⟨a,xs,T,e1,e2,e3,h1⟩:=h;subst e3;exact⟨a,xs,T,e1,k a (mem_cons_self ..) _ e2,rfl,h1.mono λd v A _ hA=>Ow.mono sg λb hb o e=>k b (dk (hA b hb)) o e⟩
  |dct ks ds=>
   obtain⟨a,xs,T,e1,e2,e4,e3,h1⟩:=h;subst e3;exact⟨a,xs,T,e1,k a (mem_cons_self ..) _ e2,e4,rfl,h1.mono λd v A _ hA=>Ow.mono sg λb hb o e=>k b (dk (hA b hb)) o e⟩
  |tup ds=>
   rcases h with h|⟨a,xs,T,e1,e2,e3,e5,h1⟩
   ·exact .inl ⟨h.1,h.2.1,h.2.2.mono sg⟩
   ·subst e3;exact .inr ⟨a,xs,T,e1,k a (mem_cons_self ..) _ e2,rfl,e5,h1.mono λd v A _ hA=>Ow.mono sg λb hb o e=>k b (dk (hA b hb)) o e⟩
  |_=>exact⟨h.1,h.2.1,h.2.2.mono sg⟩
theorem AllW.rep {P:Zf}{V':Hp}:∀{ds:Zy} {vs:Zu} {S:List Addr},(∀d v A,(∀a∈A,a∈S)→P d v A→Rep K V' d v)→AllW P ds vs S→RepL K V' ds vs
 | [],_,_,_,h=>by rw[h.1];exact .nil
 |d::ds,_,_,k,h=>by
  obtain⟨v,r,A,B,e1,e2,h1,h2⟩:=h;subst e1 e2;exact .cons (k d v A (λa ha=>mem_append_left _ ha) h1) (AllW.rep (λd' v' A' ha=>k d' v' A' λa h=>mem_append_right _ (ha a h)) h2)
theorem Ow.rep {V':Hp}(sg:Same G V'):∀{n:Nat} {d:D} {v:V} {S:List Addr},(∀a∈S,∀o,H a=some o→V' a=some o)→Ow K G H n d v S→Rep K V' d v
 |0,_,_,_,_,h=>h.2.mono sg
 |n+1,d,_,_,k,h=>by
  cases d with
  |lst ds=>
   obtain⟨a,xs,T,e1,e2,e3,h1⟩:=h;subst e3;exact rep_lst.mpr ⟨a,xs,e1,.of (k a (mem_cons_self ..) _ e2),h1.rep λd v A hA=>Ow.rep sg λb hb o e=>k b (dk (hA b hb)) o e⟩
  |dct ks ds=>
   obtain⟨a,xs,T,e1,e2,e4,e3,h1⟩:=h;subst e3;exact rep_dct.mpr ⟨a,xs,e1,.inl (k a (mem_cons_self ..) _ e2),e4,h1.rep λd v A hA=>Ow.rep sg λb hb o e=>k b (dk (hA b hb)) o e⟩
  |tup ds=>
   rcases h with h|⟨a,xs,T,e1,e2,e3,e5,h1⟩
   ·exact h.2.2.mono sg
   ·subst e3;exact rep_tup.mpr ⟨a,xs,e1,.of (k a (mem_cons_self ..) _ e2),h1.rep λd v A hA=>Ow.rep sg λb hb o e=>k b (dk (hA b hb)) o e⟩
  |_=>exact h.2.2.mono sg
theorem AllW.cell {P:Zf}{C:Y4}:∀{ds:Zy} {vs:Zu} {S:List Addr},(∀d v A,P d v A→∀a∈A,C a)→AllW P ds vs S→∀a∈S,C a
 | [],_,_,_,h,a,ha=>by rw[h.2]at ha;cases ha
 |d::ds,_,_,k,h,a,ha=>by
  obtain⟨v,r,A,B,e1,e2,h1,h2⟩:=h;subst e2
  rcases mem_append.mp ha with z|z
  ·exact k d v A h1 a z
  ·exact AllW.cell k h2 a z
theorem AllW.hasC {P:Zf}(hP:∀d v A,P d v A→A≠[]→∃b,v= .ref b∧b∈A):∀{ds:Zy} {vs:Zu} {S:List Addr},AllW P ds vs S→S≠[]→∃b,V.ref b∈vs∧b∈S
 | [],_,_,h,n=>absurd h.2 n
 |d::ds,_,_,h,n=>by
  obtain⟨v,r,A,B,e1,e2,h1,h2⟩:=h;subst e1 e2;by_cases z:A=[]
  ·obtain⟨b,hb,hb'⟩:=AllW.hasC hP h2 (λy=>n (by rw[z,y];rfl));exact⟨b,dk hb,mem_append_right _ hb'⟩
  ·obtain⟨b,e,hb⟩:=hP d v A h1 z;exact⟨b,by rw[e];exact mem_cons_self ..,mem_append_left _ hb⟩
theorem Ow.head:∀{n:Nat} {d:D} {v:V} {S:List Addr},Ow K G H n d v S→S≠[]→∃b,v= .ref b∧b∈S
 |0,_,_,_,h,n=>absurd h.1 n
 |n+1,d,_,_,h,hn=>by
  cases d with
  |lst ds=>obtain⟨a,xs,T,e1,e2,e3,h1⟩:=h;exact⟨a,e1,by rw[e3];exact mem_cons_self ..⟩
  |dct ks ds=>obtain⟨a,xs,T,e1,e2,e4,e3,h1⟩:=h;exact⟨a,e1,by rw[e3];exact mem_cons_self ..⟩
  |tup ds=>
   rcases h with h|⟨a,xs,T,e1,e2,e3,e5,h1⟩
   ·exact absurd h.2.1 hn
   ·exact⟨a,e1,by rw[e3];exact mem_cons_self ..⟩
  |_=>exact absurd h.2.1 hn
theorem AllW.cell2 {P:Zf}{C:(Addr→Prop)→Addr→Prop}(mo:∀S T a,(∀b,S b→T b)→C S a→C T a):∀{ds:Zy} {vs:Zu} {S:List Addr},(∀d v A,P d v A→∀a∈A,C (· ∈A) a)→AllW P ds vs S→∀a∈S,C (· ∈S) a
 | [],_,_,_,h,a,ha=>by rw[h.2]at ha;cases ha
 |d::ds,_,_,k,h,a,ha=>by
  obtain⟨v,r,A,B,e1,e2,h1,h2⟩:=h;subst e2
  rcases mem_append.mp ha with z|z
  ·exact mo _ _ a (λb hb=>mem_append_left _ hb) (k d v A h1 a z)
  ·exact mo _ _ a (λb hb=>mem_append_right _ hb) (AllW.cell2 mo k h2 a z)
theorem Ow.cell:∀{n:Nat} {d:D} {v:V} {S:List Addr},Ow K G H n d v S→∀a∈S,∃o,H a=some o∧isCell (· ∈S) o
 |0,_,_,_,h,a,ha=>by rw[h.1]at ha;cases ha
 |n+1,d,_,_,h,b,hb=>by
  have mo:∀(S T:Y4) (a:Addr),(∀b,S b→T b)→(∃o,H a=some o∧isCell S o)→∃o,H a=some o∧isCell T o:=λS T a k hZ156=>(by obtain⟨o,e,c⟩:=hZ156;exact⟨o,e,c.mono k⟩);have up:∀{x:Z2} {T:List Addr},(∃o,H b=some o∧isCell (· ∈T) o)→∃o,H b=some o∧isCell (· ∈x::T) o:=λhZ157=>(by obtain⟨o,e,c⟩:=hZ157;exact⟨o,e,c.mono λa ha=>dk ha⟩);cases d with
  |lst ds=>
   obtain⟨a,xs,T,e1,e2,e3,h1⟩:=h;subst e3
   rcases mem_cons.mp hb with z|z
   ·subst z;exact⟨_,e2,.inl ⟨xs,rfl⟩⟩
   ·exact up (h1.cell2 (C:=λS a=>∃o,H a=some o∧isCell S o) mo (λ_ _ _ q=>Ow.cell q) b z)
  |dct ks ds=>
   obtain⟨a,xs,T,e1,e2,e4,e3,h1⟩:=h;subst e3
   rcases mem_cons.mp hb with z|z
   ·subst z;exact⟨_,e2,.inr (.inl ⟨xs,rfl⟩)⟩
   ·exact up (h1.cell2 (C:=λS a=>∃o,H a=some o∧isCell S o) mo (λ_ _ _ q=>Ow.cell q) b z)
  |tup ds=>
   rcases h with h|⟨a,xs,T,e1,e2,e3,e5,h1⟩
   ·rw[h.2.1]at hb;cases hb
   ·subst e3
    rcases mem_cons.mp hb with z|z
    ·subst z;obtain⟨c,hc,hc'⟩:=h1.hasC (λ_ _ _ q=>Ow.head q) e5;exact⟨_,e2,.inr (.inr ⟨xs,c,rfl,hc,dk hc'⟩)⟩
    ·exact up (h1.cell2 (C:=λS a=>∃o,H a=some o∧isCell S o) mo (λ_ _ _ q=>Ow.cell q) b z)
  |_=>rw[h.2.1]at hb;cases hb
theorem Ow.hide {W:Y4}(hl:∀b o,W b→G b=some o→isCell W o):∀{n:Nat} {d:D} {v:V} {S:List Addr},bW n d=true→Ow K G H n d v S→Ow K (oB W G) H n d v S
 |0,_,_,_,hf,h=>⟨h.1,Rep.lfree hl hf h.2⟩
 |n+1,d,_,_,hf,h=>by
  cases d with
  |lst ds=>
   obtain⟨a,xs,T,e1,e2,e3,h1⟩:=h;unfold bW at hf;exact⟨a,xs,T,e1,e2,e3,h1.mono λd v A hd _=>Ow.hide hl (all_eq_true.mp hf d hd)⟩
  |dct ks ds=>
   obtain⟨a,xs,T,e1,e2,e4,e3,h1⟩:=h;unfold bW at hf;exact⟨a,xs,T,e1,e2,e4,e3,h1.mono λd v A hd _=>Ow.hide hl (all_eq_true.mp hf d hd)⟩
  |tup ds=>
   rcases h with h|⟨a,xs,T,e1,e2,e3,e5,h1⟩
   ·exact .inl ⟨h.1,h.2.1,Rep.lfree hl h.1 h.2.2⟩
   ·refine .inr ⟨a,xs,T,e1,e2,e3,e5,h1.mono λd v A hd _=>Ow.hide hl ?_⟩;unfold bW at hf;rw[or_eq_true]at hf
    rcases hf with z|z
    ·unfold L2.flat at z;exact jZ (jU z hd)
    ·exact all_eq_true.mp z d hd
  |_=>exact⟨h.1,h.2.1,Rep.lfree hl h.1 h.2.2⟩
end
def pF (fp:Zh)(a:Z2):Prop:=∃i,a∈fp i
noncomputable def nQ (fp:Zh)(G H:Hp):Hp:=λb=> @ite _ (pF fp b) (Classical.propDecidable _) (H b) (G b)
structure Rw (K:Z8)(μ:Zz)(Ge B G H:Hp)(σ:St)(ρ:DS)(fp:Zh):Prop where
 gh:Same G H
 eg:Same Ge G
 bh:Same B H
 nw:∀b o,G b=some o→Ge b=some o∨B b=none∨oG o
 gf:∀i a,a∈fp i→G a=none
 ob:∀i a,a∈fp i→B a=none
 oc:∀i a,a∈fp i→∃o,H a=some o∧isCell (· ∈fp i) o
 nd:∀i,(fp i).Nodup
 dj:∀i j a,a∈fp i→a∈fp j→i=j
 sl:∀i d,ρ[i]?=some (some d)→∃v,σ[i]?=some (some v)∧Ow K G H (μ.getD i 0) d v (fp i)
section
variable{K:Z8}{μ:Zz}{Ge B G H G' H':Hp}{σ:St}{ρ:DS}{fp:Nat→List Addr}
def A1 (h:pF fp b):nQ fp G H b=H b:=by unfold nQ;rw[Yo h]
def nR (h:¬pF fp b):nQ fp G H b=G b:=by unfold nQ;rw[Ym h]
def Rw.vh (R:Rw K μ Ge B G H σ ρ fp):Same (nQ fp G H) H:=λb o e=>by
 by_cases q:pF fp b
 ·rw[A1 q]at e;exact e
 ·rw[nR q]at e;exact R.gh b o e
def Rw.gv (R:Rw K μ Ge B G H σ ρ fp):Same G (nQ fp G H):=λb o e=>by
 by_cases q:pF fp b
 ·obtain⟨i,hi⟩:=q;rw[R.gf i b hi]at e;cases e
 ·rw[nR q];exact e
def Rw.ro (R:Rw K μ Ge B G H σ ρ fp):Ro K (nQ fp G H) σ ρ:=λi d e=>by
 obtain⟨v,hv,h⟩:=R.sl i d e;exact⟨v,hv,h.rep R.gv λa ha o eo=>by rw[A1 ⟨i,ha⟩];exact eo⟩
def gX (μ:Zz)(ρ:DS):DS:=ρ.mapIdx λi o=>if μ.getD i 0=0 then o else none
def Rw.rof (R:Rw K μ Ge B G H σ ρ fp):Ro K G σ (gX μ ρ):=λi d e=>by
 unfold gX at e;rw[List.getElem?_mapIdx]at e;cases q:ρ[i]? with
 |none=>rw[q]at e;cases e
 |some o=>
  rw[q]at e;simp only[map_some,Option.some.injEq]at e;by_cases m:μ.getD i 0=0
  ·rw[Yo m]at e;subst e;obtain⟨v,hv,h⟩:=R.sl i d q;rw[m]at h;exact⟨v,hv,h.2⟩
  ·rw[Ym m]at e;cases e
def Rw.gg (R:Rw K μ Ge B G H σ ρ fp)(x:Ext (nQ fp G H) H G' H'):Same G (oB (pF fp) G'):=λb o e=>by
 by_cases q:pF fp b
 ·obtain⟨i,hi⟩:=q;rw[R.gf i b hi]at e;cases e
 ·exact rF q (x.gg b o (R.gv b o e))
def Rw.grow (R:Rw K μ Ge B G H σ ρ fp)(x:Ext (nQ fp G H) H G' H'):Rw K μ Ge B (oB (pF fp) G') H' σ ρ fp:=by
 refine⟨λb o e=>x.gh b o (jz e).2,R.eg.trans (R.gg x),R.bh.trans x.hh,λb o e=>?_,λi a e=>Ev ⟨i,e⟩,R.ob,λi a e=>?_,R.nd,R.dj,λi d e=>?_⟩
 ·obtain⟨n,e1⟩:=jz e
  rcases x.nw b o e1 with z|z
  ·rw[nR n]at z;exact R.nw b o z
  ·exact .inr (z.imp R.bh.free id)
 ·obtain⟨o,h1,h2⟩:=R.oc i a e;exact⟨o,x.hh _ _ h1,h2⟩
 ·obtain⟨v,hv,h⟩:=R.sl i d e;exact⟨v,hv,h.mono (R.gg x) λa _ o ho=>x.hh a o ho⟩
def Rw.growF (R:Rw K μ Ge B G H σ ρ fp)(x:Ext G H G' H'):Rw K μ Ge B G' H' σ ρ fp:=by
 refine⟨x.gh,R.eg.trans x.gg,R.bh.trans x.hh,λb o e=>?_,λi a e=>?_,R.ob,λi a e=>?_,R.nd,R.dj,λi d e=>?_⟩
 ·rcases x.nw b o e with z|z
  ·exact R.nw b o z
  ·exact .inr (z.imp R.bh.free id)
 ·cases z:G' a with
  |none=>rfl
  |some o=>
   rcases x.nw a o z with y|y
   ·rw[R.gf i a e]at y;cases y
   ·obtain⟨o',h,hc⟩:=R.oc i a e
    rcases y with y|y
    ·rw[y]at h;cases h
    ·have h2:=x.gh a o z;rw[x.hh a _ h]at h2;cases h2;exact(hc.nokey y).elim
 ·obtain⟨o,h1,h2⟩:=R.oc i a e;exact⟨o,x.hh _ _ h1,h2⟩
 ·obtain⟨v,hv,h⟩:=R.sl i d e;exact⟨v,hv,h.mono x.gg λa _ o ho=>x.hh a o ho⟩
def Rw.cells (R:Rw K μ Ge B G H σ ρ fp)(x:Ext (nQ fp G H) H G' H'):∀b o,pF fp b→G' b=some o→isCell (pF fp) o:=λb o ⟨i,hi⟩ e=>by
 obtain⟨o',h1,h2⟩:=R.oc i b hi;have h3:=x.gh b o e;rw[x.hh b _ h1]at h3;cases h3;exact h2.mono λa ha=>⟨i,ha⟩
def Rw.put {i:Nat}{d:D}{v:V}{S:Zt}(R:Rw K μ Ge B G H σ ρ fp)(hi:i<σ.length)(h:Ow K G H (μ.getD i 0) d v S)(nd:S.Nodup)(hS:∀a∈S,G a=none∧B a=none)(hd:∀j,j≠i→∀a∈S,a∉fp j):Rw K μ Ge B G H (σ.set i (some v)) (ρ.set i (some d)) (λj=>if j=i then S else fp j):=by
 refine⟨R.gh,R.eg,R.bh,R.nw,λj a e=>?_,λj a e=>?_,λj a e=>?_,λj=>?_,λj k a ej ek=>?_,λj e q=>?_⟩
 ·split at e
  ·exact(hS a e).1
  ·exact R.gf j a e
 ·split at e
  ·exact(hS a e).2
  ·exact R.ob j a e
 ·by_cases hj:j=i
  ·simp only[Yo hj]at e ⊢;exact h.cell a e
  ·simp only[Ym hj]at e ⊢;exact R.oc j a e
 ·split
  ·exact nd
  ·exact R.nd j
 ·skip
  split at ej
  ·rename_i z1;split at ek
   ·rename_i z2;rw[z1,z2]
   ·rename_i z2;exact absurd ek (hd k z2 a ej)
  ·rename_i z1;split at ek
   ·rename_i z2;exact absurd ej (hd j z1 a ek)
   ·exact R.dj j k a ej ek
 ·by_cases hj:j=i
  ·subst hj;rw[List.getElem?_set_self']at q;cases z:ρ[j]? with
   |none=>rw[z]at q;cases q
   |some o=>
    rw[z]at q;cases q;rw[Yo rfl];exact⟨v,getElem?_set_self hi,h⟩
  ·rw[getElem?_set_ne (Ne.symm hj)]at q ⊢;rw[Ym hj];exact R.sl j e q
def Rw.drop {i:Nat}(R:Rw K μ Ge B G H σ ρ fp):Rw K μ Ge B G H σ (ρ.set i none) (λj=>if j=i then [] else fp j):=by
 refine⟨R.gh,R.eg,R.bh,R.nw,λj a e=>?_,λj a e=>?_,λj a e=>?_,λj=>?_,λj k a ej ek=>?_,λj e q=>?_⟩
 ·split at e
  ·cases e
  ·exact R.gf j a e
 ·split at e
  ·cases e
  ·exact R.ob j a e
 ·by_cases hj:j=i
  ·simp only[Yo hj]at e;cases e
  ·simp only[Ym hj]at e ⊢;exact R.oc j a e
 ·split
  ·exact nodup_nil
  ·exact R.nd j
 ·skip
  split at ej
  ·cases ej
  ·split at ek
   ·cases ek
   ·exact R.dj j k a ej ek
 ·by_cases hj:j=i
  ·subst hj;rw[List.getElem?_set_self']at q;cases z:ρ[j]? with
   |none=>rw[z]at q;cases q
   |some o=>rw[z]at q;cases q
  ·rw[getElem?_set_ne (Ne.symm hj)]at q;rw[Ym hj];exact R.sl j e q
def Rw.write {i:Nat}{ob:HO}{d:D}{v:V}{S:Zt}(R:Rw K μ Ge B G H σ ρ fp)(ha:a∈fp i)(hv:σ[i]?=some (some v))(h:Ow K G (bc H a ob) (μ.getD i 0) d v S)(nd:S.Nodup)(hS:∀b∈S,G b=none∧B b=none)(hd:∀j,j≠i→∀b∈S,b∉fp j):Rw K μ Ge B G (bc H a ob) σ (ρ.set i (some d)) (λj=>if j=i then S else fp j):=by
 have nG:∀{b:Z2} {o:HO},G b=some o→b≠a:=λe z=>by rw[z,R.gf i a ha]at e;cases e
 have nB:∀{b:Z2} {o:HO},B b=some o→b≠a:=λe z=>by rw[z,R.ob i a ha]at e;cases e
 have nj:∀{j:Nat} {b:Addr},j≠i→b∈fp j→b≠a:=λQ hb z=>by subst z;exact Q (R.dj _ i _ hb ha)
 refine⟨λb o e=>by rw[am (nG e)];exact R.gh b o e,R.eg,λb o e=>by rw[am (nB e)];exact R.bh b o e,R.nw,λj b e=>?_,λj b e=>?_,λj b e=>?_,λj=>?_,λj k b ej ek=>?_,λj e q=>?_⟩
 ·split at e
  ·exact(hS b e).1
  ·exact R.gf j b e
 ·split at e
  ·exact(hS b e).2
  ·exact R.ob j b e
 ·by_cases Q:j=i
  ·simp only[Yo Q]at e ⊢;exact h.cell b e
  ·simp only[Ym Q]at e ⊢;rw[am (nj Q e)];exact R.oc j b e
 ·split
  ·exact nd
  ·exact R.nd j
 ·skip
  split at ej
  ·rename_i z1;split at ek
   ·rename_i z2;rw[z1,z2]
   ·rename_i z2;exact absurd ek (hd k z2 b ej)
  ·rename_i z1;split at ek
   ·rename_i z2;exact absurd ej (hd j z1 b ek)
   ·exact R.dj j k b ej ek
 ·by_cases Q:j=i
  ·subst Q;rw[List.getElem?_set_self']at q;cases z:ρ[j]? with
   |none=>rw[z]at q;cases q
   |some o=>
    rw[z]at q;cases q;rw[Yo rfl];exact⟨v,hv,h⟩
  ·rw[getElem?_set_ne (Ne.symm Q)]at q;rw[Ym Q];obtain⟨w,hw,hh⟩:=R.sl j e q;exact⟨w,hw,hh.mono (.refl _) λb hb o eo=>by rw[am (nj Q hb)];exact eo⟩
end
def New (H G:Hp)(S:Zt):Prop:=S.Nodup∧∀a∈S,H a=none∧G a=none
def New.nil {H G:Hp}:New H G []:=⟨nodup_nil,λa h=>by cases h⟩
inductive NQ (X:Cx)(pins:Z9)(σ:St)(G H:Hp)(n:Nat)(o:Res D)(u:Zc)(s':Z3):Prop
 |mk (d:D) (e:o= .ok d) (v:V) (G' H':Hp) (S:Zt) (i:Inv X pins σ H' s') (r:RelV v u) (x:Ext G H G' H') (w:Ow X.K G' H' n d v S) (nw:New H G' S)
inductive ZQ (X:Cx)(pins:Z9)(σ:St)(μ:Zz)(Ge B G H:Hp)(ρ:DS)(fp:Zh)(n:Nat)(o:Res D)(u:Zc)(s':Z3):Prop
 |mk (d:D) (e:o= .ok d) (v:V) (G' H':Hp) (S:Zt) (i:Inv X pins σ H' s') (r:RelV v u) (R:Rw X.K μ Ge B G' H' σ ρ fp) (sg:Same G G') (sh:Same H H') (w:Ow X.K G' H' n d v S) (nw:New H G' S)
def PN (X:Cx)(E:XK)(n:Nat)(e:Y3)(f:Z7):Prop:=
 ∀(pins:Z9) (s:Z3) (σ:St) (G H:Hp) (ρ:DS),Inv X pins σ H s→Same G H→Ro X.K G σ ρ→OkR E H (f ρ)→
  wpAny (model X.prog X.w) X.A (eval e X.env) (NQ X pins σ G H n (f ρ)) X.xe s
def Ext.freeze {K:Z8}{G H G' H':Hp}{n:Nat}{d:D}{v:V}{S:Zt}(hs:Same G H)(x:Ext G H G' H')(w:New H G' S)(h:Ow K G' H' n d v S):∃G2,Ext G H G2 H'∧Same G' G2∧Rep K G2 d v:=by
 have dec:∀b,Decidable (b∈S):=λb=>Classical.propDecidable _;refine⟨λb=>if b∈S then H' b else G' b,⟨x.hh,λb o e=>?_,λb o e=>?_,λb o e=>?_⟩,λb o e=>?_,h.rep (λb o e=>?_) λa ha o e=>?_⟩
 ·by_cases q:b∈S
  ·have:=(w.2 b q).1;rw[hs b o e]at this;cases this
  ·show (if b∈S then H' b else G' b)=some o
   rw[Ym q];exact x.gg b o e
 ·have e:(if b∈S then H' b else G' b)=some o:=e
  by_cases q:b∈S
  ·rw[Yo q]at e;exact e
  ·rw[Ym q]at e;exact x.gh b o e
 ·have e:(if b∈S then H' b else G' b)=some o:=e
  by_cases q:b∈S
  ·exact .inr (.inl (w.2 b q).1)
  ·rw[Ym q]at e;exact x.nw b o e
 ·show (if b∈S then H' b else G' b)=some o
  by_cases q:b∈S
  ·rw[(w.2 b q).2]at e;cases e
  ·rw[Ym q];exact e
 ·show (if b∈S then H' b else G' b)=some o
  by_cases q:b∈S
  ·rw[(w.2 b q).2]at e;cases e
  ·rw[Ym q];exact e
 ·show (if a∈S then H' a else G' a)=some o
  rw[Yo ha];exact e
section
variable{X:Cx}{E:XK}{μ:List Nat}
def PN.of {f:Z7}(h:PD X E e f):PN X E 0 e f:=λpins s σ G H ρ I hs hr ho=>
 aV (h pins s σ G H ρ I hs hr ho) λu s' hZ158=>(by obtain⟨d,e,v,G',H',I',rv,x,rp⟩:=hZ158;exact⟨d,e,v,G',H',[],I',rv,x,⟨rfl,rp⟩,.nil⟩)
def PN.pd {n:Nat}{f:Z7}(h:PN X E n e f):PD X E e f:=λpins s σ G H ρ I hs hr ho=>
 aV (h pins s σ G H ρ I hs hr ho) λu s' hZ159=>by
  obtain⟨d,e,v,G',H',S,I',rv,x,o,w⟩:=hZ159;obtain⟨G2,x2,_,rp⟩:=x.freeze hs w o;exact⟨d,e,v,G2,H',I',rv,x2,rp⟩
def PZ (X:Cx)(E:XK)(μ:Zz)(n:Nat)(e:Y3)(f:Z7):Prop:=
 ∀(pins:Z9) (s:Z3) (σ:St) (Ge B G H:Hp) (ρ:DS) (fp:Nat→List Addr),Inv X pins σ H s→Rw X.K μ Ge B G H σ ρ fp→OkR E B (f ρ)→
  wpAny (model X.prog X.w) X.A (eval e X.env) (ZQ X pins σ μ Ge B G H ρ fp n (f ρ)) X.xe s
inductive tZ (K:Z8)(E:XK)(μ:Zz)(n:Nat)(f:Z7)(σ:St)(H:Hp)(Q:VK):Prop
 |mk (Ge B G:Hp) (ρ:DS) (fp:Zh) (R:Rw K μ Ge B G H σ ρ fp) (o:OkR E B (f ρ)) (k:∀d,f ρ= .ok d→∀v G' H' S,Rw K μ Ge B G' H' σ ρ fp→Same G G'→Same H H'→Ow K G' H' n d v S→New H G' S→Q v H')
def sj {n:Nat}{f:Z7}(h:PZ X E μ n e f):PE X e (tZ X.K E μ n f):=by
 intro pins s σ H Q I hZ15;obtain⟨Ge,B,G,ρ,fp,R,ho,k⟩:=hZ15;exact aV (h pins s σ Ge B G H ρ fp I R ho) λu s' hZ160=>(by obtain⟨d,e,v,G',H',S,I',rv,R',sg,sh,o,w⟩:=hZ160;exact⟨v,H',I',rv,k d e v G' H' S R' sg sh o w⟩)
def gN (n:Nat)(f:Z7):DS→Res D:=λρ=>(f ρ).bind λd=>if bW n d=true then .ok d else .bad
def cS {n:Nat}{f:Z7}(h:PN X E n e f):PZ X E μ n e (gN n f):=by
 intro pins s σ Ge B G H ρ fp I R ho;refine aV (h pins s σ (nQ fp G H) H ρ I R.vh R.ro (ho.fst.le R.bh)) λu s' hZ161=>?_;obtain⟨d,e,v,G',H',S,I',rv,x,o,w⟩:=hZ161;have k:=ho.snd e (Same.refl B);by_cases hl:bW n d=true
 ·exact⟨d,aq e (Yo hl),v,oB (pF fp) G',H',S,I',rv,R.grow x,R.gg x,x.hh,o.hide (R.cells x) hl,w.1,λa ha=>⟨(w.2 a ha).1,by
   cases q:oB (pF fp) G' a with
   |none=>rfl
   |some o=>have:=(jz q).2;rw[(w.2 a ha).2]at this;cases this⟩⟩
 ·rw[Ym hl]at k;exact k.elim
def bz (μ:Zz)(f:Z7):DS→Res D:=λρ=>f (gX μ ρ)
def ao {n:Nat}{f:Z7}(h:PN X E n e f):PZ X E μ n e (bz μ f):=by
 intro pins s σ Ge B G H ρ fp I R ho;exact aV (h pins s σ G H (gX μ ρ) I R.gh R.rof (ho.le R.bh)) λu s' hZ162=>(by obtain⟨d,e,v,G',H',S,I',rv,x,o,w⟩:=hZ162;exact⟨d,e,v,G',H',S,I',rv,R.growF x,x.gg,x.hh,o,w⟩)
inductive SMn (X:Cx)(μ:Zz)(Ge B G:Hp)(pins:Z9)(P:DS→Prop)(s':Z3):Prop
 |mk (ρ':DS) (σ':St) (G' H':Hp) (fp':Zh) (e:P ρ') (i:Inv X pins σ' H' s') (R:Rw X.K μ Ge B G' H' σ' ρ' fp') (sg:Same G G')
inductive SMr (X:Cx)(r:Nat)(Ge B:Hp)(pins:Z9)(o:Out)(u:Zc)(s':Z3):Prop
 |mk (d:D) (v:V) (σ':St) (G' H':Hp) (S:Zt) (e:o= .rt d) (i:Inv X pins σ' H' s') (rv:RelV v u) (x:Ext Ge B G' H') (w:Ow X.K G' H' r d v S) (nw:New B G' S)
def SM (X:Cx)(μ:Zz)(r:Nat)(Ge B G:Hp)(pins:Z9)(o:Out)(fl:Flow)(s':Z3):Prop:=
 match fl with
 |.next=>SMn X μ Ge B G pins (o= .nx ·) s'
 |.brk=>SMn X μ Ge B G pins (o= .bk ·) s'
 |.cont=>SMn X μ Ge B G pins (o= .ct ·) s'
 |.ret u=>SMr X r Ge B pins o u s'
def lV (X:Cx)(E:XK)(μ:Zz)(r:Nat)(st:Yq)(F:Zl):Prop:=
 ∀(pins:Z9) (s:Z3) (σ:St) (Ge B G H:Hp) (ρ:DS) (fp:Nat→List Addr),Inv X pins σ H s→Rw X.K μ Ge B G H σ ρ fp→OkO E B (F ρ)→
  wpAny (model X.prog X.w) X.A (exec st X.env) (SM X μ r Ge B G pins (F ρ)) X.xe s
def uL (X:Cx)(E:XK)(μ:Zz)(r:Nat)(sts:List Stmt)(F:Zl):Prop:=
 ∀(pins:Z9) (s:Z3) (σ:St) (Ge B G H:Hp) (ρ:DS) (fp:Nat→List Addr),Inv X pins σ H s→Rw X.K μ Ge B G H σ ρ fp→OkO E B (F ρ)→
  wpAny (model X.prog X.w) X.A (execs sts X.env) (SM X μ r Ge B G pins (F ρ)) X.xe s
variable{r:Nat}
def SM.le {Ge B G G1:Hp}{pins:Z9}{o:Out}{fl:Flow}{s':Z3}(s:Same G G1)(h:SM X μ r Ge B G1 pins o fl s'):SM X μ r Ge B G pins o fl s':=by
 cases fl with
 |next=>obtain⟨S,z,G',H',T,e,I,R,t⟩:=h;exact⟨S,z,G',H',T,e,I,R,s.trans t⟩
 |brk=>obtain⟨S,z,G',H',T,e,I,R,t⟩:=h;exact⟨S,z,G',H',T,e,I,R,s.trans t⟩
 |cont=>obtain⟨S,z,G',H',T,e,I,R,t⟩:=h;exact⟨S,z,G',H',T,e,I,R,s.trans t⟩
 |ret u=>exact h
def a8:uL X E μ r [] (λρ=>.nx ρ):=λ_ _ σ Ge B G H ρ fp I R _=>wpAny_execs_nil ⟨ρ,σ,G,H,fp,rfl,I,R,.refl _⟩
def ai {st:Yq}{F R:Zl}(h1:lV X E μ r st F)(h2:uL X E μ r rest R):uL X E μ r (st::rest) (av F R):=by
 intro pins s σ Ge B G H ρ fp I W ho;refine wpAny_execs_cons (aV (h1 pins s σ Ge B G H ρ fp I W ho.fst) λfl s1 q=>?_);cases fl with
 |next=>
  obtain⟨T,z,G',H',U,e,I',W',sg⟩:=q;refine aV (h2 pins s1 z Ge B G' H' T U I' W' (ho.snd e (.refl _))) λfl2 s2 q2=>?_;have e2:av F R ρ=R T:=by unfold av;rw[e];rfl
  rw[e2];exact q2.le sg
 |brk=>obtain⟨T,z,G',H',U,e,q,q1,q2⟩:=q;exact⟨T,z,G',H',U,by unfold av;rw[e];rfl,q,q1,q2⟩
 |cont=>obtain⟨T,z,G',H',U,e,q,q1,q2⟩:=q;exact⟨T,z,G',H',U,by unfold av;rw[e];rfl,q,q1,q2⟩
 |ret u=>obtain⟨d,v,z,G',H',S,e,q,q1,q2,q3,q4⟩:=q;exact⟨d,v,z,G',H',S,by unfold av;rw[e];rfl,q,q1,q2,q3,q4⟩
def ak {st:Yq}{F:Zl}(h1:lV X E μ r st F):uL X E μ r [st] F:=by
 intro pins s σ Ge B G H ρ fp I W ho;refine wpAny_execs_cons (aV (h1 pins s σ Ge B G H ρ fp I W ho) λfl s1 q=>?_);cases fl with
 |next=>exact wpAny_execs_nil q
 |brk=>exact q
 |cont=>exact q
 |ret u=>exact q
def Rw.apart {K:Z8}{Ge B G H:Hp}{σ:St}{ρ:DS}{fp:Zh}{S:Zt}{G':Hp}(R:Rw K μ Ge B G H σ ρ fp)(w:New H G' S):∀j,∀a∈S,a∉fp j:=λj a ha hj=>by
 obtain⟨o,h,_⟩:=R.oc j a hj;rw[(w.2 a ha).1]at h;cases h
def ax {i:Nat}{pos' pos:Ys}{f:Z7}(hN:X.N.Nodup)(hi:X.N[i]?=some x)(hx:sP X.env.scope x)(h:PZ X E μ (μ.getD i 0) e f)(hf:X.fn x=true∨X.env.scope.names.lookup x=some .local:=by first|exact .inl rfl|exact .inr rfl)(hsw:swapsWith e (some (.Name x pos')) pos.line X.env=pure false:=by rfl):lV X E μ r (.Assign [.Name x pos'] e pos) (aF i f):=by
 intro pins s σ Ge B G H ρ fp I R ho;have hiσ:i<σ.length:=by rw[I.len];exact(fR hi).1
 refine aV (Fq (pos:=pos) (pos':=pos') hN hi hx (sj h) hsw hf pins s σ H {nx:=λσ' H'=>∃d v G' S,f ρ= .ok d∧σ'=σ.set i (some v)∧Rw X.K μ Ge B G' H' σ ρ fp∧Same G G'∧Ow X.K G' H' (μ.getD i 0) d v S∧New H G' S,bk:=λ_ _=>False,ct:=λ_ _=>False,rt:=λ_ _=>False} I ⟨Ge,B,G,ρ,fp,R,ho.res,λd e v G' H' S R' sg sh o w=>⟨d,v,G',S,e,rfl,R',sg,o,w⟩⟩) λfl s1 q=>?_;cases fl with
 |next=>
  obtain⟨σ',H',I',d,v,G',S,e,e2,R',sg,o,w⟩:=q;subst e2;exact⟨_,_,G',H',_,bY e,I',R'.put hiσ o w.1 (λa ha=>⟨(w.2 a ha).2,R.bh.free (w.2 a ha).1⟩) (λj _=>R.apart w j),sg⟩
 |brk=>obtain⟨_,_,_,q⟩:=q;exact q.elim
 |cont=>obtain⟨_,_,_,q⟩:=q;exact q.elim
 |ret u=>obtain⟨_,_,_,_,_,q⟩:=q;exact q.elim
def wR {f:Z7}(h:PD X E e f)(hs:swapsWith e none pos.line X.env=pure false:=by rfl):lV X E μ r (.Expr e pos) (we f):=by
 intro pins s σ Ge B G H ρ fp I R ho;refine aV (fK (dM h) hs pins s σ H {nx:=λσ' H'=>∃d G',f ρ= .ok d∧σ'=σ∧Ext (nQ fp G H) H G' H',bk:=λ_ _=>False,ct:=λ_ _=>False,rt:=λ_ _=>False} I ⟨nQ fp G H,ρ,R.vh,R.ro,ho.res.le R.bh,λd e v G' H' x rp=>⟨d,G',e,rfl,x⟩⟩) λfl s1 q=>?_;cases fl with
 |next=>
  obtain⟨σ',H',I',d,G',e,e2,x⟩:=q;subst e2;exact⟨ρ,_,_,H',fp,bY e,I',R.grow x,R.gg x⟩
 |brk=>obtain⟨_,_,_,q⟩:=q;exact q.elim
 |cont=>obtain⟨_,_,_,q⟩:=q;exact q.elim
 |ret u=>obtain⟨_,_,_,_,_,q⟩:=q;exact q.elim
def bD {fc:Zp}{Fa Fb:Zl}(hc:uI X E c fc)(ha:uL X E μ r a Fa)(hb:uL X E μ r b Fb):lV X E μ r (.If c a b pos) (dX fc Fa Fb):=by
 intro o s σ Ge B G H ρ fp I R ho;refine wpAny_If (aV (hc o s σ (nQ fp G H) H ρ I R.vh R.ro (ho.res.le R.bh)) λk s1 hZ163=>?_);obtain⟨e,G1,H1,I1,x1⟩:=hZ163;have kk:=ho.res2 e (Same.refl B);have e0:dX fc Fa Fb ρ=if k=true then Fa ρ else Fb ρ:=bY e
 rw[e0];cases k with
 |true=>rw[Yo rfl]at kk ⊢;exact aV (ha o s1 σ Ge B _ H1 ρ fp I1 (R.grow x1) kk) λ_ _ q=>q.le (R.gg x1)
 |false=>rw[Ym Bool.false_ne_true]at kk ⊢;exact aV (hb o s1 σ Ge B _ H1 ρ fp I1 (R.grow x1) kk) λ_ _ q=>q.le (R.gg x1)
def ue {st:Yq}{C:Z2}{ok:DS→Bool}(h:Bc X E st (cX C ok)):lV X E μ r st (cX C ok):=by
 intro pins s σ Ge B G H ρ fp I R ho;refine aV (h pins s σ (nQ fp G H) H ρ I R.vh R.ro (ho.le R.bh)) λfl s1 q=>?_;have no:∀o,cX C ok ρ=o→o= .exc C∨o= .bad:=λo e=>by
  unfold cX at e;split at e
  ·exact .inl e.symm
  ·exact .inr e.symm
 cases fl with
 |next=>obtain⟨_,_,_,_,e,_⟩:=q;rcases no _ e with z|z <;> cases z
 |brk=>obtain⟨_,_,_,_,e,_⟩:=q;rcases no _ e with z|z <;> cases z
 |cont=>obtain⟨_,_,_,_,e,_⟩:=q;rcases no _ e with z|z <;> cases z
 |ret u=>obtain⟨_,_,_,_,_,e,_⟩:=q;rcases no _ e with z|z <;> cases z
def Rw.ext {K:Z8}{Ge B G H:Hp}{σ:St}{ρ:DS}{fp:Zh}(R:Rw K μ Ge B G H σ ρ fp):Ext Ge B G H:=⟨R.bh,R.eg,R.gh,R.nw⟩
def ba {f:Z7}(h:PZ X E μ r e f):lV X E μ r (.Return (some e) pos) (bR f):=by
 intro pins s σ Ge B G H ρ fp I R ho;refine aV (su (pos:=pos) (sj h) pins s σ H {nx:=λ_ _=>False,bk:=λ_ _=>False,ct:=λ_ _=>False,rt:=λv H'=>∃d G' S,f ρ= .ok d∧Rw X.K μ Ge B G' H' σ ρ fp∧Same G G'∧Ow X.K G' H' r d v S∧New H G' S} I ⟨Ge,B,G,ρ,fp,R,ho.res,λd e v G' H' S R' sg sh o w=>⟨d,G',S,e,R',sg,o,w⟩⟩) λfl s1 q=>?_;cases fl with
 |next=>obtain⟨_,_,_,q⟩:=q;exact q.elim
 |brk=>obtain⟨_,_,_,q⟩:=q;exact q.elim
 |cont=>obtain⟨_,_,_,q⟩:=q;exact q.elim
 |ret u=>
  obtain⟨v,σ',H',I',rv,d,G',S,e,R',sg,o,w⟩:=q;exact⟨d,v,σ',G',H',S,bY e,I',rv,R'.ext,o,w.1,λa ha=>⟨R.bh.free (w.2 a ha).1,(w.2 a ha).2⟩⟩
def gE {i:Nat}(hm:μ.getD i 0=r)(hN:X.N[i]?=some x)(hv:uJ X.env.scope x)(hd:zQ1 x:=by decide)(hcd:(x==("__classdict__" :Str))=false:=by decide):lV X E μ r (.Return (some (.Name x px)) pos) (bR (ac i)):=by
 intro pins s σ Ge B G H ρ fp I R ho;have hslot:∃d,ρ[i]?=some (some d)∧ac i ρ= .ok d:=by
  have h:=ho.res;unfold ac at h;split at h
  ·rename_i l q;exact⟨l,q,by unfold ac;rw[q]⟩
  ·exact h.elim
 obtain⟨d,hr,er⟩:=hslot;obtain⟨v,h1,o⟩:=R.sl i _ hr;rw[hm]at o;refine aV (su (pos:=pos) (en (pos:=px) hN hv hd hcd) pins s σ H {nx:=λ_ _=>False,bk:=λ_ _=>False,ct:=λ_ _=>False,rt:=λv' H'=>v'=v∧H'=H} I ⟨_,h1,rfl,rfl⟩) λfl s1 q=>?_;cases fl with
 |next=>obtain⟨_,_,_,q⟩:=q;exact q.elim
 |brk=>obtain⟨_,_,_,q⟩:=q;exact q.elim
 |cont=>obtain⟨_,_,_,q⟩:=q;exact q.elim
 |ret u=>
  obtain⟨v',σ',H',I',rv,e2,e3⟩:=q;subst e2 e3;exact⟨d,v',σ',G,H',fp i,bY er,I',rv,R.ext,o,R.nd i,λa ha=>⟨R.ob i a ha,R.gf i a ha⟩⟩
def cv (fc:Zp)(F:Zl):Nat→DS→Out
 |0,_=>.bad
 |n+1,ρ=>(fc ρ).out λb=>if b=true then (match F ρ with
  |.nx ρ'=>cv fc F n ρ'
  |.ct ρ'=>cv fc F n ρ'
  |.bk ρ'=>.nx ρ'
  |.rt d=>.rt d
  |.exc c=>.exc c
  |.bad=>.bad) else .nx ρ
def oY (n:Nat){c:Y3}{body:List Stmt}{pos:Ys}{fc:Zp}{F:Zl}(hp:PassesOwn (model X.prog X.w) X.A X.env X.xe)(hc:uI X E c fc)(hb:uL X E μ r body F):lV X E μ r (.While c body [] pos) (cv fc F n):=by
 intro o s σ Ge B G H ρ fp I R ho;refine wpAny_While (codeAny_whileLoop (λk s'=>∃σ' G' H' ρ' fp',Inv X o σ' H' s'∧Rw X.K μ Ge B G' H' σ' ρ' fp'∧Same G G'∧cv fc F n ρ=cv fc F k ρ') ?_ n ⟨σ,G,H,ρ,fp,I,R,.refl _,rfl⟩);intro k s1 hZ16;obtain⟨σ1,G1,H1,T,fp1,I1,R1,sg1,e1⟩:=hZ16;rw[e1]at ho;cases k with
 |zero=>exact ho.elim
 |succ k=>
  have ho':OkO E B ((fc T).out λb=>if b=true then (match F T with|.nx ρ'=>cv fc F k ρ'|.ct ρ'=>cv fc F k ρ'|.bk ρ'=>.nx ρ'|.rt d=>.rt d|.exc c=>.exc c|.bad=>.bad) else .nx T):=ho
  have U:cv fc F (k+1) T=(fc T).out λb=>if b=true then (match F T with|.nx ρ'=>cv fc F k ρ'|.ct ρ'=>cv fc F k ρ'|.bk ρ'=>.nx ρ'|.rt d=>.rt d|.exc c=>.exc c|.bad=>.bad) else .nx T:=rfl
  refine wpAny_passesOwn hp (aV (hc o s1 σ1 (nQ fp1 G1 H1) H1 T I1 R1.vh R1.ro (ho'.res.le R1.bh)) λb s2 hZ164=>?_);obtain⟨eb,G2,H2,I2,x2⟩:=hZ164;have kk:=ho'.res2 eb (Same.refl B);rw[bY eb]at U;have R2:=R1.grow x2;have Z:=sg1.trans (R1.gg x2);cases b with
  |true=>
   rw[Yo rfl]at kk U ⊢;have kF:OkO E B (F T):=by
    cases q:F T with
    |exc c=>rw[q]at kk;exact kk
    |bad=>rw[q]at kk;exact kk
    |_=>trivial
   refine wpAny_passesOwn hp (aV (hb o s2 σ1 Ge B _ H2 T fp1 I2 R2 kF) λf s3 q3=>?_);cases f with
   |next=>
    obtain⟨W,t,G3,H3,V,e3,I3,R3,Y⟩:=q3;rw[e3]at U;exact⟨k,lt_succ_self k,t,G3,H3,W,V,I3,R3,Z.trans Y,e1.trans U⟩
   |cont=>
    obtain⟨W,t,G3,H3,V,e3,I3,R3,Y⟩:=q3;rw[e3]at U;exact⟨k,lt_succ_self k,t,G3,H3,W,V,I3,R3,Z.trans Y,e1.trans U⟩
   |brk=>
    obtain⟨W,t,G3,H3,V,e3,I3,R3,Y⟩:=q3;rw[e3]at U;exact⟨W,t,G3,H3,V,e1.trans U,I3,R3,Z.trans Y⟩
   |ret u=>
    obtain⟨d,v,t,G3,H3,S3,e3,q3,q4,q5,q6,q7⟩:=q3;rw[e3]at U;exact⟨d,v,t,G3,H3,S3,e1.trans U,q3,q4,q5,q6,q7⟩
  |false=>
   rw[Ym Bool.false_ne_true]at kk U ⊢;exact wpAny_execs_nil ⟨T,σ1,_,H2,fp1,e1.trans U,I2,R2,Z⟩
end
inductive freshSp (K:Z8)(r:Nat)(m:Zr)(vs:Zu)(H:Hp)(Q:VK)(E:XK):Prop
 |mk (ds:Zy) (G:Hp) (s:Same G H) (rl:RepL K G ds vs) (o:OkR E H (m ds)) (k:∀d,m ds= .ok d→∀v G' H' S,Ext G H G' H'→Ow K G' H' r d v S→New H G' S→Q v H')
section
variable{P:Zv}{w:Zk}{K:Z8}{mg:Z4}{base:Y6}{r:Nat}
def Fun.fresh {st:Yq}{fd:Y7}{N ps:Zw}{k:Nat}{m:Zr}(F:Fun K x qual st f fd)(S:FnScope N ps (aj st))(μ:Zz)(hμ:∀i,i<ps.length→μ.getD i 0=0)(len:∀ds,m ds≠ .bad→ds.length=ps.length)(hbody:∀(cdv:Zc) (A:Zg) (outer:Y1) (s:Z3) (H:Hp) (E:XK),Room k (A.deeper (envOfC qual (aj st) s.heap.objs.size f cdv))→
   ∃Fb,uL (yB P w K mg base N qual (aj st) f cdv A outer s H E) E μ r (da st) Fb∧∀ds,m ds≠ .bad→ee (Fb (aM N ds))=m ds):FnOk P w K mg base (CXF P w) (k+1) f fd ps (freshSp K r m):=by
 have nb:∀{E:XK} {H:Hp} {r:Res D},OkR E H r→r≠ .bad:=λh z=>by rw[z]at h;exact h
 obtain⟨oc,od,kV,doc,pm,an,cdv,ct,osl,rfl,lk,hcd⟩:=F.ex;refine zf lk hcd S (λvs H Q E hZ165=>(by obtain⟨ds,G,_,rl,L,_⟩:=hZ165;rw[←rl.length];exact len ds (nb L))) λA outer s H vs Q E hr hsp=>?_;obtain⟨ds,G,hs,rl,L,k⟩:=hsp;obtain⟨Fb,hb,hm⟩:=hbody cdv A outer s H E hr;have J:=hm ds (nb L);have hlen:=len ds (nb L);have hoO:OkO E H (Fb (aM N ds)):=by
  rw[←J]at L;cases q:Fb (aM N ds) with
  |exc c=>rw[q]at L;exact L
  |bad=>rw[q]at L;exact L
  |_=>trivial
 have zero:∀i d,(aM N ds)[i]?=some (some d)→μ.getD i 0=0:=λi d e=>by
  refine hμ i ?_;unfold aM at e;by_cases hi:i<ds.length
  ·omega
  ·rw[getElem?_append_right (by simpa using hi),List.getElem?_replicate]at e;split at e <;> cases e
 have R0:Rw K μ G H G H (gF N vs) (aM N ds) (λ_=>[]):=by
  refine⟨hs,.refl _,.refl _,λb o e=>.inl e,λi a e=>(by cases e),λi a e=>(by cases e),λi a e=>(by cases e),λi=>nodup_nil,λi j a e=>(by cases e),λi d e=>?_⟩;obtain⟨v,hv,rv⟩:=uu rl i d e;rw[zero i d e];exact⟨v,hv,rfl,rv⟩
 refine⟨λD σ H1=>(σ=gF N vs∧H1=H∧(D.nx=λ_ M=>Q .non M)∧D.rt=Q),?_,rfl,rfl,rfl,rfl⟩;intro pins s1 σ H1 D I hZ17;obtain⟨e1,e2,e3,e4⟩:=hZ17;subst e1 e2;refine aV (hb pins s1 _ G H1 G H1 (aM N ds) _ I R0 hoO) λfl s2 q=>?_;cases fl with
 |next=>
  obtain⟨ρ',B,G',M,fp',e,I',R,_⟩:=q;refine⟨B,M,I',?_⟩;rw[e3];have hn:m ds= .ok .non:=by rw[←J,e];rfl
  cases r with
  |zero=>exact k .non hn .non G' M [] R.ext ⟨rfl,rep_non.mpr rfl⟩ .nil
  |succ r=>exact k .non hn .non G' M [] R.ext ⟨by unfold L2.flat;rfl,rfl,rep_non.mpr rfl⟩ .nil
 |brk=>
  obtain⟨ρ',B,G',M,fp',e,_⟩:=q;rw[e]at J;exact absurd J.symm (nb L)
 |cont=>
  obtain⟨ρ',B,G',M,fp',e,_⟩:=q;rw[e]at J;exact absurd J.symm (nb L)
 |ret u=>
  obtain⟨d,v,B,G',M,S,e,I',rv,x,o,w⟩:=q;refine⟨v,B,M,I',rv,?_⟩;rw[e4];exact k d (by rw[←J,e];rfl) v G' M S x o w
end
inductive tZI (K:Z8)(E:XK)(μ:Zz)(fi:Z5)(σ:St)(H:Hp)(R:It→Hp→Prop):Prop
 |mk (Ge B G:Hp) (ρ:DS) (fp:Zh) (w:Rw K μ Ge B G H σ ρ fp) (o:OkR E B (fi ρ)) (k:∀ds,fi ρ= .ok ds→∀J G' H',Rw K μ Ge B G' H' σ ρ fp→Same G G'→A5 K J ds G'→R J H')
def GD (K:Z8)(μ:Zz)(n:Nat)(g:TG)(asg:Za):Prop:=
 ∀(Ge B G H:Hp) (σ:St) (ρ ρ':DS) (fp:Zh) (v:V) (d:D),σ.length=n→Rw K μ Ge B G H σ ρ fp→Rep K G d v→asg d ρ=some ρ'→g v σ H λσ' H'=>H'=H∧∃fp',Rw K μ Ge B G H σ' ρ' fp'
def aS (j:Nat):D→DS→Option DS:=λd ρ=>some (ρ.set j (some d))
def iu (j k:Nat):D→DS→Option DS
 |.tup [a,b],ρ=>some ((ρ.set j (some a)).set k (some b))
 |_,_=>none
section
variable{X:Cx}{E:XK}{μ:Zz}{r:Nat}{tg:Expr}
def Rw.set0 {K:Z8}{Ge B G H:Hp}{σ:St}{ρ:DS}{fp:Zh}{i:Nat}{d:D}{v:V}(R:Rw K μ Ge B G H σ ρ fp)(hi:i<σ.length)(m:μ.getD i 0=0)(h:Rep K G d v):Rw K μ Ge B G H (σ.set i (some v)) (ρ.set i (some d)) (λj=>if j=i then [] else fp j):=
 R.put hi (by rw[m];exact⟨rfl,h⟩) nodup_nil (λa h=>by cases h) λj _ a h=>by cases h
def BZ {K:Z8}{n j:Nat}(hj:j<n)(m:μ.getD j 0=0):GD K μ n (cC j) (aS j):=by
 intro Ge B G H σ ρ ρ' fp v d hl R h e;cases e;exact⟨rfl,_,R.set0 (by rw[hl];exact hj) m h⟩
def Es {K:Z8}{n j k:Nat}(hj:j<n)(hk:k<n)(m:μ.getD j 0=0)(m':μ.getD k 0=0):GD K μ n (xJ K 2 (jw (cC j) (jw (cC k) xI))) (iu j k):=by
 intro Ge B G H σ ρ ρ' fp v d hl R h e;unfold iu at e;split at e
 ·rename_i a b;cases e;rw[rep_tup]at h;obtain⟨p,xs,rfl,t,rl⟩:=h;obtain⟨x,q,rfl,rx,rl⟩:=rl.inv;obtain⟨y,q,rfl,ry,rl⟩:=rl.inv;have:=rl.inv0;subst this;have R2:=(R.set0 (by rw[hl];exact hj) m rx).set0 (i:=k) (by rw[length_set,hl];exact hk) m' ry;exact⟨p,[x,y],rfl,(show TpS K H p _ from ⟨R.gh _ _ t.h⟩).sq,rfl,x,[y],rfl,y,[],rfl,rfl,rfl,_,R2⟩
 ·cases e
def cq (asg:Za)(F:Zl):List D→DS→Out
 | [],ρ=>.nx ρ
 |d::ds,ρ=>match asg d ρ with
  |none=>.bad
  |some ρ1=>match F ρ1 with
   |.nx ρ'=>cq asg F ds ρ'
   |.ct ρ'=>cq asg F ds ρ'
   |.bk ρ'=>.nx ρ'
   |.rt d=>.rt d
   |.exc c=>.exc c
   |.bad=>.bad
def b9 (fi:Z5)(asg:Za)(F:Zl):DS→Out:=λρ=>(fi ρ).out λds=>cq asg F ds ρ
def Ai {pos:Ys}{g:TG}{asg:Za}{fi:Z5}{F:Zl}(hp:PassesOwn (model X.prog X.w) X.A X.env X.xe)(hc:X.calm=true)(hg:PG X tg g)(hgd:GD X.K μ X.N.length g asg)(hi:PI X tg iter (tZI X.K E μ fi))(hb:uL X E μ r body F)(hs:∀x,foldedSetIterable iter X.env x=pure x:=by intro _;rfl):lV X E μ r (.For tg iter body [] pos) (b9 fi asg F):=by
 intro p s σ Ge B G H O fp I R ho;refine wpAny_For (aV (hi p s σ H _ I ⟨Ge,B,G,O,fp,R,ho.res,λZ e J G1 H1 R1 sg src=>(show (λ(J:It) (H1:Hp)=>∃ Z G1,fi O= .ok Z∧Rw X.K μ Ge B G1 H1 σ O fp∧Same G G1∧A5 X.K J Z G1) J H1 from ⟨Z,G1,e,R1,sg,src⟩)⟩) λv s1 h1=>aV h1 λitv s2 h2=> ?_) hs;obtain ⟨it,ip,tn,J,H2,e,I2,T,st2,f2,Z,G2,eds,R2,sg2,src⟩:=h2;subst e;have kk:OkO E B (cq asg F Z O):=ho.res2 eds (Same.refl B);have e0:b9 fi asg F O=cq asg F Z O:=bY eds;rw [e0];have L:∀ {H':Hp},(∀ b∈ip,H' b=none)→∀ b∈ip,jc X p H' b:=λhn b hb=>⟨hn b hb,(f2 b hb).2⟩;refine codeAny_forLoop_any (λn s'=>∃ i σ' G' H' ρ' fp',n=Z.length - i∧i≤Z.length∧Inv X p σ' H' s'∧tn i s'.heap∧(∀ b∈ip,H' b=none)∧Rw X.K μ Ge B G' H' σ' ρ' fp'∧Same G2 G'∧cq asg F Z O=cq asg F (Z.drop i) ρ') ?_ Z.length
  ⟨0,σ,G2,H2,O,fp,rfl,zero_le _,I2,st2,λb hb=>(f2 b hb).1,R2,.refl _,rfl⟩
 intro n s3 hZ18;obtain⟨i,y,G3,H3,W,fp3,rfl,hi3,I3,st3,fr3,R3,Q,k⟩:=hZ18;obtain⟨sg,ss⟩:=src G3 H3 Q R3.gh i;by_cases Y:i<Z.length
 ·obtain⟨go,yl⟩:=sg Z[i] (by simp[Y]);have hdrop:Z.drop i=Z[i]::Z.drop (i+1):=by rw[List.getElem_cons_drop]
  rw[hdrop]at k;refine wpAny_passesOwn hp (aV (T.item X rfl rfl rfl hc i p s3 y H3 X.xe I3 (L fr3) st3 go) λr s4 hZ166=>?_);obtain⟨u,hr4,h4⟩:=hZ166;subst hr4;refine wpAny_passesOwn hp (aV h4 λ_ s5 hZ167=>?_);obtain⟨xv,H5,I5,r5,y5,st5,fr5⟩:=hZ167;obtain⟨G5,x5,rp5⟩:=yl xv H5 y5;have I5':=I5.pinned (L fr5) (T.obj _ _ st5);have R5:=R3.growF x5;have P:OkO E B (cq asg F (Z[i]::Z.drop (i+1)) W):=by rw[←k];exact kk
  rw[cq]at P;rw[cq]at k;cases qa:asg Z[i] W with
  |none=>rw[qa]at P;exact P.elim
  |some ρ6=>
  rw[qa]at P k;dsimp only at P k;refine wpAny_passesOwn hp (aV (hg _ s5 y H5 xv u _ I5' r5 (hgd Ge B G5 H5 y W ρ6 fp3 xv _ I5.len R5 rp5 qa)) λ_ s6 hZ168=>?_);obtain⟨σ6,H6,I6,e6,fp6,R6⟩:=hZ168;subst e6;have kk6:OkO E B (F ρ6):=by
   cases q:F ρ6 with
   |exc c=>rw[q]at P;exact P
   |bad=>rw[q]at P;exact P
   |_=>trivial
  refine wpAny_passesOwn hp (aV (hb _ s6 _ Ge B G5 H6 _ _ I6 R6 kk6) λf s7 q7=>?_);have C:∀{t:St} {l M:Hp} {a:DS} {h:Nat→List Addr},Inv X (p ++ mr ip s5.heap) t M s7→Rw X.K μ Ge B l M t a h→Same G5 l→cq asg F Z O=cq asg F (Z.drop (i+1)) a→∃m,m<Z.length-i∧∃i σ' G' H' ρ' fp',m=Z.length-i∧i≤Z.length∧Inv X p σ' H' s7∧tn i s7.heap∧(∀b∈ip,H' b=none)∧Rw X.K μ Ge B G' H' σ' ρ' fp'∧Same G2 G'∧cq asg F Z O=cq asg F (Z.drop i) ρ':=λ{t l M a h} z R7 j S=>by
   refine⟨Z.length-(i+1),Nat.sub_lt_sub_left Y (lt_succ_self i),i+1,t,l,M,a,h,rfl,Y,z.unpinned,T.keep _ _ _ st5 λb hb o e=>(z.pin (b,o) (mem_append_right _ (mem_append_right _ (d_ hb e)))).1,λb hb=>?_,R7,(Q.trans x5.gg).trans j,S⟩;obtain⟨o,e,d⟩:=T.obj _ _ st5 b hb;exact(z.pin (b,o) (mem_append_right _ (mem_append_right _ (d_ hb e)))).2.1
  cases f with
  |next=>obtain⟨a,t,l,M,h,S,z,R7,j⟩:=q7;rw[S]at k;exact C z R7 j k
  |cont=>obtain⟨a,t,l,M,h,S,z,R7,j⟩:=q7;rw[S]at k;exact C z R7 j k
  |brk=>
   obtain⟨a,t,l,M,h,S,z,R7,j⟩:=q7;rw[S]at k;exact⟨a,t,l,M,h,k,z.unpinned,R7,((sg2.trans Q).trans x5.gg).trans j⟩
  |ret v=>
   obtain⟨d,v7,t,l,M,S7,S,z,q7,q8,q9,q10⟩:=q7;rw[S]at k;exact⟨d,v7,t,l,M,S7,k,z.unpinned,q7,q8,q9,q10⟩
 ·have hie:i=Z.length:=Nat.le_antisymm hi3 (Nat.not_lt.mp Y);subst hie;refine wpAny_passesOwn hp (aV (T.done X rfl rfl rfl hc Z.length p s3 y H3 X.xe I3 (L fr3) st3 (ss (le_refl _))) λr s4 hZ169=>?_);obtain⟨hr4,I4⟩:=hZ169;subst hr4;rw[List.drop_length]at k;exact wpAny_execs_nil ⟨W,y,G3,H3,fp3,k,I4,R3,sg2.trans Q⟩
def nE (μ:Zz)(fi:Z5):DS→Res (List D):=λρ=>fi (gX μ ρ)
def cw {fi:Z5}(h:PI X tg iter (tDI X.K E fi)):PI X tg iter (tZI X.K E μ (nE μ fi)):=by
 intro pins s σ H Q I hZ19;obtain⟨Ge,B,G,ρ,fp,R,ho,k⟩:=hZ19;exact h pins s σ H Q I ⟨G,gX μ ρ,R.gh,R.rof,ho.le R.bh,λds e J G' H' x src=>k ds e J G' H' (R.growF x) x.gg src⟩
def xb {f:Z7}(h:PZ X E μ 0 e f):PI X tg e (tZI X.K E μ (λρ=>(f ρ).bind AK)):=by
 intro pins s σ H Q I hZ20;obtain⟨Ge,B,G,ρ,fp,R,ho,k⟩:=hZ20;refine sm (sj h) pins s σ H Q I ⟨Ge,B,G,ρ,fp,R,ho.fst,λd e v G' H' S R' sg sh o w=>?_⟩;have kk:=ho.snd e (Same.refl B);cases d with
 |lst l=>
  have rp:=o.2;rw[rep_lst]at rp;obtain⟨a,xs,rfl,sq,rl⟩:=rp;exact⟨a,rfl,⟨xs,R'.gh.seq sq.sq⟩,k l (aq e rfl) (Da X.K a) G' H' R' sg (ux sq.sq rl)⟩
 |_=>exact kk.elim
def du {fs:Z5}(hg:Gl X "range")(hm:X.mg "range" =none)(ha:lU X E [a] fs)(hs:starEach [a] X.env=[(false,eval a X.env)]:=by rfl):PI X tg (.Call (.Name "range" p) [a] [] pos) (tZI X.K E μ (λρ=>(fs ρ).bind lF)):=by
 intro pins s σ H Q I hZ21;obtain⟨Ge,B,G,ρ,fp,R,ho,k⟩:=hZ21;refine qG hg hm (jd ha) hs pins s σ H Q I ⟨nQ fp G H,ρ,R.vh,R.ro,ho.fst.le R.bh,λds e vs G1 H1 x1 p1=>?_⟩;have kk:=ho.snd e (Same.refl B);unfold lF at kk;split at kk
 ·rename_i j;obtain⟨v,q,rfl,rv,r0⟩:=p1.inv;rw[r0.inv0];rw[rep_int]at rv;subst rv;by_cases hj:dh j=true
  ·have hj':=hj;unfold dh at hj';rw[and_eq_true]at hj';exact⟨j,rfl,Zm hj'.1,Zm hj'.2,k _ (aq e (Yo hj)) _ _ H1 (R.grow x1) (R.gg x1) (mG 0 j.toNat)⟩
  ·rw[Ym hj]at kk;exact kk.elim
 ·exact kk.elim
def bA {px pos:Ys}{j:Nat}{fi:Z5}{F:Zl}(hp:PassesOwn (model X.prog X.w) X.A X.env X.xe)(hc:X.calm=true)(hN:X.N.Nodup)(hj:X.N[j]?=some x)(hx:sP X.env.scope x)(hm:μ.getD j 0=0)(hi:PI X (.Name x px) iter (tZI X.K E μ fi))(hb:uL X E μ r body F)(hf:X.fn x=true∨X.env.scope.names.lookup x=some .local:=by first|exact .inl rfl|exact .inr rfl) (hs:∀x,foldedSetIterable iter X.env x=pure x:=by intro _;rfl):lV X E μ r (.For (.Name x px) iter body [] pos) (b9 fi (aS j) F):=
 Ai hp hc (eG hN hj hx hf) (BZ (fR hj).1 hm) hi hb hs
def lB {px py pt pos:Ys}{kt:Nat}{j k:Nat}{fi:Z5}{F:Zl}(hp:PassesOwn (model X.prog X.w) X.A X.env X.xe)(hc:X.calm=true)(hN:X.N.Nodup)(hj:X.N[j]?=some x)(hk:X.N[k]?=some y)(hx:sP X.env.scope x)(hy:sP X.env.scope y)(hm:μ.getD j 0=0)(hm':μ.getD k 0=0)(hi:PI X (.Tuple [.Name x px,.Name y py] kt pt) iter (tZI X.K E μ fi))(hb:uL X E μ r body F)(hf:X.fn x=true∨X.env.scope.names.lookup x=some .local:=by first|exact .inl rfl|exact .inr rfl) (hf':X.fn y=true∨X.env.scope.names.lookup y=some .local:=by first|exact .inl rfl|exact .inr rfl) (hs:∀x,foldedSetIterable iter X.env x=pure x:=by intro _;rfl):lV X E μ r (.For (.Tuple [.Name x px,.Name y py] kt pt) iter body [] pos) (b9 fi (iu j k) F):=
 Ai hp hc (vx hc (hJ (eG hN hj hx hf) (hJ (eG hN hk hy hf') sk))) (Es (fR hj).1 (fR hk).1 hm hm') hi hb hs
end
section
variable{X:Cx}{pins:Z9}{σ:St}{H:Hp}{s:Z3}{h':Heap}
def Inv.turnedL {t':Nat}{ch:Zt}(I:Inv X pins σ H s)(hf:∀b∈ch,jc X pins H b)(k:∀b o,b∉ch→s.heap.get? b=some o→h'.get? b=some o):Inv X pins σ H {s with heap:=h',toks:=t'}:=by
 have nit:∀b u,H b=some u→b∉ch:=λb u e z=>by rw[(hf b z).1]at e;cases e
 refine I.step (g':=s.gens) (d':=s.drawn) (ch:=ch) (λb hb=>?_) (λb o _ _ hc e _=>k b o hc e) (λb o _ _ hc e _=>⟨o.slots,k b o hc e⟩) (λ_ _ _ _ n=>n)
  (λb o hc e=>⟨o,k b o hc e⟩) (λ_ _ e=>e) (λ_ _ _ e=>e) (λb ps e=>⟨#[],by rw[e];simp⟩) (λm hm=>?_) (λb u e=>?_) I.bare
 ·obtain⟨f0,f1,f2,f3,f4,f5⟩:=hf b hb;exact⟨f3,f1,f4,f5⟩
 ·obtain⟨o,es,ep,ho,r⟩:=hm;exact⟨o,es,ep,k _ o (λz=>(hf _ z).2.1 rfl) ho,r⟩
 ·refine(I.hok b u e).stay (λc v hc q=>k c v ?_ q) (λ_ q=>q) λ_ _ q=>q
  rcases hc with z|z
  ·rw[z];exact nit b u e
  ·exact nit c _ z
def Inv.track {o:HO}(I:Inv X pins σ H s)(hp:jc X pins H p)(new:ObjOk X.prog X.w (bc H p o) s.heap p o):Inv X pins σ (bc H p o) s:=by
 have hn:=hp.1;have I':=I.step (g':=s.gens) (d':=s.drawn) (t':=s.toks) (h':=s.heap) (H':=bc H p o) (ch:=[p]) (λb hb=>by
   have e:b=p:=by simpa using hb
   subst e;obtain⟨f0,f1,f2,f3,f4,f5⟩:=hp;exact⟨f3,f1,f4,f5⟩) (λb o _ _ hc e _=>e) (λb o _ _ hc e _=>⟨o.slots,e⟩) (λb u hc e n=>by rw[am (λz=>hc (by simp[z]))];exact n)
  (λb o hc e=>⟨o,e⟩) (λb xs e=>by rw[am (aD e hn)];exact e) (λb o u e=>by rw[am (aD e hn)];exact e) (λb ps e=>⟨#[],by rw[am (aD e hn),e];simp⟩) (λm hm=>hm) (λb u e=>by
   by_cases hb:b=p
   ·subst hb;rw[au]at e;cases e;exact new
   ·rw[am hb]at e;exact(I.hok b u e).stay (λc v _ q=>q) (λc q=>by rw[am (aD q hn)];exact q) λc xs q=>by rw[am (aD q hn)];exact q) I.bare
 exact I'
end
def Hr (K:Z8)(a:Z2):It:=
 ⟨λi H=>∃xs x,gy K H a xs∧xs[i]?=some x,λi H x H'=>∃p y,H p=none∧x= .ref p∧H'=bc H p (.tup [.int i,y])∧∀xs,gy K H a xs→xs[i]?=some y,λi H=>∃xs,gy K H a xs∧xs.length≤i⟩
def yr {P:Zv}{w:Zk}{K:Z8}{x1:Nat}(a e it:Z2)(hne:e≠it):Turn P w K (.Tuple elts x1 tp) (Hr K a) [e,it] e (λi h=>(∃old,IsEnum h e it (i:Nat) old)∧h.IsListIter it a i) where
 mem:=by simp
 obj:=λi h r b A=>by
  obtain⟨⟨old,B⟩,o,l,c,d⟩:=r
  rcases mem_cons.mp A with z|z
  ·subst z;exact⟨_,B,λv z=>by cases z⟩
  ·have z:b=it:=by simpa using z
   subst z;exact⟨o,l,λv z=>by rw[d]at z;cases z⟩
 keep:=λi h h' ⟨⟨old,B⟩,r⟩ k=>⟨⟨old,k e (by simp) _ B⟩,r.at λo e=>k it (by simp) o e⟩
 item:=by
  intro X hP hw hK hc i q s σ H E I hf r hg;subst hP hw hK;obtain⟨⟨old,B⟩,m⟩:=r;obtain⟨xs,x,hq,hx⟩:=hg;obtain⟨its,rv,p,hz⟩:=I.list hq;obtain⟨u,hu,ru⟩:=rv.get hx;have hlt:∀b∈[e,it],b≠s.heap.objs.size:=λb A z=>by
   obtain⟨o,l,c,d⟩:=m
   rcases mem_cons.mp A with y|y
   ·rw[y]at z;exact absurd (Yu B) (by rw[z];exact lt_irrefl _)
   ·have y:b=it:=by simpa using y
    rw[y]at z;exact absurd (Yu l) (by rw[z];exact lt_irrefl _)
  have hfr:=I.hok.fresh (le_refl s.heap.objs.size);have hfp:jc X q H s.heap.objs.size:=I.fpOk (le_refl _) hfr;refine wpAny_pyNext_enum_item B m p.isList (x:=u) (by simpa using hu) hne λh1 he1 hit1 ht1 hz1 hk1=>⟨_,rfl,?_⟩;refine wpAny_letOwnedTupleGo_enum he1 λh2 he2 j=>?_;have j:Heap.SameBut e h1 h2:=j;have I1:Inv X q σ H {s with heap:=h2,toks:=s.toks+1}:=I.turnedL (t':=s.toks+1) (ch:=[e,it]) hf λb o A l=>by
   have b1:b≠e:=λz=>A (by simp[z]);have b2:b≠it:=λz=>A (by simp[z]);exact j.extBut b o b1 (hk1 b o b1 b2 l)
  have ht2:h2.get? s.heap.objs.size=some {cls:=.type "tuple",data:=.seq #[.int i s.toks,u]}:=j.extBut _ _ (Ne.symm (hlt e (by simp))) ht1;have I2:=Inv.track (o:=.tup [.int i,x]) I1 hfp ⟨by show 2≤sizeLine;decide,[.int i s.toks,u],.cons ⟨_,rfl⟩ (.cons ru .nil),_,ht2,rfl,_,rfl⟩;refine⟨.ref s.heap.objs.size,_,I2,rfl,⟨_,x,hfr,rfl,rfl,λys hy=>by rw[I.list_inj hy hq];exact hx⟩,⟨⟨u,?_⟩,hit1.at λo l=>j.extBut _ o (Ne.symm hne) l⟩,λb A=>?_⟩
  ·have:(((i+1:Nat):Int))=(i:Int)+1:=by push_cast;rfl
   rw[this];exact he2
  ·rw[am (hlt b A)];exact(hf b A).1
 done:=by
  intro X hP hw hK hc i q s σ H E I hf r hg;subst hP hw hK;obtain⟨⟨old,B⟩,m⟩:=r;obtain⟨xs,hq,hx⟩:=hg;obtain⟨its,rv,p,hz⟩:=I.list hq;have hl:=rv.length;exact wpAny_pyNext_enum_end (I.ok.hd hc) B m p.isList (by simp;omega) λh1 hk=>⟨rfl,I.turnedL (t':=s.toks) (ch:=[e,it]) hf λb o A l=>hk b o (λz=>A (by simp[z])) l⟩
 self:=λ_ _ _ _ _ r h=>by
  obtain⟨⟨old,B⟩,_⟩:=r;exact wpAny_pyIter_enum B h
def Bk:bootBuiltins "enumerate" =some (.type "enumerate"):=by decide +kernel
def DT:bootBuiltins "zip" =some (.type "zip"):=by decide +kernel
section
variable{X:Cx}{E:XK}{elts:Ze}{x1:Nat}{tp:Pos}
def Gj (K:Z8)(ta:TA):TI:=λσ H R=>ta σ H λxs H1=>∃a,xs=[.ref a]∧(∃ys,gy K H1 a ys)∧R (Hr K a) H1
def Cu {ta:TA}(hg:Gl X "enumerate")(hm:X.mg "enumerate" =none)(ha:PA X [a] ta)(hs:starEach [a] X.env=[(false,eval a X.env)]:=by rfl):PI X (.Tuple elts x1 tp) (.Call (.Name "enumerate" p) [a] [] pos) (Gj X.K ta):=by
 intro pins s σ H R I h;refine Call_ (iK I hg hm Bk (PyProof.Rows.callWith_type1 (aV (ha pos pins s σ H _ I h) λus s1 hZ170=>?_) hs rfl));obtain⟨vs,H1,I1,r1,q1⟩:=hZ170;obtain⟨l,e,⟨ys,hq⟩,q⟩:=q1;subst e;cases r1 with
 |cons r rr=>
  cases rr;cases r;obtain⟨its,rv,pp,hz⟩:=I1.list hq;refine call_enumerate_list pp.isList λh2 he hit hz2 hk=>?_;refine wpAny_pyIter_enum (s:={s1 with heap:=h2}) he ⟨s1.heap.objs.size+1,[s1.heap.objs.size+1,s1.heap.objs.size],_,_,H1,rfl,I1.kept (t':=s1.toks) hk,yr l _ _ (Nat.succ_ne_self _),⟨⟨.none,he⟩,hit⟩,λb hb=>?_,q⟩
  have hb':s1.heap.objs.size≤b:=by
   rcases mem_cons.mp hb with z|z
   ·rw[z];exact le_succ _
   ·have z:b=s1.heap.objs.size:=by simpa using z
    rw[z];exact le_refl _
  exact I1.fpOk hb' (I1.hok.fresh hb')
def cj:Nat→List D→List D
 |_,[]=>[]
 |k,d::ds=>.tup [.int k,d]::cj (k+1) ds
theorem kj:∀(k:Nat) (l:Zy) (i:Nat),(cj k l)[i]?=(l[i]?).map λd=>.tup [.int ((k+i:Nat):Int),d]
 |_,[],i=>by unfold cj;simp
 |k,d::ds,0=>by unfold cj;simp
 |k,d::ds,i+1=>by
  unfold cj;rw[List.getElem?_cons_succ,List.getElem?_cons_succ,kj (k+1) ds i];have:k+1+i=k+(i+1):=by omega
  rw[this]
theorem kl:∀(k:Nat) (l:List D),(cj k l).length=l.length
 |_,[]=>rfl
 |k,d::ds=>by unfold cj;rw[length_cons,length_cons,kl]
def AM {K:Z8}{G:Hp}{xs:Zu}{ds:Zy}(sq:gy K G a xs)(rl:RepL K G ds xs):A5 K (Hr K a) (cj 0 ds) G:=by
 intro G2 H2 g1 g2 i;have sq2:gy K H2 a xs:=g2.seq (g1.seq sq);refine⟨λd hd=>?_,λhl=>⟨xs,sq2,by rw[kl,rl.length]at hl;exact hl⟩⟩;rw[kj]at hd;cases q:ds[i]? with
 |none=>rw[q]at hd;cases hd
 |some d0=>
  rw[q]at hd;cases hd;obtain⟨v,hv,rv⟩:=rl.get q;refine⟨⟨xs,v,sq2,hv⟩,λy H' hZ171=>?_⟩;obtain⟨p,z,hp,e1,e2,h⟩:=hZ171;subst e1 e2;have q:=h xs sq2;rw[hv]at q;cases q;have x:=Ext.new g2 hp (.tup [.int i,v]);refine⟨_,x,rep_tup.mpr ⟨p,_,rfl,.of au,.cons (rep_int.mpr (by rw[Nat.zero_add])) (.cons (rv.mono (g1.trans x.gg)) .nil)⟩⟩
def tu:List D→Res (List D)
 | [.lst l]=>.ok (cj 0 l)
 |_=>.bad
def hV {fs:Z5}(hg:Gl X "enumerate")(hm:X.mg "enumerate" =none)(ha:lU X E [a] fs)(hs:starEach [a] X.env=[(false,eval a X.env)]:=by rfl):PI X (.Tuple elts x1 tp) (.Call (.Name "enumerate" p) [a] [] pos) (tDI X.K E (λρ=>(fs ρ).bind tu)):=by
 intro pins s σ H R I hZ22;obtain⟨G,ρ,hsm,hro,ho,k⟩:=hZ22;refine Cu hg hm (jd ha) hs pins s σ H R I ⟨G,ρ,hsm,hro,ho.fst,λds e vs G1 H1 x1 p1=>?_⟩;have kk:=ho.snd e x1.hh;unfold tu at kk;split at kk
 ·rename_i l;obtain⟨v,r,rfl,rv,r0⟩:=p1.inv;rw[r0.inv0];rw[rep_lst]at rv;obtain⟨b,xs,rfl,sq,rl⟩:=rv;exact⟨b,rfl,⟨xs,x1.gh.seq sq.sq⟩,k _ (aq e rfl) _ G1 H1 x1 (AM sq.sq rl)⟩
 ·exact kk.elim
end
def Hs (a b:Z2):It:=
 ⟨λi H=>∃xs ys x y,H a=some (.lst xs)∧H b=some (.lst ys)∧xs[i]?=some x∧ys[i]?=some y,λi H x H'=>∃p y z,H p=none∧x= .ref p∧H'=bc H p (.tup [y,z])∧(∀xs,H a=some (.lst xs)→xs[i]?=some y)∧∀ys,H b=some (.lst ys)→ys[i]?=some z,
  λi H=>∃xs ys,H a=some (.lst xs)∧H b=some (.lst ys)∧(xs.length≤i∨ys.length≤i)⟩
def FX (z TI TO i1 i2 a b:Z2)(i:Nat)(h:Y6):Prop:=IsZip h z TI TO .none∧IsPair h TI (.ref i1) (.ref i2)∧(∃x y,IsPair h TO x y)∧h.IsListIter i1 a i∧h.IsListIter i2 b i
structure ZApart (z TI TO i1 i2:Z2):Prop where
 TIz:TI≠z
 TOz:TO≠z
 i1z:i1≠z
 i2z:i2≠z
 TITO:TI≠TO
 TIi1:TI≠i1
 TIi2:TI≠i2
 TOi1:TO≠i1
 TOi2:TO≠i2
 i12:i1≠i2
def qS {X:Cx}{pins:Z9}{H:Hp}{a b z TI TO i1 i2:Z2}{xs ys:Zu}(D:ZApart z TI TO i1 i2)(hf:∀b∈[z,TI,TO,i1,i2],jc X pins H b)(hq:H a=some (.lst xs))(hq':H b=some (.lst ys)):ZipApart z TI TO i1 i2 a b:=
 have na:∀{l:Z2} {zs:List V},H l=some (.lst zs)→∀c∈[z,TI,TO,i1,i2],l≠c:=λhl c hc e=>by rw[e,(hf c hc).1]at hl;cases hl
 ⟨D.TIz,D.TOz,D.i1z,D.i2z,D.TITO,D.TIi1,D.TIi2,D.TOi1,D.TOi2,D.i12,na hq z (by simp),na hq TO (by simp),na hq i1 (by simp),na hq i2 (by simp),na hq' z (by simp),na hq' TO (by simp),na hq' i1 (by simp),na hq' i2 (by simp)⟩
def AV {P:Zv}{w:Zk}{K:Z8}{x1:Nat}(a b z TI TO i1 i2:Z2)(D:ZApart z TI TO i1 i2):Turn P w K (.Tuple elts x1 tp) (Hs a b) [z,TI,TO,i1,i2] z (FX z TI TO i1 i2 a b) where
 mem:=by simp
 obj:=λi h st c r=>by
  obtain⟨hz,l,⟨x,y,q⟩,⟨o1,e1,c1,d1⟩,⟨o2,e2,c2,d2⟩⟩:=st;simp only[mem_cons,not_mem_nil,or_false]at r
  rcases r with rfl|rfl|rfl|rfl|rfl
  ·exact⟨_,hz,λv z=>by cases z⟩
  ·exact⟨_,l,λv z=>by cases z⟩
  ·exact⟨_,q,λv z=>by cases z⟩
  ·exact⟨o1,e1,λv z=>by rw[d1]at z;cases z⟩
  ·exact⟨o2,e2,λv z=>by rw[d2]at z;cases z⟩
 keep:=λi h h' ⟨hz,l,⟨x,y,q⟩,h1,h2⟩ k=>⟨k z (by simp) _ hz,k TI (by simp) _ l,⟨x,y,k TO (by simp) _ q⟩,h1.at λo e=>k i1 (by simp) o e,h2.at λo e=>k i2 (by simp) o e⟩
 item:=by
  intro X hP hw hK r i t s σ H E I hf st hg;subst hP hw hK;obtain⟨hz,l,⟨u0,w0,q⟩,h1,h2⟩:=st;obtain⟨xs,ys,x,y,hq,A,hx,hy⟩:=hg;obtain⟨its,rv,p,_⟩:=I.list (.inl (.inl hq));obtain⟨its',rv',p',_⟩:=I.list (.inl (.inl A));obtain⟨u,hu,ru⟩:=rv.get hx;obtain⟨u',hu',ru'⟩:=rv'.get hy;have DD:=qS D hf hq A;have hfr:=I.hok.fresh (le_refl s.heap.objs.size);have hfp:jc X t H s.heap.objs.size:=I.fpOk (le_refl _) hfr;have lt:∀{c:Z2} {o:Obj},s.heap.get? c=some o→c≠s.heap.objs.size:=λe=>ne_of_lt (Yu e);have hlt:∀c∈[z,TI,TO,i1,i2],c≠s.heap.objs.size:=λc r=>by
   obtain⟨o1,e1,_⟩:=h1;obtain⟨o2,e2,_⟩:=h2;simp only[mem_cons,not_mem_nil,or_false]at r
   rcases r with rfl|rfl|rfl|rfl|rfl
   ·exact lt hz
   ·exact lt l
   ·exact lt q
   ·exact lt e1
   ·exact lt e2
  refine wpAny_pyNext_zip_item DD hz l q h1 h2 p.isList p'.isList (x:=u) (y:=u') (by simpa using hu) (by simpa using hu') λh3 a1 a2 a3 a4 a5 a6 hk=>⟨_,rfl,?_⟩;refine wpAny_letOwnedTupleGo_zip a1 λh4 hz4 m=>?_;have m:Heap.SameBut z h3 h4:=m;have I1:Inv X t σ H {s with heap:=h4,toks:=s.toks}:=I.turnedL (t':=s.toks) (ch:=[z,TI,TO,i1,i2]) hf λc o r e1=>by
   have n:∀d∈[z,TI,TO,i1,i2],c≠d:=λd hd z=>r (by rw[z];exact hd);exact m.extBut c o (n z (by simp)) (hk c o (n z (by simp)) (n TO (by simp)) (n i1 (by simp)) (n i2 (by simp)) e1)
  have ht2:h4.get? s.heap.objs.size=some {cls:=.type "tuple",data:=.seq #[u,u']}:=m.extBut _ _ (Ne.symm (hlt z (by simp))) a5;have I2:=Inv.track (o:=.tup [x,y]) I1 hfp ⟨by show 2≤sizeLine;decide,[u,u'],.cons ru (.cons ru' .nil),_,ht2,rfl,_,rfl⟩;refine⟨.ref s.heap.objs.size,_,I2,rfl,⟨_,x,y,hfr,rfl,rfl,λzs B=>by rw[hq]at B;cases B;exact hx,λzs B=>by rw[A]at B;cases B;exact hy⟩,⟨hz4,m.extBut _ _ D.TIz (hk _ _ D.TIz D.TITO D.TIi1 D.TIi2 l),⟨_,_,m.extBut _ _ D.TOz a2⟩,a3.at λo e=>m.extBut _ o D.i1z e,a4.at λo e=>m.extBut _ o D.i2z e⟩,λc r=>?_⟩;rw[am (hlt c r)];exact(hf c r).1
 done:=by
  intro X hP hw hK r i t s σ H E I hf st hg;subst hP hw hK;obtain⟨hz,l,⟨u0,w0,q⟩,h1,h2⟩:=st;obtain⟨xs,ys,hq,A,hx⟩:=hg;obtain⟨its,rv,p,_⟩:=I.list (.inl (.inl hq));obtain⟨its',rv',p',_⟩:=I.list (.inl (.inl A));have hl:=rv.length;have hl':=rv'.length;exact wpAny_pyNext_zip_end (I.ok.hd r) (qS D hf hq A) hz l q h1 h2 p.isList p'.isList (hx.imp (λhx=>by simp;omega) (λhx=>by simp;omega)) λh3 hk=>⟨rfl,I.turnedL (t':=s.toks) (ch:=[z,TI,TO,i1,i2]) hf λc o r e1=>by
   have n:∀d∈[z,TI,TO,i1,i2],c≠d:=λd hd z=>r (by rw[z];exact hd);exact hk c o (n z (by simp)) (n TO (by simp)) (n i1 (by simp)) (n i2 (by simp)) e1⟩
 self:=λ_ _ _ _ _ st h=>wpAny_pyIter_zip st.1 h
section
variable{X:Cx}{E:XK}{elts:Ze}{x1:Nat}{tp:Pos}
def HG (ta:TA):TI:=λσ H R=>ta σ H λxs H1=>∃a b,xs=[.ref a,.ref b]∧(∃ys,H1 a=some (.lst ys))∧(∃ys,H1 b=some (.lst ys))∧R (Hs a b) H1
def Fg {ta:TA}(hg:Gl X "zip")(hm:X.mg "zip" =none)(ha:PA X [a,b] ta)(hs:starEach [a,b] X.env=[(false,eval a X.env),(false,eval b X.env)]:=by rfl)(hs2:starEach [b] X.env=[(false,eval b X.env)]:=by rfl):PI X (.Tuple elts x1 tp) (.Call (.Name "zip" p) [a,b] [] pos) (HG ta):=by
 intro pins s σ H R I h;refine Call_ (iK I hg hm DT (PyProof.Rows.callWith_type1 (aV (ha pos pins s σ H _ I h) λus t hZ172=>?_) (by rw[hs,hs2]) (by rw[hs2];rfl)));obtain⟨vs,H1,I1,r1,q1⟩:=hZ172;obtain⟨l,m,e,⟨ys,hq⟩,⟨zs,hq'⟩,q⟩:=q1;subst e;cases r1 with
 |cons r rr=>
  cases rr with
  |cons r' rr=>
  cases rr;cases r;cases r';obtain⟨its,rv,pp,hz⟩:=I1.list (.inl (.inl hq));obtain⟨its',rv',pp',hz'⟩:=I1.list (.inl (.inl hq'));refine call_zip_2 pp.isList pp'.isList λh2 b1 b2 b3 b4 b5 b6 hk=>?_;have D:ZApart (t.heap.objs.size+4) (t.heap.objs.size+2) (t.heap.objs.size+3) t.heap.objs.size (t.heap.objs.size+1):=by
   generalize t.heap.objs.size=n;exact⟨by show (n+2:Nat)≠n+4;omega,by show (n+3:Nat)≠n+4;omega,by show (n:Nat)≠n+4;omega,by show (n+1:Nat)≠n+4;omega,by show (n+2:Nat)≠n+3;omega,by show (n+2:Nat)≠n;omega,by show (n+2:Nat)≠n+1;omega,by show (n+3:Nat)≠n;omega,by show (n+3:Nat)≠n+1;omega,by show (n:Nat)≠n+1;omega⟩
  refine wpAny_pyIter_zip (s:={t with heap:=h2}) b1 ⟨t.heap.objs.size+4,[t.heap.objs.size+4,t.heap.objs.size+2,t.heap.objs.size+3,t.heap.objs.size,t.heap.objs.size+1],_,_,H1,rfl,I1.kept (t':=t.toks) hk,AV l m _ _ _ _ _ D,⟨b1,b2,⟨_,_,b3⟩,b4,b5⟩,λc hc=>?_,q⟩
  have hb':t.heap.objs.size≤c:=by
   simp only[mem_cons,not_mem_nil,or_false]at hc
   rcases hc with rfl|rfl|rfl|rfl|rfl
   ·exact le_add_right _ _
   ·exact le_add_right _ _
   ·exact le_add_right _ _
   ·exact le_refl _
   ·exact le_add_right _ _
  exact I1.fpOk hb' (I1.hok.fresh hb')
def ke:List D→List D→List D
 |a::as,b::bs=>.tup [a,b]::ke as bs
 |_,_=>[]
theorem uG:∀(l m:Zy) (i:Nat) (d:D),(ke l m)[i]?=some d→∃a b,l[i]?=some a∧m[i]?=some b∧d= .tup [a,b]
 | [],_,i,d,h=>by unfold ke at h;simp at h
 |_::_,[],i,d,h=>by unfold ke at h;simp at h
 |a::as,b::bs,0,d,h=>by unfold ke at h;simp at h;exact⟨a,b,rfl,rfl,h.symm⟩
 |a::as,b::bs,i+1,d,h=>by
  unfold ke at h;obtain⟨x,y,h1,h2,h3⟩:=uG as bs i d (by simpa using h);exact⟨x,y,by simpa using h1,by simpa using h2,h3⟩
theorem uH:∀(l m:List D),(ke l m).length=min l.length m.length
 | [],_=>by unfold ke;simp
 |_::_,[]=>by unfold ke;simp
 |a::as,b::bs=>by unfold ke;rw[length_cons,length_cons,length_cons,uH];omega
def C2 {K:Z8}{G:Hp}{xs ys:Zu}{ds es:Zy}(sq:LsS K G a xs)(rl:RepL K G ds xs)(sq':LsS K G b ys)(rl':RepL K G es ys):A5 K (Hs a b) (ke ds es) G:=by
 intro G2 H2 g1 g2 i;have s2:=g2 _ _ (g1 _ _ sq.h);have s2':=g2 _ _ (g1 _ _ sq'.h);refine⟨λd hd=>?_,λhl=>⟨xs,ys,s2,s2',by rw[uH,rl.length,rl'.length]at hl;omega⟩⟩;obtain⟨d1,d2,q1,q2,e⟩:=uG _ _ _ _ hd;subst e;obtain⟨v,hv,rv⟩:=rl.get q1;obtain⟨v',hv',rv'⟩:=rl'.get q2;refine⟨⟨xs,ys,v,v',s2,s2',hv,hv'⟩,λy H' hZ173=>?_⟩;obtain⟨p,z,z',hp,e1,e2,h,h'⟩:=hZ173;subst e1 e2;have q:=h xs s2;rw[hv]at q;cases q;have q:=h' ys s2';rw[hv']at q;cases q;have x:=Ext.new g2 hp (.tup [v,v']);exact⟨_,x,rep_tup.mpr ⟨p,_,rfl,.of au,.cons (rv.mono (g1.trans x.gg)) (.cons (rv'.mono (g1.trans x.gg)) .nil)⟩⟩
def vP:List D→Res (List D)
 | [.lst l,.lst m]=>.ok (ke l m)
 |_=>.bad
def wM {fs:Z5}(hg:Gl X "zip")(hm:X.mg "zip" =none)(ha:lU X E [a,b] fs)(hs:starEach [a,b] X.env=[(false,eval a X.env),(false,eval b X.env)]:=by rfl)(hs2:starEach [b] X.env=[(false,eval b X.env)]:=by rfl):PI X (.Tuple elts x1 tp) (.Call (.Name "zip" p) [a,b] [] pos) (tDI X.K E (λρ=>(fs ρ).bind vP)):=by
 intro pins s σ H R I hZ23;obtain⟨G,ρ,hsm,hro,ho,k⟩:=hZ23;refine Fg hg hm (jd ha) hs hs2 pins s σ H R I ⟨G,ρ,hsm,hro,ho.fst,λds e vs G1 H1 x1 p1=>?_⟩;have kk:=ho.snd e x1.hh;unfold vP at kk;split at kk
 ·rename_i l m;obtain⟨v,r,rfl,rv,r0⟩:=p1.inv;obtain⟨v',r',rfl,rv',r0'⟩:=r0.inv;rw[r0'.inv0];rw[rep_lst]at rv rv';obtain⟨b1,xs,rfl,sq,rl⟩:=rv;obtain⟨b2,ys,rfl,sq',rl'⟩:=rv';exact⟨b1,b2,rfl,⟨xs,x1.gh _ _ sq.h⟩,⟨ys,x1.gh _ _ sq'.h⟩,k _ (aq e rfl) _ G1 H1 x1 (C2 sq rl sq' rl')⟩
 ·exact kk.elim
end
inductive tN (K:Z8)(E:XK)(n:Nat)(f:Z7)(σ:St)(H:Hp)(Q:VK):Prop
 |mk (G:Hp) (ρ:DS) (s:Same G H) (r:Ro K G σ ρ) (o:OkR E H (f ρ)) (k:∀d,f ρ= .ok d→∀v G' H' S,Ext G H G' H'→Ow K G' H' n d v S→New H G' S→Q v H')
def TN (K:Z8)(E:XK)(n:Nat)(f:Z7)(te:TE):Prop:=
 ∀(σ:St) (G H:Hp) (ρ:DS) (Q:VK),Same G H→Ro K G σ ρ→OkR E H (f ρ)→(∀d,f ρ= .ok d→∀v G' H' S,Ext G H G' H'→Ow K G' H' n d v S→New H G' S→Q v H')→te σ H Q
def Ext.hnew {G H G' H':Hp}(x:Ext G H G' H')(hp:H' p=none)(o:HO):Ext G H G' (bc H' p o):=
 ⟨λb u e=>by rw[am (aD (x.hh b u e) hp)];exact x.hh b u e,x.gg,λb u e=>by rw[am (aD (x.gh b u e) hp)];exact x.gh b u e,x.nw⟩
def New.step {H G2 H2 G3 H3:Hp}{S:Zt}(w:New H G2 S)(hc:∀a∈S,∃o,H2 a=some o∧¬oG o)(x:Ext G2 H2 G3 H3):New H G3 S:=⟨w.1,λa ha=>⟨(w.2 a ha).1,by
 cases q:G3 a with
 |none=>rfl
 |some o=>
  rcases x.nw a o q with z|z
  ·rw[(w.2 a ha).2]at z;cases z
  ·obtain⟨o',h,hk⟩:=hc a ha
   rcases z with z|z
   ·rw[z]at h;cases h
   ·have h2:=x.gh a o q;rw[x.hh a _ h]at h2;cases h2;exact(hk z).elim⟩⟩
def New.join {H H2 G:Hp}{S T:Zt}(w:New H G S)(w':New H2 G T)(hc:∀a∈S,∃o,H2 a=some o∧¬oG o)(sh:Same H H2):New H G (S ++ T):=by
 refine⟨nodup_append.mpr ⟨w.1,w'.1,λa ha b hb e=>?_⟩,λa ha=>?_⟩
 ·subst e;obtain⟨o,h,_⟩:=hc a ha;rw[(w'.2 a hb).1]at h;cases h
 ·rcases mem_append.mp ha with z|z
  ·exact w.2 a z
  ·exact⟨sh.free (w'.2 a z).1,(w'.2 a z).2⟩
def AllW.has {K:Z8}{G H:Hp}{n:Nat}{ds:Zy}{vs:Zu}{S:Zt}(h:AllW (Ow K G H n) ds vs S):∀a∈S,∃o,H a=some o∧¬oG o:=h.cell λd v A q a ha=>let ⟨o,e,c⟩:=q.cell a ha;⟨o,e,c.nokey⟩
section
variable{X:Cx}{E:XK}{μ:Zz}{r n:Nat}
def Aa {f:Z7}(h:PN X E n e f):PE X e (tN X.K E n f):=by
 intro pins s σ H Q I hZ24;obtain⟨G,ρ,hs,hr,ho,k⟩:=hZ24;exact aV (h pins s σ G H ρ I hs hr ho) λu s' hZ174=>(by obtain⟨d,e,v,G',H',S,I',rv,x,o,w⟩:=hZ174;exact⟨v,H',I',rv,k d e v G' H' S x o w⟩)
def PN.tn {f:Z7}{te:TE}(h:PE X e te)(t:TN X.K E n f te):PN X E n e f:=by
 intro pins s σ G H ρ I hs hr ho;refine aV (h pins s σ H (λv H'=>∃d G' S,f ρ= .ok d∧Ext G H G' H'∧Ow X.K G' H' n d v S∧New H G' S) I (t σ G H ρ _ hs hr ho λd e v G' H' S x o w=>⟨d,G',S,e,x,o,w⟩)) λu s' hZ175=>(by obtain⟨v,H',I',rv,d,G',S,e,x,o,w⟩:=hZ175;exact⟨d,e,v,G',H',S,I',rv,x,o,w⟩)
def jC {K:Z8}{G G' H H':Hp}{ds:Zy}{vs:Zu}(x:Ext G H G' H')(hp:H' p=none)(rl:RepL K G' ds vs):Ext G H G' (bc H' p (.lst vs))∧Ow K G' (bc H' p (.lst vs)) 1 (.lst ds) (.ref p) [p]∧New H G' [p]:=by
 refine⟨x.hnew hp _,⟨p,vs,[],rfl,au,rfl,?_⟩,⟨nodup_cons.mpr ⟨not_mem_nil,nodup_nil⟩,λa ha=>?_⟩⟩
 ·have go:∀{ds:Zy} {vs:List V},RepL K G' ds vs→AllW (Ow K G' (bc H' p (.lst vs)) 0) ds vs []:=by
   intro ds
   induction ds with
   |nil=>intro vs h;exact⟨h.inv0,rfl⟩
   |cons d ds ih=>
    intro vs h;obtain⟨v,q,rfl,h1,h2⟩:=h.inv;refine⟨v,q,[],[],rfl,rfl,⟨rfl,h1⟩,(ih h2).mono λd v A _ _ z=>?_⟩;exact z
  exact(go rl).mono λd v A _ _ z=>z
 ·have e:a=p:=by simpa using ha
  subst e;exact⟨x.hh.free hp,by
   cases q:G' a with
   |none=>rfl
   |some o=>rw[x.gh a o q]at hp;cases hp⟩
def oZ {f:Z5}(h:lU X E es f):PN X E 1 (.List es pos) (cU f):=by
 refine .tn (vt (jd h)) λσ G H ρ Q hs hro ho k=>⟨G,ρ,hs,hro,ho.fst,λds e vs G1 H1 x1 r1=>?_⟩;have kk:=ho.snd e x1.hh;by_cases hl:aQ ds.length=true
 ·refine⟨by rw[←r1.length];exact bK hl,λp hp=>?_⟩;obtain⟨x,o,w⟩:=jC x1 hp r1;exact k (.lst ds) (aq e (Yo hl)) _ _ _ _ x o w
 ·rw[Ym hl]at kk;exact kk.elim
def CD {CX:sO}{k:Nat}{fd:Y7}{ps:Zw}{m:Zr}{p pos:Ys}{e:Y3}{es:Ze}{fs:Z5}(F:FnOk X.prog X.w X.K X.mg X.base CX k f fd ps (freshSp X.K n m))(hr:Room k X.A)(hg:Gl X x)(hm:X.mg x=some (.ref f))(hk:W.keepIn X.K (.ref f)=true)(hb:Binds X.K fd ps [])(hx:de CX X E)(ha:lU X E (e::es) fs) (hdb:zQ1 x:=by decide) (he:zQ2 X e es:=by rfl) (hpl:(backTo pos (starEach es X.env)).any (·.1)=false:=by rfl) :
  PN X E n (.Call (.Name x p) (e::es) [] pos) (bb fs m):=
 .tn (Co F hr hg hm hk hb .nil hx (jd ha) hdb he hpl) λσ G H ρ Q hs hro ho k=>⟨G,ρ,hs,hro,ho.fst,λds e1 vs G1 H1 x1 p1=>⟨ds,G1,x1.gh,by rw[append_nil];exact p1,ho.snd e1 x1.hh,λd ed v G' H' S xx o w=>k d (aq e1 ed) v G' H' S (x1.trans xx) o ⟨w.1,λa ha=>⟨x1.hh.free (w.2 a ha).1,(w.2 a ha).2⟩⟩⟩⟩
def wU {f:Z7}(h:PD X E e f)(hg:Gl X "list")(hm:X.mg "list" =none)(he:zQ2 X e []:=by rfl):PN X E 1 (.Call (.Name "list" p) [e] [] pos) (bb (λρ=>(f ρ).bind λd=>.ok [d]) cD):=by
 have hpd:lU X E [e] (λρ=>(f ρ).bind λd=>.ok [d]):=aa h af he;refine .tn (eh (x:= "list") (p:=p) (pos:=pos) iD hg hm jP (jd hpd) (by decide) (by decide) he rfl) λσ G H ρ Q hs hro ho k=>⟨G,ρ,hs,hro,ho.fst,λds e1 vs G1 H1 x1 p1=>?_⟩;have kk:=ho.snd e1 x1.hh;have e0:bb (λρ=>(f ρ).bind λd=>.ok [d]) cD ρ=cD ds:=by show ((f ρ).bind λd=>Res.ok [d]).bind cD=_;rw[e1];rfl
 unfold cD at kk;split at kk
 ·obtain⟨v,r,rfl,rx,r0⟩:=p1.inv;rw[r0.inv0];rw[rep_lst]at rx;obtain⟨q,xs,rfl,sq,rx⟩:=rx;refine⟨q,xs,rfl,.inl (x1.gh.seq sq.sq),λl hl=>?_⟩;obtain⟨x,o,w⟩:=jC x1 hl rx;exact k _ e0 _ _ _ _ x o w
 ·obtain⟨v,r,rfl,rx,r0⟩:=p1.inv;rw[r0.inv0];rw[rep_tup]at rx;obtain⟨q,xs,rfl,sq,rx⟩:=rx;refine⟨q,xs,rfl,.inr (x1.gh.seqT sq),λl hl=>?_⟩;obtain⟨x,o,w⟩:=jC x1 hl rx;exact k _ e0 _ _ _ _ x o w
 ·exact kk.elim
def PZ.zero {f:Z7}(h:PZ X E μ n e f):PZ X E μ 0 e f:=by
 intro pins s σ Ge B G H ρ fp I R ho;refine aV (h pins s σ Ge B G H ρ fp I R ho) λu s' hZ176=>?_;obtain⟨d,e,v,t,L,S,I',rv,r,sg,sh,o,w⟩:=hZ176;have dec:∀b,Decidable (b∈S):=λb=>Classical.propDecidable _;have Y:Same t (λb=>if b∈S then L b else t b):=λb u e=>by
  show (if b∈S then L b else t b)=some u
  by_cases q:b∈S
  ·rw[(w.2 b q).2]at e;cases e
  ·rw[Ym q];exact e
 have rp:Rep X.K (λb=>if b∈S then L b else t b) d v:=o.rep Y λa ha u e=>by
  show (if a∈S then L a else t a)=some u
  rw[Yo ha];exact e
 refine⟨d,e,v,λb=>if b∈S then L b else t b,L,[],I',rv,⟨λb u e=>?_,r.eg.trans Y,r.bh,λb u e=>?_,λi a e=>?_,r.ob,r.oc,r.nd,r.dj,λi d e=>?_⟩,sg.trans Y,sh,⟨rfl,rp⟩,.nil⟩
 ·have e:(if b∈S then L b else t b)=some u:=e
  by_cases q:b∈S
  ·rw[Yo q]at e;exact e
  ·rw[Ym q]at e;exact r.gh b u e
 ·have e:(if b∈S then L b else t b)=some u:=e
  by_cases q:b∈S
  ·exact .inr (.inl (R.bh.free (w.2 b q).1))
  ·rw[Ym q]at e;exact r.nw b u e
 ·show (if a∈S then L a else t a)=none
  rw[Ym (λz=>R.apart w i a z e)];exact r.gf i a e
 ·obtain⟨v,hv,hh⟩:=r.sl i d e;exact⟨v,hv,hh.mono Y λa _ o eo=>eo⟩
def ll {ρ:DS}:gX [] ρ=ρ:=by
 unfold gX;apply ext_getElem?;intro i;rw[List.getElem?_mapIdx];cases ρ[i]? <;> simp
def a7 {f:Z7}(h:PN X E n e f):PZ X E [] n e f:=by
 have:=ao (μ:=[]) h;unfold bz at this;simp only[ll]at this;exact this
def vO {fi:Z5}(h:PI X tg iter (tDI X.K E fi)):PI X tg iter (tZI X.K E [] fi):=by
 have:=cw (μ:=[]) h;unfold nE at this;simp only[ll]at this;exact this
def CB {st:Yq}{i:Nat}{te:TE}{f:Z7}(hi:X.N[i]?=some x)(hps:PS X st (uz te (cC i)))(t:TN X.K E n f te)(hm:μ.getD i 0=n):lV X E μ r st (aF i (bz μ f)):=by
 intro pins s σ Ge B G H ρ fp I R ho;have hiσ:i<σ.length:=by rw[I.len];exact(fR hi).1
 refine aV (hps pins s σ H {nx:=λσ' H'=>∃d v G' S,bz μ f ρ= .ok d∧σ'=σ.set i (some v)∧Rw X.K μ Ge B G' H' σ ρ fp∧Same G G'∧Ow X.K G' H' n d v S∧New H G' S,bk:=λ_ _=>False,ct:=λ_ _=>False,rt:=λ_ _=>False} I (t σ G H (gX μ ρ) _ R.gh R.rof (ho.res.le R.bh) λd e v G' H' S x o w=>⟨d,v,G',S,e,rfl,R.growF x,x.gg,o,w⟩)) λfl s1 q=>?_
 ·cases fl with
  |next=>
   obtain⟨σ',H',I',d,v,G',S,e,e2,R',sg,o,w⟩:=q;subst e2;rw[←hm]at o;exact⟨_,_,G',H',_,bY e,I',R'.put hiσ o w.1 (λa ha=>⟨(w.2 a ha).2,R.bh.free (w.2 a ha).1⟩) (λj _=>R.apart w j),sg⟩
  |brk=>obtain⟨_,_,_,q⟩:=q;exact q.elim
  |cont=>obtain⟨_,_,_,q⟩:=q;exact q.elim
  |ret u=>obtain⟨_,_,_,_,_,q⟩:=q;exact q.elim
end
def TN.freeze {K:Z8}{E:XK}{n:Nat}{f:Z7}{te:TE}(t:TN K E n f te):TN K E 0 f te:=λσ G H ρ Q hs hr ho k=>t σ G H ρ Q hs hr ho λd e v G' H' S x o w=>by
 obtain⟨G2,x2,_,rp⟩:=x.freeze hs w o;exact k d e v G2 H' [] x2 ⟨rfl,rp⟩ .nil
def GC (K:Z8)(n:Nat)(g:TG)(asg:Za):Prop:=
 ∀(G H:Hp) (σ:St) (ρ ρ':DS) (v:V) (d:D),σ.length=n→Same G H→Ro K G σ ρ→Rep K G d v→asg d ρ=some ρ'→g v σ H λσ' H'=>H'=H∧Ro K G σ' ρ'
def wl {K:Z8}{n j:Nat}(hj:j<n):GC K n (cC j) (aS j):=by
 intro G H σ ρ ρ' v d hl hs R h e;cases e;exact⟨rfl,R.set (by rw[hl];exact hj) h⟩
def zk {K:Z8}{n j k:Nat}(hj:j<n)(hk:k<n):GC K n (xJ K 2 (jw (cC j) (jw (cC k) xI))) (iu j k):=by
 intro G H σ ρ ρ' v d hl hs R h e;unfold iu at e;split at e
 ·rename_i a b;cases e;rw[rep_tup]at h;obtain⟨p,xs,rfl,t,rl⟩:=h;obtain⟨x,q,rfl,rx,rl⟩:=rl.inv;obtain⟨y,q,rfl,ry,rl⟩:=rl.inv;have:=rl.inv0;subst this;have R2:=(R.set (j:=j) (by rw[hl];exact hj) rx).set (j:=k) (by rw[length_set,hl];exact hk) ry;exact⟨p,[x,y],rfl,(show TpS K H p _ from ⟨hs _ _ t.h⟩).sq,rfl,x,[y],rfl,y,[],rfl,rfl,rfl,R2⟩
 ·cases e
def mX {K:Z8}{caps:Zn}{i j:Nat}(hi:caps[i]?=some none)(hj:caps[j]?=some none):kZ caps (xJ K 2 (jw (cC i) (jw (cC j) xI))):=λx σ0 H Q q=>by
 obtain⟨a,xs,e1,sq,hl,v1,r1,e2,v2,r2,e3,e4,q⟩:=q;refine⟨a,xs,e1,sq,hl,v1,r1,e2,v2,r2,e3,e4,q,by simp,λk m v hk hv=>?_⟩;have n1:k≠i:=λz=>by rw[z,hi]at hk;cases hk
 have n2:k≠j:=λz=>by rw[z,hj]at hk;cases hk
 rw[getElem?_set_ne (Ne.symm n2),getElem?_set_ne (Ne.symm n1)];exact hv
def pI {α:Type}(asg:Za)(ρ:DS)(f:DS→Res α)(d:D):Res α:=match asg d ρ with
 |some ρ'=>f ρ'
 |none=>.bad
def aU (fi:Z5)(caps:Zn)(asg:Za)(ft:Zp)(fe:Z7):DS→Res D:=λρ=>(fi ρ).bind λds=>if aQ ds.length=true then
 (bS (pI asg (e_ caps ρ) ft) (pI asg (e_ caps ρ) fe) ds).bind λes=>.ok (.lst es) else .bad
theorem l_ {t:D→Res Bool}{f:D→Res D}:∀(l:List D),bS t f l≠ .exc c
 | []=>λz=>by unfold bS at z;cases z
 |a::as=>λz=>by
  unfold bS at z;split at z
  ·split at z
   ·cases q:bS t f as with
    |bad=>rw[q]at z;cases z
    |ok x=>rw[q]at z;cases z
    |exc c'=>rw[q]at z;have z':Res.exc c'=Res.exc c:=z;cases z';exact l_ as q
   ·cases z
  ·exact l_ as z
  ·cases z
theorem iG {t:D→Res Bool}{f:D→Res D}{d:D}{o:Zy}(hd:bS t f [d]= .ok o):∀{as es:List D},bS t f as= .ok es→bS t f (as ++ [d])= .ok (es ++ o)
 | [],es,h=>by unfold bS at h;cases h;exact hd
 |a::as,es,h=>by
  rw[List.cons_append];unfold bS at h ⊢;split at h
  ·rename_i ha;split at h
   ·rename_i e0 hf;cases q:bS t f as with
    |bad=>rw[q]at h;cases h
    |exc c=>rw[q]at h;cases h
    |ok e2=>
     rw[q]at h;have h':Res.ok (e0::e2)=Res.ok es:=h;cases h';rw[iG hd q];rfl
   ·cases h
  ·exact iG hd h
  ·cases h
section
variable{X:Cx}{E:XK}{n:Nat}
def nP {K:Z8}{caps:Zn}{g:TG}{asg:Za}{fi:Z5}{ft:Zp}{fe:Z7}(hg:GC K caps.length g asg)(hgm:∀x σ H (Q Q':St→Hp→Prop),(∀σ' H',Q σ' H'→Q' σ' H')→g x σ H Q→g x σ H Q') :
  TN K E (n+1) (aU fi caps asg ft fe) (AQ (tDI K E fi) caps g (tDT K pJ ft) (tN K pJ n fe)):=by
 intro σ G H h Q hs hro ho k;refine⟨G,h,hs,hro,ho.fst,λZ e J G1 H1 x1 src=>?_⟩;have kk:=ho.snd e x1.hh;by_cases hl:aQ Z.length=true
 ·rw[Yo hl]at kk;cases hm:bS (pI asg (e_ caps h) ft) (pI asg (e_ caps h) fe) Z with
  |bad=>rw[hm]at kk;exact kk.elim
  |exc c=>exact absurd hm (l_ Z)
  |ok es=>
   have hres:aU fi caps asg ft fe h= .ok (.lst es):=aq e (by rw[Yo hl];exact aq hm rfl);refine⟨λi m ys H2=>m=Z.length-i∧i≤Z.length∧∃F s S,Ext G1 H1 F H2∧bS (pI asg (e_ caps h) ft) (pI asg (e_ caps h) fe) (Z.take i)= .ok s∧AllW (Ow K F H2 n) s ys S∧New H1 F S,
    ⟨_,rfl,zero_le _,G1,[],[],.refl x1.gh,rfl,⟨rfl,rfl⟩,.nil⟩,?_⟩
   intro i m ys H2 hZ25;obtain⟨rfl,hi,F,s,S,x2,u,I,w1⟩:=hZ25;have hlen:ys.length≤sizeLine:=by
    have h1:=ma u;rw[length_take]at h1;have h2:=bK hl;rw[←I.length];omega
   obtain⟨sg,ss⟩:=src F H2 x2.gg x2.gh i;by_cases hlt:i<Z.length
   ·obtain⟨go,yl⟩:=sg Z[i] (by simp[hlt]);have r:Z=Z.take i ++ (Z[i]::Z.drop (i+1)):=by rw[List.getElem_cons_drop,List.take_append_drop]
    refine .inr ⟨go,λys' H'=>∃F s S,Ext G1 H1 F H'∧bS (pI asg (e_ caps h) ft) (pI asg (e_ caps h) fe) (Z.take (i+1))= .ok s∧AllW (Ow K F H' n) s ys' S∧New H1 F S,λys' H' hZ177=>(by obtain⟨G3,es3,S3,a,b,c,d⟩:=hZ177;exact⟨Z.length-(i+1),by omega,rfl,hlt,G3,es3,S3,a,b,c,d⟩),λx H' hy=>?_⟩;obtain⟨G3,x3,rx⟩:=yl x H' hy;have htk:Z.take (i+1)=Z.take i ++ [Z[i]]:=by rw[List.take_add_one];simp[hlt]
    have hm2:=hm;rw[r]at hm2;obtain⟨ea,eb,q1,B,q3⟩:=l9 hm2;rw[u]at q1;cases q1;have hcl:(f9 caps σ).length=caps.length:=by simp[f9]
    unfold bS at B;have ht0:∃b,pI asg (e_ caps h) ft Z[i]= .ok b:=by
     cases C:pI asg (e_ caps h) ft Z[i] with
     |bad=>rw[C]at B;cases B
     |exc c=>rw[C]at B;cases B
     |ok b=>exact⟨b,rfl⟩
    obtain⟨b,C⟩:=ht0;rw[C]at B;cases qa:asg Z[i] (e_ caps h) with
    |none=>unfold pI at C;rw[qa]at C;cases C
    |some w=>
    have ht2:ft w= .ok b:=by unfold pI at C;rw[qa]at C;exact C
    refine hgm _ _ _ _ _ (λσ2 H3 hZ178=>?_) (hg G3 H' _ _ w x Z[i] hcl x3.gh (Bl (hro.mono ((x1.gg.trans x2.gg).trans x3.gg))) rx qa);obtain⟨e3,ro3⟩:=hZ178;subst e3;refine⟨G3,w,x3.gh,ro3,by rw[ht2];trivial,λb' eb' G4 H4 x4=>?_⟩;rw[ht2]at eb';cases eb';have x24:=(x2.trans x3).trans x4;have M:=x3.trans x4;have L:AllW (Ow K G4 H4 n) s ys S:=I.mono λd v A _ _ z=>z.mono M.gg λa _ o eo=>M.hh a o eo;have w4:New H1 G4 S:=w1.step I.has M;cases b with
    |false=>
     rw[Ym Bool.false_ne_true];refine⟨G4,s,S,x24,?_,L,w4⟩;rw[htk];have:=iG (t:=pI asg (e_ caps h) ft) (f:=pI asg (e_ caps h) fe) (d:=Z[i]) (o:=[]) (by unfold bS;rw[C];rfl) u;rw[append_nil]at this;exact this
    |true=>
     rw[Yo rfl];dsimp only at B;have fe2:pI asg (e_ caps h) fe Z[i]=fe w:=by unfold pI;rw[qa]
     refine⟨hlen,G4,w,x4.gh,ro3.mono x4.gg,?_,λy ey v G5 H5 S5 x5 ry w5=>?_⟩
     ·rw[fe2]at B;cases hf:fe w with
      |ok y=>trivial
      |exc c=>rw[hf]at B;cases B
      |bad=>rw[hf]at B;cases B
     ·refine⟨G5,s ++ [y],S ++ S5,x24.trans x5,?_,(L.mono λd v A _ _ z=>z.mono x5.gg λa _ o eo=>x5.hh a o eo).append (.one ry),(w4.step L.has x5).join w5 L.has (x2.hh.trans M.hh)⟩;rw[htk];exact iG (by unfold bS;rw[C,fe2,ey];rfl) u
   ·have hie:i=Z.length:=by omega
    subst hie;rw[take_length,hm]at u;cases u;refine .inl ⟨ss (le_refl _),hlen,λp hp=>?_⟩;have x12:=x1.trans x2;refine k _ hres (.ref p) F _ (p::S) (x12.hnew hp _) ⟨p,ys,S,rfl,au,rfl,I.mono λd v A _ hA z=>z.mono (.refl _) λa ha o eo=>by rw[am (aD eo hp)];exact eo⟩ ⟨nodup_cons.mpr ⟨λz=>?_,w1.1⟩,λa ha=>?_⟩
    ·obtain⟨o,ho,_⟩:=I.has p z;rw[hp]at ho;cases ho
    ·rcases mem_cons.mp ha with z|z
     ·subst z;exact⟨x12.hh.free hp,by
       cases q:F a with
       |none=>rfl
       |some o=>rw[x2.gh a o q]at hp;cases hp⟩
     ·exact⟨x1.hh.free (w1.2 a z).1,(w1.2 a z).2⟩
 ·rw[Ym hl]at kk;exact kk.elim
def wn {j:Nat}:∀x σ H (Q Q':St→Hp→Prop),(∀σ' H',Q σ' H'→Q' σ' H')→cC j x σ H Q→cC j x σ H Q':=λ_ _ _ _ _ k h=>k _ _ h
def zm {K:Z8}{j i:Nat}:∀x σ H (Q Q':St→Hp→Prop),(∀σ' H',Q σ' H'→Q' σ' H')→xJ K 2 (jw (cC j) (jw (cC i) xI)) x σ H Q→xJ K 2 (jw (cC j) (jw (cC i) xI)) x σ H Q':=λ_ _ _ _ _ k h=>by
 obtain⟨a,xs,e1,sq,hl,v1,r1,e2,v2,r2,e3,e4,q⟩:=h;exact⟨a,xs,e1,sq,hl,v1,r1,e2,v2,r2,e3,e4,k _ _ q⟩
def bI {elt iter:Y3}{ifs:Ze}{px pos:Ys}{scope:Yz}{N:Zw}{caps:Zn}{j:Nat}{fi:Z5}{ft:Zp}{fe:Z7}(hc:X.calm=true)(S:CompSc X scope N caps)(hjN:N[j]?=some x)(hjc:caps[j]?=some none)(hjl:sP scope x)(hi:PI X (.Name x px) iter (tDI X.K E fi)) (ht:∀s H C ex,xh (X.comp s H scope C N ex) pJ ifs ft) (he:∀s H C ex,PN (X.comp s H scope C N ex) pJ n elt fe)(hs:∀x,foldedSetIterable iter X.env x=pure x:=by intro _;rfl):PN X E (n+1) (.ListComp elt [⟨.Name x px,iter,ifs,0⟩] scope pos) (aU fi caps (aS j) ft fe):=
 have hlb:=dm (env:=X.env) hjl
 .tn (wJ (pos:=pos) (te:=tN X.K pJ n fe) (tc:=tDT X.K pJ ft) hc S hi (λs H C ex=>eG (X:=X.comp s H scope C N ex) (i:=j) S.nd hjN hlb.1 hlb.2) (lw hjc) (λs H C ex=>ht s H C ex) (λs H C ex=>Aa (he s H C ex)) hs)
  (nP (wl (fR hjc).1) wn)
def uf {elt iter:Y3}{ifs:Ze}{px py pt pos:Ys}{kt:Nat}{scope:Yz}{N:Zw}{caps:Zn}{j l:Nat}{fi:Z5}{ft:Zp}{fe:Z7}(hc:X.calm=true)(S:CompSc X scope N caps)(hjN:N[j]?=some x)(hlN:N[l]?=some y)(hjc:caps[j]?=some none)(hlc:caps[l]?=some none)(hjl:sP scope x)(hll:sP scope y)(hi:PI X (.Tuple [.Name x px,.Name y py] kt pt) iter (tDI X.K E fi)) (ht:∀s H C ex,xh (X.comp s H scope C N ex) pJ ifs ft) (he:∀s H C ex,PN (X.comp s H scope C N ex) pJ n elt fe)(hs:∀x,foldedSetIterable iter X.env x=pure x:=by intro _;rfl):PN X E (n+1) (.ListComp elt [⟨.Tuple [.Name x px,.Name y py] kt pt,iter,ifs,0⟩] scope pos) (aU fi caps (iu j l) ft fe):=
 have hlb:=dm (env:=X.env) hjl;have hlb':=dm (env:=X.env) hll
 .tn (wJ (pos:=pos) (te:=tN X.K pJ n fe) (tc:=tDT X.K pJ ft) hc S hi (λs H C ex=>vx (X:=X.comp s H scope C N ex) hc (hJ (eG (X:=X.comp s H scope C N ex) (i:=j) S.nd hjN hlb.1 hlb.2) (hJ (eG (X:=X.comp s H scope C N ex) (i:=l) S.nd hlN hlb'.1 hlb'.2) sk))) (mX hjc hlc) (λs H C ex=>ht s H C ex) (λs H C ex=>Aa (he s H C ex)) hs)
  (nP (zk (fR hjc).1 (fR hlc).1) zm)
def Ap {elt iter:Y3}{ifs:Ze}{px py pos spos:Ys}{scope:Yz}{N:Zw}{caps:Zn}{i j:Nat}{fi:Z5}{ft:Zp}{fe:Z7}(hN:X.N.Nodup)(hi:X.N[i]?=some y)(hy:X.env.scope.names.lookup y=some .local)(hc:X.calm=true)(S:CompSc X scope N caps)(hjN:N[j]?=some x)(hjc:caps[j]?=some none)(hjl:sP scope x)(hit:PI X (.Name x px) iter (tDI X.K E fi)) (ht:∀s H C ex,xh (X.comp s H scope C N ex) pJ ifs ft) (he:∀s H C ex,PN (X.comp s H scope C N ex) pJ n elt fe)(hsw:swapsWith (.ListComp elt [⟨.Name x px,iter,ifs,0⟩] scope pos) (some (.Name y py)) spos.line X.env=pure true:=by rfl)(hs:∀x,foldedSetIterable iter X.env x=pure x:=by intro _;rfl):∃te,PS X (.Assign [.Name y py] (.ListComp elt [⟨.Name x px,iter,ifs,0⟩] scope pos) spos) (uz te (cC i))∧TN X.K E (n+1) (aU fi caps (aS j) ft fe) te:=
 have hlb:=dm (env:=X.env) hjl
 ⟨_,pb (pos:=pos) (py:=py) (spos:=spos) (te:=tN X.K pJ n fe) (tc:=tDT X.K pJ ft) hN hi hy hc S hit (λs H C ex=>eG (X:=X.comp s H scope C N ex) (i:=j) S.nd hjN hlb.1 hlb.2) (lw hjc) (λs H C ex=>ht s H C ex) (λs H C ex=>Aa (he s H C ex)) hsw hs,
  nP (wl (fR hjc).1) wn⟩
def Ao {elt iter:Y3}{ifs:Ze}{px pz pt py pos spos:Ys}{kt:Nat}{scope:Yz}{N:Zw}{caps:Zn}{i j l:Nat}{fi:Z5}{ft:Zp}{fe:Z7}(hN:X.N.Nodup)(hi:X.N[i]?=some y)(hy:X.env.scope.names.lookup y=some .local)(hc:X.calm=true)(S:CompSc X scope N caps)(hjN:N[j]?=some x)(hlN:N[l]?=some z)(hjc:caps[j]?=some none)(hlc:caps[l]?=some none)(hjl:sP scope x)(hll:sP scope z)(hit:PI X (.Tuple [.Name x px,.Name z pz] kt pt) iter (tDI X.K E fi)) (ht:∀s H C ex,xh (X.comp s H scope C N ex) pJ ifs ft) (he:∀s H C ex,PN (X.comp s H scope C N ex) pJ n elt fe)(hsw:swapsWith (.ListComp elt [⟨.Tuple [.Name x px,.Name z pz] kt pt,iter,ifs,0⟩] scope pos) (some (.Name y py)) spos.line X.env=pure true:=by rfl)(hs:∀x,foldedSetIterable iter X.env x=pure x:=by intro _;rfl):∃te,PS X (.Assign [.Name y py] (.ListComp elt [⟨.Tuple [.Name x px,.Name z pz] kt pt,iter,ifs,0⟩] scope pos) spos) (uz te (cC i))∧TN X.K E (n+1) (aU fi caps (iu j l) ft fe) te:=
 have hlb:=dm (env:=X.env) hjl;have hlb':=dm (env:=X.env) hll
 ⟨_,pb (pos:=pos) (py:=py) (spos:=spos) (te:=tN X.K pJ n fe) (tc:=tDT X.K pJ ft) hN hi hy hc S hit (λs H C ex=>vx (X:=X.comp s H scope C N ex) hc (hJ (eG (X:=X.comp s H scope C N ex) (i:=j) S.nd hjN hlb.1 hlb.2) (hJ (eG (X:=X.comp s H scope C N ex) (i:=l) S.nd hlN hlb'.1 hlb'.2) sk))) (mX hjc hlc) (λs H C ex=>ht s H C ex) (λs H C ex=>Aa (he s H C ex)) hsw hs,
  nP (zk (fR hjc).1 (fR hlc).1) zm⟩
end
section
variable{K:Z8}{μ:Zz}{Ge B G H:Hp}{σ:St}{ρ:DS}{fp:Zh}{j n:Nat}
def yC (B G:Hp)(fp:Zh)(S:Zt):Prop:=∀b∈S,(G b=none∧B b=none)∧∀i,b∉fp i
def Rw.top {l:Zy}(R:Rw K μ Ge B G H σ ρ fp)(hr:ρ[j]?=some (some (.lst l)))(hm:μ.getD j 0=n+1):∃a xs T,σ[j]?=some (some (.ref a))∧H a=some (.lst xs)∧fp j=a::T∧AllW (Ow K G H n) l xs T:=by
 obtain⟨v,hv,o⟩:=R.sl j _ hr;rw[hm]at o;obtain⟨a,xs,T,e1,e2,e3,h⟩:=o;subst e1;exact⟨a,xs,T,hv,e2,e3,h⟩
def Rw.relist {l':Zy}{ys:Zu}{T T':Zt}(R:Rw K μ Ge B G H σ ρ fp)(hm:μ.getD j 0=n+1)(hv:σ[j]?=some (some (.ref a)))(hf:fp j=a::T)(o:AllW (Ow K G (bc H a (.lst ys)) n) l' ys T')(nd:T'.Nodup)(hT:∀b∈T',b∈T∨((G b=none∧B b=none)∧∀i,b∉fp i)):Rw K μ Ge B G (bc H a (.lst ys)) σ (ρ.set j (some (.lst l'))) (λi=>if i=j then a::T' else fp i):=by
 have hnd:=R.nd j;rw[hf]at hnd;have haT:a∉T:=(nodup_cons.mp hnd).1;have C:a∈fp j:=by rw[hf];exact mem_cons_self ..
 have inT:∀b∈T,b∈fp j:=λb hb=>by rw[hf];exact dk hb
 refine R.write C hv (by rw[hm];exact⟨a,ys,T',rfl,au,rfl,o⟩) (nodup_cons.mpr ⟨λz=>?_,nd⟩) (λb hb=>?_) λi hi b hb hbi=>?_
 ·rcases hT a z with y|y
  ·exact haT y
  ·exact y.2 j C
 ·rcases mem_cons.mp hb with z|z
  ·subst z;exact⟨R.gf j _ C,R.ob j _ C⟩
  ·rcases hT b z with y|y
   ·exact⟨R.gf j _ (inT b y),R.ob j _ (inT b y)⟩
   ·exact y.1
 ·rcases mem_cons.mp hb with z|z
  ·subst z;exact hi (R.dj i j _ hbi C)
  ·rcases hT b z with y|y
   ·exact hi (R.dj i j _ hbi (inT b y))
   ·exact y.2 i hbi
def Rw.app1 {l:Zy}{d:D}{v:V}{S T:Zt}{xs:Zu}(R:Rw K μ Ge B G H σ ρ fp)(hm:μ.getD j 0=n+1)(hv:σ[j]?=some (some (.ref a)))(hH:H a=some (.lst xs))(hf:fp j=a::T)(h:AllW (Ow K G H n) l xs T)(o:Ow K G H n d v S)(nd:S.Nodup)(hS:yC B G fp S):Rw K μ Ge B G (bc H a (.lst (xs ++ [v]))) σ (ρ.set j (some (.lst (l ++ [d])))) (λi=>if i=j then a::(T ++ S) else fp i):=by
 have hnd:=R.nd j;rw[hf]at hnd;have haj:a∈fp j:=by rw[hf];exact mem_cons_self ..
 have inT:∀b∈T,b∈fp j:=λb w=>by rw[hf];exact dk w
 have neT:∀b,b∈T→b≠a:=λb w z=>(nodup_cons.mp hnd).1 (z ▸ w);have neS:∀b,b∈S→b≠a:=λb w z=>(hS b w).2 j (z ▸ haj);have o1:AllW (Ow K G (bc H a (.lst (xs ++ [v]))) n) l xs T:=h.mono λd v A _ hA z=>z.mono (.refl _) λb w u e=>by
  rw[am (neT b (hA b w))];exact e
 have o2:Ow K G (bc H a (.lst (xs ++ [v]))) n d v S:=o.mono (.refl _) λb w u e=>by
  rw[am (neS b w)];exact e
 exact R.relist hm hv hf (o1.append (.one o2)) (nodup_append.mpr ⟨(nodup_cons.mp hnd).2,nd,λb w c hc e=>by subst e;exact(hS b hc).2 j (inT b w)⟩) λb w=>(mem_append.mp w).imp id (hS b)
def AllW.subs {P:Zf}{ds:Zy}{vs:Zu}{S A L R:Zt}(e:S=L ++ A ++ R):(∀b∈L,b∈S)∧(∀b∈A,b∈S)∧∀b∈R,b∈S:=by
 subst e;exact⟨λb h=>mem_append_left _ (mem_append_left _ h),λb h=>mem_append_left _ (mem_append_right _ h),λb h=>mem_append_right _ h⟩
def ml {A A' L R:Zt}(h:(L ++ A ++ R).Nodup)(nd:A'.Nodup)(hA:∀b∈A',b∈A∨(b∉L∧b∉R)):(L ++ A' ++ R).Nodup:=by
 obtain⟨h1,h2,h3⟩:=nodup_append.mp h;obtain⟨h4,h5,h6⟩:=nodup_append.mp h1;refine nodup_append.mpr ⟨nodup_append.mpr ⟨h4,nd,λa ha b hb e=>?_⟩,h2,λa ha b hb e=>?_⟩
 ·subst e
  rcases hA a hb with z|z
  ·exact h6 a ha a z rfl
  ·exact z.1 ha
 ·subst e
  rcases mem_append.mp ha with z|z
  ·exact h3 a (mem_append_left _ z) a hb rfl
  ·rcases hA a z with y|y
   ·exact h3 a (mem_append_right _ y) a hb rfl
   ·exact y.2 hb
def Rw.set1 {l:Zy}{d d0:D}{v:V}{S T:Zt}{xs:Zu}{m:Nat}(R:Rw K μ Ge B G H σ ρ fp)(hm:μ.getD j 0=n+1)(hv:σ[j]?=some (some (.ref a)))(hH:H a=some (.lst xs))(hf:fp j=a::T)(h:AllW (Ow K G H n) l xs T)(hl:l[m]?=some d0)(o:Ow K G H n d v S)(nd:S.Nodup)(hS:yC B G fp S):∃fp',Rw K μ Ge B G (bc H a (.lst (xs.set m v))) σ (ρ.set j (some (.lst (l.set m d)))) fp':=by
 have hnd:=R.nd j;rw[hf]at hnd;have haj:a∈fp j:=by rw[hf];exact mem_cons_self ..
 have inT:∀b∈T,b∈fp j:=λb x=>by rw[hf];exact dk x
 have neT:∀b,b∈T→b≠a:=λb x z=>(nodup_cons.mp hnd).1 (z ▸ x);have neS:∀b,b∈S→b≠a:=λb x z=>(hS b x).2 j (z ▸ haj);obtain⟨w,A,L,Q,g1,g2,g3,g4⟩:=h.at hl;obtain⟨sL,sA,sR⟩:=AllW.subs (P:=Ow K G H n) (ds:=l) (vs:=xs) g2;have hT:=(nodup_cons.mp hnd).2;rw[g2]at hT;have big:=g4 (Ow K G (bc H a (.lst (xs.set m v))) n) (λd v C hC z=>z.mono (.refl _) λb x u e=>by rw[am (neT b ((hC b x).elim (sL b) (sR b)))];exact e) d v S (o.mono (.refl _) λb x u e=>by rw[am (neS b x)];exact e);refine⟨_,R.relist hm hv hf big (ml hT nd λb x=>.inr ⟨λz=>(hS b x).2 j (inT b (sL b z)),λz=>(hS b x).2 j (inT b (sR b z))⟩) λb x=>?_⟩
 rcases mem_append.mp x with z|z
 ·rcases mem_append.mp z with y|y
  ·exact .inl (sL b y)
  ·exact .inr (hS b y)
 ·exact .inl (sR b z)
def Rw.freshOf {H0 G0:Hp}{S:Zt}(R:Rw K μ Ge B G H σ ρ fp)(w:New H0 G S)(R0:Rw K μ Ge B G0 H0 σ ρ fp):yC B G fp S:=λb hb=>⟨⟨(w.2 b hb).2,R0.bh.free (w.2 b hb).1⟩,λi=>R0.apart w i b hb⟩
end
section
variable{X:Cx}{E:XK}{μ:Zz}{r n:Nat}
def m6 (j:Nat)(f:Z7):DS→Out:=λρ=>match ρ[j]? with
 |some (some (.lst l))=>(f ρ).out λd=>if aQ l.length=true then .nx (ρ.set j (some (.lst (l ++ [d])))) else .bad
 |_=>.bad
def gZ {m:Nat}(h:aQ m=true):m<sizeLine:=by
 have h6:sizeLine=16777216:=sizeLine_eq;have h7:m≤100000:=Zm h;omega
def my {j:Nat}{px apos cpos pos:Ys}{f:Z7}(hm:μ.getD j 0=n+1)(hN:X.N[j]?=some x)(hv:uJ X.env.scope x)(h:PZ X E μ n e f)(hd:zQ1 x:=by decide) (hcd:(x==("__classdict__" :Str))=false:=by decide)(hs:zQ2 X e []:=by rfl)(hbase:attributeBase (.Name x px) "append" X.env (eval (.Name x px) X.env)=eval (.Name x px) X.env:=by rfl)(hfew:((backTo cpos (starEach [e] X.env)).all (λx=> !x.1)&&(backToKw cpos (keywordEach [] X.env)).all (λx=>x.1.isSome)&&decide (([e].length+([]:List Keyword).length+if ([]:List Keyword).isEmpty=true then 0 else 1)<30))=true:=by rfl)(hline:(apos.endLine==cpos.line)=true:=by rfl)(hsw:swapsWith (.Call (.Attribute (.Name x px) "append" apos) [e] [] cpos) none pos.line X.env=pure false:=by rfl) :
  lV X E μ r (.Expr (.Call (.Attribute (.Name x px) "append" apos) [e] [] cpos) pos) (m6 j f):=by
 intro pins s σ Ge B G H ρ fp I R ho;have hp:=mZ (apos:=apos) (cpos:=cpos) (r:=dP) PySem.F.plainAttrs_list PySem.F.slot_list_append PySem.F.type_list_append (show xg X "list.append" dP from hG) (en (pos:=px) hN hv hd hcd) (bQ (sj h) df hs) hbase hfew hline hs rfl;have hslot:∃l,ρ[j]?=some (some (.lst l)):=by
  unfold m6 at ho;split at ho
  ·rename_i l q;exact⟨l,q⟩
  ·exact ho.elim
 obtain⟨l,hr⟩:=hslot;have eo:m6 j f ρ=(f ρ).out λd=>if aQ l.length=true then .nx (ρ.set j (some (.lst (l ++ [d])))) else .bad:=by
  unfold m6;rw[hr]
 rw[eo]at ho ⊢;obtain⟨a,xs,T,h1,h2,h3,h4⟩:=R.top hr hm;refine aV (fK hp hsw pins s σ H {nx:=λσ' H'=>∃d v G1 H1 S,f ρ= .ok d∧aQ l.length=true∧σ'=σ∧Rw X.K μ Ge B G1 H1 σ ρ fp∧Same G G1∧Same H H1∧Ow X.K G1 H1 n d v S∧New H G1 S∧H'=bc H1 a (.lst (xs ++ [v])),bk:=λ_ _=>False,ct:=λ_ _=>False,rt:=λ_ _=>False} I ?_) λfl s1 C=>?_
 ·refine⟨_,h1,.inl ⟨rfl,xs,.inl (.inl h2)⟩,Ge,B,G,ρ,fp,R,ho.res,λd ed v G1 H1 S R1 sg sh o w=>?_⟩;have k:=ho.res2 ed (Same.refl B);by_cases hc:aQ l.length=true
  ·exact⟨a,xs,v,rfl,rfl,sh _ _ h2,by rw[←h4.length];exact gZ hc,d,v,G1,H1,S,ed,hc,rfl,R1,sg,sh,o,w,rfl⟩
  ·rw[Ym hc]at k;exact k.elim
 ·cases fl with
  |next=>
   obtain⟨σ',H',I',d,v,G1,H1,S,q,hlk,e2,R1,sg,sh,o,w,e3⟩:=C;subst e2 e3;obtain⟨a2,xs2,T2,g1,g2,g3,g4⟩:=R1.top hr hm;rw[h1]at g1;cases g1;rw[sh _ _ h2]at g2;cases g2;refine⟨_,_,_,_,_,?_,I',R1.app1 hm h1 (sh _ _ h2) g3 g4 o w.1 (R1.freshOf w R),sg⟩;rw[bY q,Yo hlk]
  |brk=>obtain⟨_,_,_,C⟩:=C;exact C.elim
  |cont=>obtain⟨_,_,_,C⟩:=C;exact C.elim
  |ret u=>obtain⟨_,_,_,_,_,C⟩:=C;exact C.elim
def sv (j:Nat)(l:Zy)(ρ:DS)(d i:D):Out:=match i with
 |.int k=>(match pH l.length k with|some m=>.nx (ρ.set j (some (.lst (l.set m d))))|none=>.bad)
 |_=>.bad
def vF (j:Nat)(fi f:Z7):DS→Out:=λρ=>match ρ[j]? with
 |some (some (.lst l))=>(f ρ).out λd=>(fi ρ).out λi=>sv j l ρ d i
 |_=>.bad
def New.keep {H G1 H1 G3 H3:Hp}{fp:Zh}{S:Zt}(w:New H G1 S)(hc:∀a∈S,∃o,H1 a=some o∧¬oG o)(ha:∀i,∀a∈S,a∉fp i)(x:Ext (nQ fp G1 H1) H1 G3 H3):New H (oB (pF fp) G3) S:=⟨w.1,λa h=>⟨(w.2 a h).1,by
 cases q:oB (pF fp) G3 a with
 |none=>rfl
 |some o=>
  obtain⟨q1,q2⟩:=jz q
  rcases x.nw a o q2 with z|z
  ·rw[nR q1,(w.2 a h).2]at z;cases z
  ·obtain⟨o',h',hk⟩:=hc a h
   rcases z with z|z
   ·rw[z]at h';cases h'
   ·have h2:=x.gh a o q2;rw[x.hh a _ h']at h2;cases h2;exact(hk z).elim⟩⟩
def CC {j:Nat}{px tpos pos:Ys}{fi f:Z7}(hm:μ.getD j 0=n+1)(hN:X.N[j]?=some x)(hv:uJ X.env.scope x)(hi:PD X E i fi)(h:PZ X E μ n e f)(hd:zQ1 x:=by decide) (hcd:(x==("__classdict__" :Str))=false:=by decide)(ha:∀v,assign (.Subscript (.Name x px) i tpos) X.env v=(do
   let ov ←holding [v] (eval (.Name x px) X.env)
   let iv ←holding [v,ov] (eval i X.env)
   standAt tpos
   holding [v,ov,iv] (setItem ov iv v)
   release [v,ov,iv] []):=by intro _;rfl)
  (hs:swapsWithSole [.Subscript (.Name x px) i tpos] e pos.line X.env=pure false:=by rfl) (hw:swappedStores [.Subscript (.Name x px) i tpos] e X.env=pure none:=by rfl)
  (ho1:(assignEach [.Subscript (.Name x px) i tpos] X.env).map (·.2)=[assign (.Subscript (.Name x px) i tpos) X.env]:=by rfl) :
  lV X E μ r (.Assign [.Subscript (.Name x px) i tpos] e pos) (vF j fi f):=by
 intro pins s σ Ge B G H g fp I R ho;have hslot:∃l,g[j]?=some (some (.lst l)):=by
  unfold vF at ho;split at ho
  ·rename_i l q;exact⟨l,q⟩
  ·exact ho.elim
 obtain⟨l,hr⟩:=hslot;have eo:vF j fi f g=(f g).out λd=>(fi g).out λi=>sv j l g d i:=by
  unfold vF;rw[hr]
 rw[eo]at ho ⊢;have hp:=Fo (pos:=pos) (sj h) (Fe (pos:=tpos) (en (pos:=px) hN hv hd hcd) (dM hi) AL ha) hs hw ho1;refine aV (hp pins s σ H {nx:=λσ' H'=>∃V G' U,((f g).out λd=>(fi g).out λi=>sv j l g d i)= .nx V∧σ'=σ∧Rw X.K μ Ge B G' H' σ V U∧Same G G',bk:=λ_ _=>False,ct:=λ_ _=>False,rt:=λ_ _=>False} I ⟨Ge,B,G,g,fp,R,ho.res,λd ed v G1 H1 S R1 sg sh o w=>?_⟩) λfl s1 C=>?_
 ·have k:=ho.res2 ed (Same.refl B);obtain⟨a,xs,T,h1,h2,h3,h4⟩:=R1.top hr hm;refine⟨_,h1,nQ fp G1 H1,g,R1.vh,R1.ro,k.res.le R1.bh,λdi ei vi G3 H3 x3 ri=>?_⟩;have kk:=k.res2 ei (Same.refl B);have e0:((f g).out λd=>(fi g).out λi=>sv j l g d i)=sv j l g d di:=by rw[bY ed,bY ei]
  unfold sv at kk;split at kk
  ·rename_i k0;rw[rep_int]at ri;subst ri;cases q:pH l.length k0 with
   |none=>rw[q]at kk;exact kk.elim
   |some m=>
    have e0:=e0.trans (show sv j l g d (.int k0)= .nx (g.set j (some (.lst (l.set m d)))) by unfold sv;dsimp only;rw[q]);have hml:m<l.length:=(iJ q).2.1;have R3:=R1.grow x3;obtain⟨a2,xs2,T2,g1,g2,g3,g4⟩:=R3.top hr hm;rw[h1]at g1;cases g1;rw[x3.hh _ _ h2]at g2;cases g2;have hc:∀b∈S,∃u,H1 b=some u∧¬oG u:=λb hb=>let ⟨u,e,c⟩:=o.cell b hb;⟨u,e,c.nokey⟩
    have w3:=w.keep hc (λi b hb=>R.apart w i b hb) x3;obtain⟨U,R4⟩:=R3.set1 (d:=d) (v:=v) hm h1 (x3.hh _ _ h2) g3 g4 (gd hml) (o.mono (R1.gg x3) λb _ u e=>x3.hh b u e) w.1 (R3.freshOf w3 R);exact⟨a,xs,k0,m,rfl,rfl,x3.hh _ _ h2,by rw[←h4.length];exact q,_,_,U,e0,rfl,R4,sg.trans (R1.gg x3)⟩
  ·exact kk.elim
 ·cases fl with
  |next=>
   obtain⟨σ',H',I',V,G',U,e1,e2,R',sg⟩:=C;subst e2;exact⟨V,_,G',H',U,e1,I',R',sg⟩
  |brk=>obtain⟨_,_,_,C⟩:=C;exact C.elim
  |cont=>obtain⟨_,_,_,C⟩:=C;exact C.elim
  |ret u=>obtain⟨_,_,_,_,_,C⟩:=C;exact C.elim
end
section
variable{prog:Zv}{w:Zk}{A:Zg}{R:Yn}{I S:Z2}{fp wr:Zt}{n:Nat}{P:Nat→Value→Prop}{St:Nat→Heap→Prop}{C:Heap→Prop}
end
section
variable{prog:Zv}{w:Zk}{A:Zg}{E:Z6}{s:Shared}
end
def FB:D→Option (List Int)
 |.tup l=>allInts l
 |_=>none
def im:List D→Option (List (List Int))
 | []=>some []
 |d::ds=>match FB d,im ds with
  |some t,some ts=>some (t::ts)
  |_,_=>none
theorem nV:∀{l:Zy} {ts:List (List Int)},im l=some ts→l=ts.map λt=>.tup (t.map D.int)
 | [],ts,h=>by unfold im at h;cases h;rfl
 |d::ds,ts,h=>by
  unfold im at h;split at h
  ·rename_i t us e1 e2;cases h;rw[map_cons,←nV e2];unfold FB at e1;split at e1
   ·rename_i l;rw[fY e1]
   ·cases e1
  ·cases h
theorem mK:∀(ts:List (List Int)),im (ts.map λt=>.tup (t.map D.int))=some ts
 | []=>rfl
 |t::ts=>by
  rw[map_cons];unfold im;rw[mK ts];unfold FB;dsimp only;rw[eN]
section
variable{X:Cx}{E:XK}
def yE (K:Z8)(H:Hp)(vs:Zu)(ts:Yx):Prop:=vs.length=ts.length∧∀(i:Nat) (v:V) (t:List Int),vs[i]?=some v→ts[i]?=some t→∃a,v= .ref a∧nr K H a (t.map V.int)
def yp {K:Z8}{G H:Hp}(hs:Same G H):∀{ts:Yx} {vs:List V},RepL K G (ts.map λt=>.tup (t.map D.int)) vs→yE K H vs ts:=by
 intro ts vs rl;refine⟨by rw[←rl.length,length_map],λi v t hv ht=>?_⟩;obtain⟨w,hw,rw'⟩:=rl.get (i:=i) (d:=.tup (t.map D.int)) (by rw[getElem?_map,ht];rfl);rw[hv]at hw;cases hw;rw[rep_tup]at rw';obtain⟨a,xs,rfl,sq,rl2⟩:=rw';rw[rl2.ints]at sq;exact⟨a,rfl,hs.seqT sq.sq⟩
end
def pj {α:Type}(n:Nat)(lt:Nat→Nat→Bool):W.KasT α→Option α
 |.ret a=>some a
 |.ask i j k=>if i<n∧j<n then pj n lt (k (lt i j)) else none
theorem tO {α:Type}{cmp:Nat→Nat→(Bool→Shared→Prop)→Shared→Prop}{n:Nat}{lt:Nat→Nat→Bool}{s:Z3}(hc:∀i j (Q:Bool→Shared→Prop),i<n→j<n→Q (lt i j) s→cmp i j Q s):∀(t:W.KasT α) (p:α) (Q:α→Shared→Prop),pj n lt t=some p→Q p s→t.kasWp cmp Q s
 |.ret a,p,Q,h,q=>by unfold pj at h;cases h;exact q
 |.ask i j k,p,Q,h,q=>by
  unfold pj at h;split at h
  ·rename_i hb;exact hc i j _ hb.1 hb.2 (tO hc (k (lt i j)) p Q h q)
  ·cases h
section
variable{prog:Zv}{w:Zk}{A:Zg}{E:Z6}{s:Shared}
theorem tP {b fin:Bool}{Q:Bool→Shared→Prop}:∀{vs ws:Z0} {ns ms:Z1} (i:Nat),IntsAre vs ns→IntsAre ws ms→fin=decide (ns.length<ms.length)→Q (HT.i_ ns ms) s→W.KatLex prog w A b fin Q (vs.zip ws) i s
 |_,_,_,_,i,.nil,.nil,hf,h=>by
  rw[HT.pR]at h;rw[List.zip_nil_left];exact W.kat_nil (by rw[hf];exact h)
 |_,_,_,_,i,.nil,.cons n t h2,hf,h=>by
  rw[HT.oM]at h;rw[List.zip_nil_left];exact W.kat_nil (by rw[hf];simpa using h)
 |_,_,_,_,i,.cons n t h1,.nil,hf,h=>by
  rw[HT.oK]at h;rw[List.zip_nil_right];exact W.kat_nil (by rw[hf];simpa using h)
 |_,_,_,_,i,.cons n t h1,.cons m u h2,hf,h=>by
  rw[HT.va]at h;rw[List.zip_cons_cons];refine W.kat_cons (wpAny_eqBool_int ?_);by_cases e:n=m
  ·rw[Yo e]at h;have e':(n==m)=true:=by simp[e]
   rw[e'];exact W.kat_yes (tP (i+1) h1 h2 (by rw[hf];simp) h)
  ·rw[Ym e]at h;have e':(n==m)=false:=beq_eq_false_iff_ne.mpr e;rw[e'];refine W.kat_no ?_;cases hb:(b&&i==0) with
   |true=>exact oneLt_int h
   |false=>exact W.kat_one _ _ (lt_int (by exact h))
def CZ {xs ys:Array Value}{ns ms:Z1}{b:Bool}{Q:Bool→Shared→Prop}(hx:IsTup s.heap x xs)(hy:IsTup s.heap y ys)(ix:IntsAre xs.toList ns)(iy:IntsAre ys.toList ms)(h:Q (HT.i_ ns ms) s):wpAny (model prog w) A (keyLt' (tuples' b) (.ref x) (.ref y)) Q E s:=by
 obtain⟨ox,hox,_,n,dx⟩:=hx;obtain⟨oy,hoy,_,k,dy⟩:=hy;refine W.kat_lt hox dx hoy dy (tP 0 ix iy ?_ h);have h1:=ix.length;have h2:=iy.length;rw[length_toList]at h1 h2;rw[h1,h2]
def TupsIn (h:Y6)(vs:Z0)(ts:Yx):Prop:=vs.length=ts.length∧∀(i:Nat) (v:Value),vs[i]?=some v→∃b items,v= .ref b∧IsTup h b items∧IntsAre items.toList (ts.getD i [])∧ts.getD i []≠[]
def TupsIn.keep {h h':Y6}{vs:Z0}{ts:Yx}(x:TupsIn h vs ts)(k:∀b o,h.get? b=some o→o.cls= .type "tuple" →h'.get? b=some o):TupsIn h' vs ts:=⟨x.1,λi v hv=>by
 obtain⟨b,items,e,⟨o,ho,hc,hd⟩,r⟩:=x.2 i v hv;exact⟨b,items,e,⟨o,k b o ho hc,hc,hd⟩,r⟩⟩
theorem oE {h:Y6}:∀{vs:Z0} {ts:List (List Int)},TupsIn h vs ts→∃fs:List Value,W.KatTups h vs fs∧fs.length=vs.length∧∀v∈fs,∃n t,v= .int n t
 | [],ts,_=>⟨[],.nil,rfl,λv hv=>nomatch hv⟩
 |v::vs,ts,x=>by
  obtain⟨t,E,rfl⟩:∃t E,ts=t::E:=by
   match ts,x.1 with
   | [],h=>simp at h
   |t::E,_=>exact⟨t,E,rfl⟩
  obtain⟨b,D,e,⟨o,ho,hc,nn,hd⟩,hi,hne⟩:=x.2 0 v rfl;have hi:IntsAre D.toList t:=hi;have hne:t≠[]:=hne;obtain⟨fs,h1,h2,h3⟩:=oE (vs:=vs) (ts:=E) ⟨by have:=x.1;simpa using this,λi u hu=>x.2 (i+1) u (by simpa using hu)⟩;subst e;cases q:D.toList with
  |nil=>rw[q]at hi;cases hi;exact absurd rfl hne
  |cons f r=>
   rw[q]at hi;cases hi with
   |cons n tk hi'=>
    refine⟨.int n tk::fs,.cons ho hc hd ?_ h1,by simp[h2],λu hu=>?_⟩
    ·rw[←getElem?_toList,q];rfl
    ·rcases mem_cons.mp hu with z|z
     ·exact⟨n,tk,z⟩
     ·exact h3 u z
def pT {vs:Z0}{n:Nat}{P:Fin→Shared→Prop}(ho:s.heap.get? a=some (seqObj "list" vs.toArray n))(h1:vs.length<2)(h:P (.done (.ret .none)) {s with heap:=sortedHeap s.heap a vs vs.toArray}):wpAny (model prog w) A (Builtin.«list.sort» ⟨[.ref a],[]⟩) P E s:=by
 rw[list_sort_plain];have ha:a<s.heap.objs.size:=Yu ho;refine Zx (listItems_at ho rfl ?_);refine Zx (listUpdate_at ho rfl ?_ (by rw[size_toArray,sizeLine_eq];omega) (zero_le _));obtain⟨e1,ho1⟩:∃e1,(s.heap.update a (Obj.mapSeq λ_=> #[])).get? a=some (seqObj "list" #[] e1):=⟨_,get?_update_seq ho (λ_=> #[])⟩;refine Zx (seqEpoch_at ho1 rfl ?_);refine Zx (wpAny_newTuple ?_ (by show vs.length≤_;rw[sizeLine_eq];omega));refine Zx (wpAny_newList ?_ (zero_le _));refine wpAny_holding ?_;have ho6:(((s.heap.update a (Obj.mapSeq λ_=> #[])).push (seqObj "tuple" vs.toArray 0)).push (seqObj "list" #[] 0)).get? a=some (seqObj "list" #[] e1):=Heap.get?_push_of_some _ (Heap.get?_push_of_some _ ho1);show wpAny (model prog w) A _ P E {s with heap:=((s.heap.update a (Obj.mapSeq λ_=> #[])).push (seqObj "tuple" vs.toArray 0)).push (seqObj "list" #[] 0)}
 dsimp only;have h2:vs.toArray.size<2:=by rw[size_toArray];exact h1
 rw[Yo h2,Yo h2];refine Zx (Zq ?_);rw[StateT.run_pure];refine Zx (Zq ?_);dsimp only;refine Zx (seqEpoch_at ho6 rfl ?_);have hz:(arrOf (SortSt.mk' general' (vs.toArray.zip vs.toArray) #[] 7 none)).map (·.2)=vs.toArray:=by
  show (vs.toArray.zip vs.toArray).map (·.2)=vs.toArray;apply Array.toList_inj.mp;simp[List.map_snd_zip]
 rw[hz];refine Zx (listUpdate_at ho6 rfl ?_ (zero_le _) (by rw[size_toArray,sizeLine_eq];omega));simp only[bne_self_eq_false,false_eq_true,if_false];exact Zq h
def oP {vs:Z0}{ts:Yx}{n:Nat}{p:Array Nat}{P:Fin→Shared→Prop}(ho:s.heap.get? a=some (seqObj "list" vs.toArray n))(hT:TupsIn s.heap vs ts)(h2:2≤vs.length)(h64:vs.length<64)(hr:pj vs.length (λi j=>HT.i_ (ts.getD i []) (ts.getD j [])) (W.kas_sort vs.length)=some p) (h:P (.done (.ret .none)) {s with heap:=sortedHeap s.heap a vs (List.toArray (p.toList.map λi=>vs.getD i Value.none))}) (hp:p.size=vs.length):wpAny (model prog w) A (Builtin.«list.sort» ⟨[.ref a],[]⟩) P E s:=by
 rw[list_sort_plain];have ha:a<s.heap.objs.size:=Yu ho;refine Zx (listItems_at ho rfl ?_);refine Zx (listUpdate_at ho rfl ?_ (by rw[size_toArray,sizeLine_eq];omega) (zero_le _));obtain⟨e1,ho1⟩:∃e1,(s.heap.update a (Obj.mapSeq λ_=> #[])).get? a=some (seqObj "list" #[] e1):=⟨_,get?_update_seq ho (λ_=> #[])⟩;refine Zx (seqEpoch_at ho1 rfl ?_);refine Zx (wpAny_newTuple ?_ (by show vs.length≤_;rw[sizeLine_eq];omega));refine Zx (wpAny_newList ?_ (zero_le _));refine wpAny_holding ?_;have ho6:(((s.heap.update a (Obj.mapSeq λ_=> #[])).push (seqObj "tuple" vs.toArray 0)).push (seqObj "list" #[] 0)).get? a=some (seqObj "list" #[] e1):=Heap.get?_push_of_some _ (Heap.get?_push_of_some _ ho1);show wpAny (model prog w) A _ P E {s with heap:=((s.heap.update a (Obj.mapSeq λ_=> #[])).push (seqObj "tuple" vs.toArray 0)).push (seqObj "list" #[] 0)}
 dsimp only;have hn2:¬vs.toArray.size<2:=by rw[size_toArray];omega
 rw[Ym hn2,Ym hn2];have hT2:TupsIn (((s.heap.update a (Obj.mapSeq λ_=> #[])).push (seqObj "tuple" vs.toArray 0)).push (seqObj "list" #[] 0)) vs ts:=hT.keep λb o e hc=>by
  have hb:b≠a:=λz=>by rw[z,ho]at e;cases e;injection hc with hc;exact absurd hc (by decide)
  exact Heap.get?_push_of_some _ (Heap.get?_push_of_some _ ((Heap.get?_update_other _ _ (Ne.symm hb)).trans e))
 obtain⟨fs,k1,k2,k3⟩:=oE hT2;refine Zx (W.kat_kind (T:=.type "int") (s:={s with heap:=((s.heap.update a (Obj.mapSeq λ_=> #[])).push (seqObj "tuple" vs.toArray 0)).push (seqObj "list" #[] 0)}) k1 (by omega) (λv hv=>?_) rfl ?_)
 ·obtain⟨m,t,rfl⟩:=k3 v hv;exact W.Looks.of_pure rfl
 ·refine Zx (wpAny_mono (W.kat_run (s:={s with heap:=((s.heap.update a (Obj.mapSeq λ_=> #[])).push (seqObj "tuple" vs.toArray 0)).push (seqObj "list" #[] 0)}) (Q:=λF s'=>arrOf F=p.map (W.kas_item (vs.toArray.zip vs.toArray))∧failedOf F=none∧s'={s with heap:=((s.heap.update a (Obj.mapSeq λ_=> #[])).push (seqObj "tuple" vs.toArray 0)).push (seqObj "list" #[] 0)})
   (G:=λp' s'=>p'=p∧s'={s with heap:=((s.heap.update a (Obj.mapSeq λ_=> #[])).push (seqObj "tuple" vs.toArray 0)).push (seqObj "list" #[] 0)}) rfl h2 h64 (λp' F s' a1 a2 a3 a4=>⟨by rw[a2,a4.1],a3,a4.2⟩) (tO (λi j Q hi hj hQ=>?_) _ p _ hr ⟨rfl,rfl⟩)) ?_ λ_ _ e=>e)
  ·obtain⟨b,ib,e1',p1,n1,_⟩:=hT2.2 i vs[i] (gd hi);obtain⟨c,ic,e2',p2,n2,_⟩:=hT2.2 j vs[j] (gd hj);unfold W.kas_ask;have g1:vs.getD i Value.none= .ref b:=by simp[hi,e1']
   have g2:vs.getD j Value.none= .ref c:=by simp[hj,e2']
   rw[g1,g2];exact CZ p1 p2 n1 n2 hQ
  ·rintro⟨⟨⟩,F⟩ s' ⟨har,hf,rfl⟩;dsimp only;refine Zx (seqEpoch_at ho6 rfl ?_);have hout:=W.kat_snds (vs:=vs) rfl har;rw[hout];refine Zx (listUpdate_at ho6 rfl ?_ (zero_le _) (by rw[size_toArray,length_map,length_toList,hp,sizeLine_eq];omega));rw[hf];simp only[bne_self_eq_false,false_eq_true,if_false];exact Zq h
def qN {vs:Z0}{out:Array Value}{Q:Z6}(hl:s.heap.IsList l vs.toArray)(hn:vs.length<64)(hsort:∀(s':Z3) (P:Fin→Shared→Prop) (E':Z6) (A':Zg) (a:Addr),(∀b o,s.heap.get? b=some o→s'.heap.get? b=some o)→s'.heap.get? a=some (seqObj "list" vs.toArray 0)→P (.done (.ret .none)) {s' with heap:=sortedHeap s'.heap a vs out}→wpAny (model prog w) A' (Builtin.«list.sort» ⟨[.ref a],[]⟩) P E' s')
  (h:Q (.ref (s.heap.objs.size+1)) {s with heap:=sortedAll s.heap vs out}):wpAny (model prog w) A (call (.builtin "sorted") [.ref l]) Q E s:=by
 refine Calls.call_function_entry kind_sorted plain_sorted entry_sorted (args_sorted1 _) ?_;unfold Builtin.«sorted»;refine Zx (m:=checkCount "sorted" 1 1 _) (Zq ?_);refine Zx (collect_list hl ?_ (by rw[sizeLine_eq];omega));refine Zx (wpAny_newList ?_ (by rw[sizeLine_eq];omega));have hsz:((s.heap.push (seqObj "list" #[] 0)).update s.heap.objs.size (Obj.mapSeq (· ++ vs.toArray))).objs.size=s.heap.objs.size+1:=by
  rw[Heap.size_update,size_push']
 have hoL:(((s.heap.push (seqObj "list" #[] 0)).update s.heap.objs.size (Obj.mapSeq (· ++ vs.toArray))).push (seqObj "list" vs.toArray 0)).get? (s.heap.objs.size+1)=some (seqObj "list" vs.toArray 0):=by
  rw[←hsz];exact Heap.get?_push_size _ rfl
 show wpAny _ _ _ _ _ {s with heap:=((s.heap.push (seqObj "list" #[] 0)).update s.heap.objs.size (Obj.mapSeq (· ++ vs.toArray))).push (seqObj "list" vs.toArray 0)}
 rw[hsz];refine Zx (wpAny_holding (wpAny_call_entry slot_list_sort ⟨_,hoL,rfl⟩ entry_list_sort (hsort {s with heap:=((s.heap.push (seqObj "list" #[] 0)).update s.heap.objs.size (Obj.mapSeq (· ++ vs.toArray))).push (seqObj "list" vs.toArray 0)} _ _ _ _ (λb o e=>?_) hoL ⟨_,rfl,?_⟩) (args_list_sort _)))
 ·have hlt:b<s.heap.objs.size:=Yu e;exact Heap.get?_push_of_some _ ((Heap.get?_update_other _ _ (ne_of_gt hlt)).trans (Heap.get?_push_of_some _ e))
 ·exact Zq ⟨_,rfl,h⟩
end
def iW:List D→Res D
 | [.lst l]=>if l.length<2 then .ok (.lst l) else (match im l with
  |some ts=>if (ts.all (λt=> !t.isEmpty)&&decide (ts.length<64))=true then (match pj ts.length (λi j=>HT.i_ (ts.getD i []) (ts.getD j [])) (W.kas_sort ts.length) with
   |some p=>if p.size=ts.length∧(p.toList.all λi=>decide (i<ts.length))=true then .ok (.lst (p.toList.map λi=>.tup ((ts.getD i []).map D.int))) else .bad
   |none=>.bad) else .bad
  |none=>.bad)
 |_=>.bad
section
variable{X:Cx}{E:XK}
def kK {pins:Z9}{σ:St}{H:Hp}{s:Z3}{vs:Z0}{out:Z0}{ys:Zu}{Q:VK}(I:Inv X pins σ H s)(rv:Vals ys out)(hz:ys.length≤sizeLine)(q:∀p,H p=none→Q (.ref p) (bc H p (.lst ys))):EP X pins σ Q (.ref (s.heap.objs.size+1)) {s with heap:=sortedAll s.heap vs out.toArray}:=by
 obtain⟨e,he⟩:=sortedAll_at s.heap vs out.toArray;have hn:=I.hok.fresh (le_succ s.heap.objs.size);refine⟨.ref (s.heap.objs.size+1),_,I.laid (o:=.lst ys) (t':=s.toks) (λb o q=>sortedAll_old q) (le_succ _) ⟨hz,out,e,rv,he⟩,rfl,q _ hn⟩
def uR:eJ X (.builtin "sorted") (λxs H Q=>∃p vs,xs=[.ref p]∧gy X.K H p vs∧((vs.length<2∧∀l,H l=none→Q (.ref l) (bc H l (.lst vs)))∨
  ∃ts pr,yE X.K H vs ts∧(∀t∈ts,t≠[])∧2≤ts.length∧ts.length<64∧pj ts.length (λi j=>HT.i_ (ts.getD i []) (ts.getD j [])) (W.kas_sort ts.length)=some pr∧pr.size=ts.length∧(∀i∈pr.toList,i<ts.length)∧∀l,H l=none→Q (.ref l) (bc H l (.lst (pr.toList.map λi=>vs.getD i .non))))):=by
 intro pins s σ H xs us Q I r h;obtain⟨p,vs,rfl,sq,h⟩:=h;obtain⟨u,rfl,ru⟩:=jL r;cases (show u= .ref p from ru);obtain⟨G,rv,pl,hz⟩:=I.list sq;have hil:=rv.length
 rcases h with ⟨hlt,q⟩|⟨ts,pr,⟨hlen,htup⟩,hne,h2,h64,hr,hps,hin,q⟩
 ·exact qN pl.isList (by omega) (λs' P E' A' a _ ho h=>pT ho (by omega) h) (kK I rv hz q)
 ·have hit:G.length=ts.length:=by omega
  have T:TupsIn s.heap G ts:=⟨hit,λi u hu=>by
   have hi:i<G.length:=(fR hu).1;have hi':i<ts.length:=by omega
   have J:i<vs.length:=by omega
   obtain⟨u',M,L⟩:=rv.get (gd J);rw[hu]at M;cases M;obtain⟨a,ea,sqa⟩:=htup i vs[i] ts[i] (gd J) (gd hi');rw[ea]at L;cases L;obtain⟨its2,r2,p2,_⟩:=I.tuple sqa;have:ts.getD i []=ts[i]:=by rw[getD_eq_getElem?_getD,gd hi'];rfl
   rw[this];exact⟨a,its2.toArray,rfl,p2,kJ r2,hne _ (getElem_mem hi')⟩⟩
  have rv2:Vals (pr.toList.map λi=>vs.getD i .non) (pr.toList.map λi=>G.getD i Value.none):=by
   have go:∀(l:List Nat),(∀i∈l,i<ts.length)→Vals (l.map λi=>vs.getD i .non) (l.map λi=>G.getD i Value.none):=by
    intro l
    induction l with
    |nil=>intro _;exact .nil
    |cons i l ih=>
     intro hl;have hi:=hl i (mem_cons_self ..);have J:i<vs.length:=by omega
     obtain⟨u',M,L⟩:=rv.get (gd J);refine .cons ?_ (ih λj hj=>hl j (dk hj));have e1:vs.getD i .non=vs[i]:=by rw[getD_eq_getElem?_getD,gd J];rfl
     have e2:G.getD i Value.none=u':=by rw[getD_eq_getElem?_getD,M];rfl
     show RelV (vs.getD i .non) (G.getD i Value.none);rw[e1,e2];exact L
   exact go _ hin
  refine qN pl.isList (by omega) (λs' P E' A' a k ho h=>oP (p:=pr) (ts:=ts) ho (T.keep λb o e _=>k b o e) (by omega) (by omega) (by rw[hit];exact hr) h (by omega)) (kK I rv2 (by rw[length_map,length_toList,hps];have:=sizeLine_eq;omega) q)
def Al {f:Z7}(hm:X.mg "sorted" =none)(h:PD X E e f)(hg:Gl X "sorted" :=by rfl)(he:zQ2 X e []:=by rfl):PN X E 1 (.Call (.Name "sorted" p) [e] [] pos) (λρ=>(f ρ).bind λa=>iW [a]):=by
 have hpd:lU X E [e] (λρ=>(f ρ).bind λd=>.ok [d]):=aa h af he;refine .tn (oW (x:= "sorted") (p:=p) (pos:=pos) uR hg hm boot_sorted (jd hpd) (by decide) (by decide) he rfl) λσ G H ρ Q hs hro ho k=>⟨G,ρ,hs,hro,?_,λds e1 vs G1 H1 x1 p1=>?_⟩
 ·have ho:=ho.fst;show OkR E H ((f ρ).bind λd=>.ok [d]);cases q:f ρ with
  |ok d=>trivial
  |exc c=>rw[q]at ho;exact ho
  |bad=>rw[q]at ho;exact ho
 ·have ed:∃d,f ρ= .ok d∧ds=[d]:=by
   have e1:((f ρ).bind λd=>(.ok [d]:Res (List D)))= .ok ds:=e1;cases q:f ρ with
   |ok d=>rw[q]at e1;cases e1;exact⟨d,rfl,rfl⟩
   |exc c=>rw[q]at e1;cases e1
   |bad=>rw[q]at e1;cases e1
  obtain⟨d,ed,rfl⟩:=ed;have J:=ho.snd ed x1.hh;have e0:((f ρ).bind λa=>iW [a])=iW [d]:=by rw[ed];rfl
  obtain⟨v,r,rfl,rx,r0⟩:=p1.inv;rw[r0.inv0];unfold iW at J;split at J
  ·rename_i l hd;cases hd;rw[rep_lst]at rx;obtain⟨q,xs,rfl,sq,rx⟩:=rx;refine⟨q,xs,rfl,x1.gh.seq sq.sq,?_⟩;by_cases hl:l.length<2
   ·refine .inl ⟨by rw[←rx.length];exact hl,λm hm=>?_⟩;obtain⟨x,o,w⟩:=jC x1 hm rx;exact k _ (e0.trans (Yo hl)) _ _ _ _ x o w
   ·rw[Ym hl]at J;split at J
    ·rename_i ts qt;have el:=nV qt;split at J
     ·rename_i hc;split at J
      ·rename_i pr hrun;split at J
       ·rename_i hp;rw[and_eq_true]at hc;have hlen:l.length=ts.length:=by rw[el,length_map]
        have hin:∀i∈pr.toList,i<ts.length:=λi hi=>Zm (all_eq_true.mp hp.2 i hi);refine .inr ⟨ts,pr,yp x1.gh (by rw[←el];exact rx),λt ht=>?_,by omega,Zm hc.2,hrun,hp.1,hin,λm hm=>?_⟩
        ·have:=all_eq_true.mp hc.1 t ht;intro z;rw[z]at this;cases this
        ·have rl:RepL X.K G1 (pr.toList.map λi=>.tup ((ts.getD i []).map D.int)) (pr.toList.map λi=>xs.getD i .non):=by
          have go:∀(m:List Nat),(∀i∈m,i<ts.length)→RepL X.K G1 (m.map λi=>.tup ((ts.getD i []).map D.int)) (m.map λi=>xs.getD i .non):=by
           intro m
           induction m with
           |nil=>intro _;exact .nil
           |cons i m ih=>
            intro hm;have hi:=hm i (mem_cons_self ..);obtain⟨v,hv,rv⟩:=rx.get (i:=i) (d:=.tup ((ts.getD i []).map D.int)) (by
             rw[el,getElem?_map,gd hi,getD_eq_getElem?_getD,gd hi];rfl)
            refine .cons ?_ (ih λj hj=>hm j (dk hj));have e2:xs.getD i .non=v:=by rw[getD_eq_getElem?_getD,hv];rfl
            show Rep X.K G1 _ (xs.getD i .non);rw[e2];exact rv
          exact go _ hin
         obtain⟨x,o,w⟩:=jC x1 hm rl;refine k _ (e0.trans ?_) _ _ _ _ x o w;show (if l.length<2 then _ else _)=_
         rw[Ym hl,qt];dsimp only;rw[Yo (by rw[and_eq_true];exact hc),hrun];exact Yo hp
       ·exact J.elim
      ·exact J.elim
     ·exact J.elim
    ·exact J.elim
  ·exact J.elim
end
section
variable{X:Cx}{E:XK}{μ:Zz}{r n:Nat}
def Ic (K:Z8)(te tk:TE):TE:=λσ H Q=>te σ H λx H1=>tk σ H1 λk H2=>k= .int (-1)∧∃a xs,x= .ref a∧gy K H2 a xs∧∀p,H2 p=none→Q (.ref p) (bc H2 p (.lst xs.reverse))
def Fc {e st:Y3}{te tk:TE}(he:PE X e te)(hk:PE X st tk):PE X (.Subscript e (.Slice none none (some st) p2) pos) (Ic X.K te tk):=by
 intro p s σ H Q I h;refine Subscript_ (aV (he p s σ H _ I h) λv s1 hZ179=>?_);obtain⟨x,H1,I1,r1,q1⟩:=hZ179;refine wpAny_Slice ?_;rw[evalPart_none,evalPart_some];refine Zq (Zq (aV (hk p s1 σ H1 _ I1 q1) λvk s3 hZ180=>?_));obtain⟨k,H3,I3,rk,ek,a,xs,ea,sq,q3⟩:=hZ180;subst ek ea;cases r1;obtain⟨t,rfl⟩:=rk;have I4:Inv X p σ H3 {s3 with heap:=s3.heap.push {cls:=.type "slice",data:=.fields #[.none,.none,.int (-1) t]}}:=I3.kept (t':=s3.toks) λb ob q=>Heap.get?_push_of_some _ q
 obtain⟨its,rv,pl,hz⟩:=I4.list sq;show wpAny (model X.prog X.w) X.A (subscriptTail e (.Slice none none (some st) p2) (.ref a) (.ref s3.heap.objs.size)) (EP X p σ Q) X.xe {s3 with heap:=s3.heap.push {cls:=.type "slice",data:=.fields #[.none,.none,.int (-1) t]}}
 refine tail_any (ops:=[.ref a,.ref s3.heap.objs.size]) pl.isList.typeIs slot_list_getitem.lookup ?_ (by with_unfolding_all rfl);refine wpAny_getItem_list_slice (vs:=.int (-1) t) (st:=some (-1)) pl.isList (Heap.IsSliceOf.new ..) .none .none (.int _ _) (by decide) ?_ (by rw[size_toArray];have:=rv.length;omega);rw[W.krv_pick];have hn:=I4.hok.fresh (le_refl _);have rr:Vals xs.reverse its.reverse:=by
  have go:∀{xs:Zu} {us:List Value},Vals xs us→Vals xs.reverse us.reverse:=by
   intro xs
   induction xs with
   |nil=>intro us h;cases h;exact .nil
   |cons x xs ih=>
    intro us h;cases h with
    |cons r rr=>
     rw[reverse_cons,reverse_cons];exact(ih rr).append (.cons r .nil)
  exact go rv
 refine⟨.ref _,_,I4.laid (t':=s3.toks) (o:=.lst xs.reverse) (λb ob q=>Heap.get?_push_of_some _ q) (le_refl _) ?_,rfl,q3 _ hn⟩;exact⟨by rw[length_reverse];exact hz,its.reverse,0,rr,Heap.get?_push_size _ rfl⟩
def ur:D→D→Res D
 |.lst l,.int k=>if k= -1 then .ok (.lst l.reverse) else .bad
 |_,_=>.bad
def Fm {e st:Y3}{f g:Z7}(he:PD X E e f)(hk:PD X E st g):PN X E 1 (.Subscript e (.Slice none none (some st) p2) pos) (ae f g ur):=by
 refine .tn (Fc (pos:=pos) (p2:=p2) (dM he) (dM hk)) λσ G H ρ Q hs hro ho k=>⟨G,ρ,hs,hro,ho.fst,λd e1 v G1 H1 x1 p1=>⟨G1,ρ,x1.gh,hro.mono x1.gg,(ho.snd e1 x1.hh).fst,λd2 e2 v2 G2 H2 x2 p2=>?_⟩⟩;have kk:=(ho.snd e1 x1.hh).snd e2 x2.hh;have e0:ae f g ur ρ=ur d d2:=by unfold ae;rw[e1,az,e2,az]
 unfold ur at kk;split at kk
 ·rename_i l kv;split at kk
  ·rename_i hk1;subst hk1;rw[rep_lst]at p1;rw[rep_int]at p2;obtain⟨a,xs,rfl,sq,rl⟩:=p1;refine⟨p2,a,xs,rfl,x2.hh.seq (x1.gh.seq sq.sq),λp hp=>?_⟩;obtain⟨x,o,w⟩:=jC (x1.trans x2) hp (rl.mono x2.gg).reverse;exact k _ (by rw[e0];unfold ur;exact Yo rfl) _ _ _ _ x o w
  ·exact kk.elim
 ·exact kk.elim
def FA:D→Res Bool
 |.lst l=>.ok (!l.isEmpty)
 |.bl b=>.ok b
 |_=>.bad
def wI {f:Z7}(h:PD X E e f)(he:∀whole,isTrue e X.env whole=(do let v ←whole;standAt e.pos;holding [v] (truthy v)):=by intro _;rfl):uI X E e (λρ=>(f ρ).bind FA):=by
 intro pins s σ G H ρ I hs hro ho;refine isTrue_plain (aV (h pins s σ G H ρ I hs hro ho.fst) λv s1 hZ181=>?_) (he _);obtain⟨d,e,v3,G3,H3,I3,r3,x3,p3⟩:=hZ181;have k:=ho.snd e (Same.refl H);cases d with
 |bl b=>
  rw[rep_bl]at p3;subst p3;cases r3;exact wpAny_truthy_bool ⟨aq e rfl,G3,H3,I3,x3⟩
 |lst l=>
  rw[rep_lst]at p3;obtain⟨a,xs,rfl,sq,rl⟩:=p3;cases r3;obtain⟨its,rv,pl,hz⟩:=I3.list (x3.gh.seq sq.sq);refine wpAny_truthy_list pl.isList (by rw[size_toArray,←rv.length];have:=sizeLine_eq;omega) ⟨aq e ?_,G3,H3,I3.tok _,x3⟩;show Res.ok (!l.isEmpty)= .ok _;have h1:=rl.length;have h2:=rv.length;cases l with
  |nil=>
   cases its with
   |nil=>rfl
   |cons _ _=>simp at h1;rw[←h1]at h2;simp at h2
  |cons _ _=>
   cases its with
   |nil=>rw[←h1]at h2;simp at h2
   |cons _ _=>rfl
 |_=>exact k.elim
def cZ {st:Yq}:lV X E μ r st (λ_=>.bad):=λ_ _ _ _ _ _ _ _ _ _ _ ho=>ho.elim
end
def iZ (n:Nat)(N:Zw)(F:Zl):List D→Res D:=λds=>if ds.length=n then ee (F (aM N ds)) else .bad
section
variable{P:Zv}{w:Zk}{K:Z8}{mg:Z4}{base:Heap}
structure Cal (P:Zv)(w:Zk)(K:Z8)(mg:Z4)(base:Y6)(x:Yr)(k:Nat)(ps:Zw)(sp:Sp):Prop where
 ex:∃f fd,FnOk P w K mg base (CXF P w) k f fd ps sp∧Binds K fd ps []∧mg x=some (.ref f)∧W.keepIn K (.ref f)=true
structure Sta (K:Z8)(mg:Z4)(x:Yr)(st:Yq)(ps:Zw):Prop where
 ex:∃f fd,Fun K x x st f fd∧Binds K fd ps []∧mg x=some (.ref f)∧W.keepIn K (.ref f)=true
def Sta.cal {st:Yq}{N ps:Zw}{k r n:Nat}{F:Zl}(S:Sta K mg x st ps)(sc:FnScope N ps (aj st))(μ:Zz)(hμ:∀i,i<ps.length→μ.getD i 0=0)(hn:ps.length=n)(hbody:∀(f:Z2) (cdv:Zc) (A:Zg) (outer:Y1) (s:Z3) (H:Hp) (E:XK),Room k (A.deeper (envOfC x (aj st) s.heap.objs.size f cdv))→
   uL (yB P w K mg base N x (aj st) f cdv A outer s H E) E μ r (da st) F):Cal P w K mg base x (k+1) ps (freshSp K r (iZ n N F)):=by
 obtain⟨f,fd,hf,hb,hm,hk⟩:=S.ex;refine⟨f,fd,hf.fresh sc μ hμ (λds h=>?_) (λcdv A outer s H E hr=>⟨F,hbody f cdv A outer s H E hr,λds h=>?_⟩),hb,hm,hk⟩
 ·unfold iZ at h;split at h
  ·rename_i e;rw[e,hn]
  ·exact absurd rfl h
 ·unfold iZ at h ⊢;split at h
  ·rename_i e;rw[Yo e]
  ·exact absurd rfl h
end
section
variable{X:Cx}{E:XK}{n:Nat}
def km {k j:Nat}{ps:Zw}{m:Zr}{p pos:Ys}{e:Y3}{es:Ze}{fs:Z5}(C:Cal X.prog X.w X.K X.mg X.base x k ps (freshSp X.K n m))(hr:Room j X.A)(ha:lU X E (e::es) fs) (hx:de (CXF X.prog X.w) X E:=by exact jm λ_ _ _ h=>h) (hkj:k≤j:=by decide) (hg:Gl X x:=by rfl) (hdb:zQ1 x:=by decide) (he:zQ2 X e es:=by rfl) (hpl:(backTo pos (starEach es X.env)).any (·.1)=false:=by rfl) :
  PN X E n (.Call (.Name x p) (e::es) [] pos) (bb fs m):=by
 obtain⟨f,fd,F,hb,hm,hk⟩:=C.ex;exact CD F (hr.mono hkj) hg hm hk hb hx ha hdb he hpl
def aO {k j:Nat}{ps:Zw}{m:Zr}{p pos:Ys}{e:Y3}{es:Ze}{fs:Z5}(C:Cal X.prog X.w X.K X.mg X.base x k ps (freshSp X.K n m))(hr:Room j X.A)(ha:lU X E (e::es) fs) (hx:de (CXF X.prog X.w) X E:=by exact jm λ_ _ _ h=>h) (hkj:k≤j:=by decide) (hg:Gl X x:=by rfl) (hdb:zQ1 x:=by decide) (he:zQ2 X e es:=by rfl) (hpl:(backTo pos (starEach es X.env)).any (·.1)=false:=by rfl) :
  PD X E (.Call (.Name x p) (e::es) [] pos) (bb fs m):=(km C hr ha hx hkj hg hdb he hpl).pd
end
def f8 (so:Yz)(No:Zw)(scope:Yz):List Str→List (Option Nat)→Bool
 |x::N,some k::caps=>decide (scope.names.lookup x=some .free)&&decide (No[k]?=some x)&&(decide (so.names.lookup x=some .cell)||decide (so.names.lookup x=some .free))&&f8 so No scope N caps
 |_::N,none::caps=>f8 so No scope N caps
 | [],[]=>true
 |_,_=>false
theorem kC {so:Yz}{No:Zw}{scope:Yz}:∀{N:Zw} {caps:List (Option Nat)},f8 so No scope N caps=true→caps.length=N.length
 | [],[],_=>rfl
 | [],_::_,h=>by unfold f8 at h;cases h
 |_::_,[],h=>by unfold f8 at h;cases h
 |x::N,none::caps,h=>by unfold f8 at h;rw[length_cons,length_cons,kC h]
 |x::N,some k::caps,h=>by unfold f8 at h;rw[and_eq_true]at h;rw[length_cons,length_cons,kC h.2]
theorem jQ {so:Yz}{No:Zw}{scope:Yz}:∀{N:Zw} {caps:Zn} {j k:Nat} {x:Str},f8 so No scope N caps=true→caps[j]?=some (some k)→N[j]?=some x→scope.names.lookup x=some .free∧No[k]?=some x∧(so.names.lookup x=some .cell∨so.names.lookup x=some .free)
 | [],[],j,k,x,_,h1,h2=>by simp at h1
 | [],_::_,j,k,x,h,h1,h2=>by simp at h2
 |_::_,[],j,k,x,h,h1,h2=>by simp at h1
 |y::N,none::caps,j,k,x,h,h1,h2=>by
  unfold f8 at h;cases j with
  |zero=>simp at h1
  |succ j=>exact jQ h (by simpa using h1) (by simpa using h2)
 |y::N,some k0::caps,j,k,x,h,h1,h2=>by
  unfold f8 at h;rw[and_eq_true,and_eq_true,and_eq_true,or_eq_true]at h;obtain⟨⟨⟨a,b⟩,c⟩,d⟩:=h;cases j with
  |zero=>
   simp at h1 h2;subst h1 h2;exact⟨Zm a,Zm b,c.imp Zm Zm⟩
  |succ j=>exact jQ d (by simpa using h1) (by simpa using h2)
def qZ (so:Yz)(No:Zw)(scope:Yz)(N:Zw)(caps:Zn):Bool:=
 decide (scope.kind= .function)&&scope.names.all (λy=>decide (scope.names.lookup y.1=some y.2))&&
  scope.names.all (λy=>decide (y.2≠ .free)||(decide (so.names.lookup y.1=some .cell)||decide (so.names.lookup y.1=some .free)))&&decide N.Nodup&&f8 so No scope N caps
def a_ {X:Cx}{scope:Yz}{N:Zw}{caps:Zn}(so:Yz)(No:Zw)(hso:X.env.scope=so)(hNo:X.N=No)(chk:qZ so No scope N caps=true):CompSc X scope N caps:=by
 unfold qZ at chk;simp only[and_eq_true]at chk;obtain⟨⟨⟨⟨a,b⟩,d⟩,e⟩,f⟩:=chk;have b2:∀(y:Str×NameKind) {k:NameKind},y∈scope.names→y.2=k→scope.names.lookup y.1=some k:=λy k K I=>by rw[←I];exact Zm (all_eq_true.mp b y K)
 refine⟨Zm a,λy K I=>b2 y K I,λy K I=>b2 y K I,λy K I=>b2 y K I,λy K I=>?_,Zm e,kC f,λj k x h1 h2=>(jQ f h1 h2).1,λj k x h1 h2=>?_⟩
 ·have:=all_eq_true.mp d y K;rw[or_eq_true,or_eq_true]at this;rw[hso]
  rcases this with z|z|z
  ·exact absurd I (Zm z)
  ·exact .inl (Zm z)
  ·exact .inr (Zm z)
 ·obtain⟨_,h3,h4⟩:=jQ f h1 h2;rw[hso,hNo];exact⟨h3,h4⟩
abbrev pN:DS→Res (List D):=λ_=>.ok []
abbrev pC (f:Z7)(g:Z5):DS→Res (List D):=λρ=>(f ρ).bind λd=>(g ρ).bind λds=>.ok (d::ds)
abbrev kI (i:Int):DS→Res D:=λ_=>.ok (.int i)
abbrev kB (b:Bool):DS→Res D:=λ_=>.ok (.bl b)
abbrev kN:DS→Res D:=λ_=>.ok .non
abbrev c1 (f:Z7)(m:Zr):DS→Res D:=λρ=>(f ρ).bind λa=>m [a]
def k8 {X:Cx}{s:Z3}{H:Hp}{so:Yz}{C:Z2}{No:Zw}{ex:Zt}{scope:Yz}{N:Zw}{caps:Zn}(chk:qZ so No scope N caps=true):CompSc (X.comp s H so C No ex) scope N caps:=by
 have S:CompSc {X with env:={X.env with scope:=so},N:=No} scope N caps:=a_ so No rfl rfl chk
 have up:∀{x:Str},so.names.lookup x=some .cell∨so.names.lookup x=some .free→(relabel so X.env).names.lookup x=some .cell∨(relabel so X.env).names.lookup x=some .free:=λh=>h.elim (λz=>.inl (iO z)) λz=>iP z;exact⟨S.kind,S.freek,S.cellk,S.names,λy hy hk=>up (S.free y hy hk),S.nd,S.len,S.capf,λj k x h1 h2=>⟨(S.cap j k x h1 h2).1,up (S.cap j k x h1 h2).2⟩⟩
section
variable{X:Cx}{E:XK}{μ:Zz}{r n:Nat}
def Fj {st:Yq}{i:Nat}{f:Z7}(h:∃te,PS X st (uz te (cC i))∧TN X.K E n f te)(hi:X.N[i]?=some x)(hm:μ.getD i 0=0):lV X E μ r st (aF i (bz μ f)):=
 let ⟨_,h1,h2⟩:=h;CB hi h1 h2.freeze hm
def Dw {st:Yq}{i:Nat}{f:Z7}(h:∃te,PS X st (uz te (cC i))∧TN X.K E n f te)(hi:X.N[i]?=some x):lV X E [] r st (aF i f):=by
 have:=Fj (μ:=[]) (r:=r) h hi rfl;unfold bz at this;simp only[ll]at this;exact this
abbrev sL (f:Z7):DS→Res (List D):=λρ=>(f ρ).bind AK
abbrev sT (f:Z7):DS→Res (List D):=λρ=>(f ρ).bind FC
abbrev sR1 (fs:Z5):DS→Res (List D):=λρ=>(fs ρ).bind lF
abbrev sR2 (fs:Z5):DS→Res (List D):=λρ=>(fs ρ).bind Ay
abbrev sE (fs:Z5):DS→Res (List D):=λρ=>(fs ρ).bind tu
abbrev sZ (fs:Z5):DS→Res (List D):=λρ=>(fs ρ).bind vP
abbrev oI (f:Z7):DS→Res (Option Int):=λρ=>(f ρ).bind Hx
abbrev oN:DS→Res (Option Int):=λ_=>.ok none
abbrev tR (f:Z7):DS→Res Bool:=λρ=>(f ρ).bind FA
abbrev nG (f:Z7):DS→Res D:=λρ=>(f ρ).bind EO
abbrev yes:DS→Res Bool:=λ_=>.ok true
abbrev bad1:DS→Out:=λ_=>.bad
abbrev nxt:DS→Out:=λρ=>.nx ρ
abbrev u9 (f:Z7):DS→Res (List D):=λρ=>(f ρ).bind λd=>.ok [d]
end
structure CalM (P:Zv)(w:Zk)(K:Z8)(mg:Z4)(base:Y6)(C:Z2)(m:Yr)(k:Nat)(g:Zr):Prop where
 cl:Cls K C
 ex:∃f fd,Meth K C m f∧FnOk P w K mg base (CXF P w) k f fd ["self"] (pureSp K g)∧Binds K fd ["self"] []
structure CalI (P:Zv)(w:Zk)(K:Z8)(mg:Z4)(base:Y6)(x:Yr)(C:Z2)(k:Nat)(ps:Zw)(m:Zr):Prop where
 of:DH C m
 mgx:mg x=some (.ref C)
 ex:∃f fd,Mk K C f∧FnOk P w K mg base (CXF P w) k f fd ps (rG K C m)∧Binds K fd ps []
section
variable{X:Cx}{E:XK}
def ub {pl:Sem Bool}{k j:Nat}{C:Z2}{g:Zr}{apos pos:Ys}{fo:Z7}(M:CalM X.prog X.w X.K X.mg X.base C m k g)(hr:Room j X.A)(hoo:PD X E o fo)(hx:de (CXF X.prog X.w) X E:=by exact jm λ_ _ _ h=>h) (hkj:k≤j:=by decide)(ht:eval (.Call (.Attribute o m apos) [] [] pos) X.env=(do
   let ov ←eval o X.env
   standAt apos.atName
   let (f,first) ←holding [ov] (getMethod ov m pl)
   callWith pos f first (backTo pos (starEach [] X.env)) (backToKw pos (keywordEach [] X.env))):=by rfl):PD X E (.Call (.Attribute o m apos) [] [] pos) (ki C m fo g):=by
 obtain⟨f,fd,hm,F,hb⟩:=M.ex;exact GN hoo M.cl hm F (hr.mono hkj) hb hx ht
def GO {k j:Nat}{C:Z2}{ps:Zw}{m:Zr}{p pos:Ys}{fs:Z5}(M:CalI X.prog X.w X.K X.mg X.base x C k ps m)(hr:Room j X.A)(ha:lU X E (e::es) fs)(hx:de (CXF X.prog X.w) X E:=by exact jm λ_ _ _ h=>h) (hkj:k+1≤j:=by decide) (hg:Gl X x:=by rfl) (hdb:zQ1 x:=by decide)(he:zQ2 X e es:=by rfl) (hpl:(backTo pos (starEach es X.env)).any (·.1)=false:=by rfl):PD X E (.Call (.Name x p) (e::es) [] pos) (bb fs m):=by
 obtain⟨f,fd,mk,F,hb⟩:=M.ex;exact Ck mk F M.of (hr.mono hkj) hg M.mgx hb hx ha λt ht=>Cq mk F (hr.mono hkj) hg M.mgx hb .nil hx ht hdb he hpl
end
def C8 {i:Nat}{ρ:DS}:ac i ρ≠ .exc c:=by
 unfold ac;split <;> intro h <;> cases h
def rJ {a b:D}:aH a b≠ .exc c:=by
 unfold aH
 repeat' split
 all_goals (intro h;cases h)
section
variable{X:Cx}{E:XK}
end
def w6 (K:Z8):Sp:=λvs H Q _=>∃(ad:Z2) (sc:List Int),vs=[.ref ad]∧sc.length≤63∧gy K H ad (sc.map V.int)∧∀H',Q (.bl true) H'
section
variable{P:Zv}{w:Zk}{K:Z8}{mg:Z4}{base:Y6}{r:Nat}
def Cg {k:Nat}{fd:Y7}{m:Zr}(F:FnOk P w K mg base (CXF P w) k f fd ["script"] (freshSp K 0 m))(h:∀ns:List Int,ns.length≤63→m [.scr ns]= .ok (.bl true)):FnOk P w K mg base (CXF P w) k f fd ["script"] (w6 K):=
 F.imp λvs H Q E hZ182=>by
  obtain⟨ad,sc,e,hl,sq,q⟩:=hZ182;subst e;refine⟨[.scr sc],H,.refl _,.cons (by unfold Rep;exact⟨ad,rfl,sq⟩) .nil,by rw[h sc hl];trivial,λd ed v G' H' S _ o _=>?_⟩;rw[h sc hl]at ed;cases ed;have o2:=o.2;rw[rep_bl]at o2;rw[o2];exact q H'
def Fun.freshM {st:Yq}{fd:Y7}{N ps:Zw}{k n:Nat}{F:Zl}(Fn:Fun K x qual st f fd)(sc:FnScope N ps (aj st))(μ:Zz)(hμ:∀i,i<ps.length→μ.getD i 0=0)(hn:ps.length=n)(hbody:∀(cdv:Zc) (A:Zg) (outer:Y1) (s:Z3) (H:Hp) (E:XK),Room k (A.deeper (envOfC qual (aj st) s.heap.objs.size f cdv))→
   uL (yB P w K mg base N qual (aj st) f cdv A outer s H E) E μ r (da st) F):FnOk P w K mg base (CXF P w) (k+1) f fd ps (freshSp K r (iZ n N F)):=by
 refine Fn.fresh sc μ hμ (λds h=>?_) (λcdv A outer s H E hr=>⟨F,hbody cdv A outer s H E hr,λds h=>?_⟩)
 ·unfold iZ at h;split at h
  ·rename_i e;rw[e,hn]
  ·exact absurd rfl h
 ·unfold iZ at h ⊢;split at h
  ·rename_i e;rw[Yo e]
  ·exact absurd rfl h
end
def lr {K:Z8}:W.kitOne K t t=some true:=by
 unfold W.kitOne;rw[Yo (beq_iff_eq.mpr rfl)]
def jX {K:Z8}{C D:Z2}{b:Bool}(hne:C≠D)(hc:(W.clsIn K D).isSome=true)(ht:W.typeIn K (.ref D)=some (.type "type"))(hm:W.mroIn K C (.ref D)=some b):W.kitOne K (.ref C) (.ref D)=some b:=by
 unfold W.kitOne;rw[Ym (λq=>hne (Value.ref.inj (beq_iff_eq.mp q)))];unfold W.kitCls;dsimp only;rw[Yo (by rw[hc,ht];rfl)];exact hm
def zx {K:Z8}{C:Z2}{T:String}{b:Bool}(hk:W.kitMeta T=true)(hm:W.mroIn K C (.type T)=some b):W.kitOne K (.ref C) (.type T)=some b:=by
 unfold W.kitOne;rw[Ym (λq=>by have:=beq_iff_eq.mp q;cases this)];unfold W.kitCls;dsimp only;rw[Yo hk];exact hm
def EF {K:Z8}:W.kitOne K (.type "int") (.type "bool")=some false:=by
 unfold W.kitOne;rw[Ym (by decide +kernel)];unfold W.kitCls;dsimp only;rw[Yo (by decide +kernel)];show Option.map (λx=>x.contains (Value.type "bool")) (fastBuiltinMro "int")=some false;decide +kernel
def wd {K:Z8}{C D:Z2}(hb:W.mroIn K D (.type "BaseException")=some true)(hc:(W.clsIn K D).isSome=true)(ht:W.typeIn K (.ref D)=some (.type "type"))(hm:W.mroIn K C (.ref D)=some true):W.exmOne K (.ref C) (.ref D)=some true:=by
 unfold W.exmOne;have h1:W.subIn K (.ref D) (.type "BaseException")=some true:=hb;rw[Yo (by rw[h1];rfl)];unfold W.kitCls;dsimp only;rw[Yo (by rw[hc,ht];rfl)];exact hm
def xp {P:Zv}{w:Zk}{H:Hp}{s:Z3}{s':Z3}(h:CXF P w [] H s (λ_ _ _=>False) e s'):False:=by
 obtain⟨_,_,_,_,_,_,_,_,_,_,_,_,_,_,q⟩:=h;exact q
def zC (k:Nat){l:W.OpenLaw}{q:Zv}{loose:Zw}{XP:Yp}{YP:World→Heap→Prop}{d:DefRec}{K:Params→W.Frag}(hr:Room k callerA)(hn:l.most=some 63)(hdf:d.params.defaults=[])(hY:∀(w:Zk) (h:Heap),YP w h→(K w.params).In h)(F:∀(w:Zk) (mg:Z4) (fa:Z2) (h:Heap),(K w.params).In h→h.Ns mainGlobals mg→mg d.name=some (.ref fa)→
   ∃fd:FuncData,(∀(s:Z3) (u:Value),BindsTo s fd ⟨[u],[]⟩ [("script",u)])∧∀base:Heap,(K w.params).In base→base.Ns mainGlobals mg→FnOk l.prog w (K w.params) mg base (CXF l.prog w) k fa fd ["script"] (w6 (K w.params))) :
  W.WalkO q loose XP YP l.row.toRowW d [] (λf vs=>PySem.call f vs):=
 C9 (n:=63) (k:=k) (x:= "script") (CX:=λw=>CXF l.prog w) (sp:=λw=>w6 (K w.params)) hn (by decide) hdf hr hY F (λ_ _ a ns hl _ hS=>⟨a,ns,rfl,hl,hS,λ_=>rfl⟩) λ_ _ _ _ _ z=>xp z
end L2
namespace L2
open PySem
section
variable{α:Type}{ρ ρ' ρ1:DS}{μ:Zz}{n j k m:Nat}{f fi':Z7}{fc:Zp}{F R:Zl}{fi:Z5}{asg:Za}{o:Y8}{d e:D}{ds l row:List D}
def Gc:bz μ f ρ=f (gX μ ρ):=id rfl
def Ea:nE μ fi ρ=fi (gX μ ρ):=id rfl
def yW:gN n f ρ=(f ρ).bind λd=>if bW n d=true then .ok d else .bad:=id rfl
def D8:gX (0::μ) (o::ρ)=o::gX μ ρ:=by unfold gX;rw[List.mapIdx_cons];rfl
def D_:gX ((n+1)::μ) (o::ρ)=none::gX μ ρ:=by unfold gX;rw[List.mapIdx_cons];rfl
def D9:gX μ []=[]:=id rfl
def cQ:b9 fi asg F ρ=(fi ρ).out λds=>cq asg F ds ρ:=id rfl
def yU:cq asg F [] ρ= .nx ρ:=id rfl
def iH (h1:asg d ρ=some ρ1)(h2:F ρ1= .nx ρ'):cq asg F (d::ds) ρ=cq asg F ds ρ':=by
 conv=>lhs;unfold cq
 rw[h1];dsimp only;rw[h2]
theorem oA (I:List D→DS→Prop)(step:∀d ds ρ,I (d::ds) ρ→∃ρ1 ρ',asg d ρ=some ρ1∧F ρ1= .nx ρ'∧I ds ρ'):∀ds ρ,I ds ρ→∃ρ',cq asg F ds ρ= .nx ρ'∧I [] ρ'
 | [],ρ,h=>⟨ρ,rfl,h⟩
 |d::ds,ρ,h=>by
  obtain⟨ρ1,ρ',h1,h2,h3⟩:=step d ds ρ h;obtain⟨ρ2,h4,h5⟩:=oA I step ds ρ' h3;exact⟨ρ2,(iH h1 h2).trans h4,h5⟩
def lj {x:Res D}(I:List D→DS→Prop)(h:I ds ρ)(step:∀d ds ρ,I (d::ds) ρ→∃ρ1 ρ',asg d ρ=some ρ1∧F ρ1= .nx ρ'∧I ds ρ')(fin:∀ρ',I [] ρ'→ee (R ρ')=x):ee ((cq asg F ds ρ).then R)=x:=by
 obtain⟨ρ',e,h'⟩:=oA I step ds ρ h;rw[e];exact fin ρ' h'
def xG {P:D→Prop}(I:List D→DS→Prop)(h:I ds ρ)(step:∀d ds ρ,I (d::ds) ρ→∃ρ1 ρ',asg d ρ=some ρ1∧F ρ1= .nx ρ'∧I ds ρ')(fin:∀ρ',I [] ρ'→∃x,ee (R ρ')= .ok x∧P x):∃x,ee ((cq asg F ds ρ).then R)= .ok x∧P x:=by
 obtain⟨ρ',e,h'⟩:=oA I step ds ρ h;rw[e];exact fin ρ' h'
def xS {l:Yx}:bW 1 (.lst (l.map λt=>.tup (t.map D.int)))=true:=by
 unfold bW;rw[all_eq_true];intro d hd;obtain⟨t,_,rfl⟩:=mem_map.mp hd;exact gb t
def f_ {i:Int}:bW 0 (.int i)=true:=by unfold bW flat;rfl
theorem ju {st:List α→DS→Prop}{c:α→D}:∀(xs pre:List α) (ρ:DS),st pre ρ→(∀pre' x post,pre ++ xs=pre' ++ x::post→∀ρ,st pre' ρ→∃ρ1,asg (c x) ρ=some ρ1∧∃ρ',F ρ1= .nx ρ'∧st (pre' ++ [x]) ρ')→∃ρ',cq asg F (xs.map c) ρ= .nx ρ'∧st (pre ++ xs) ρ'
 | [],pre,ρ,h,_=>⟨ρ,rfl,by rw[append_nil];exact h⟩
 |x::xs,pre,ρ,h,step=>by
  obtain⟨ρ1,h1,ρ',h2,h3⟩:=step pre x xs rfl ρ h;obtain⟨ρ2,h4,h5⟩:=ju xs (pre ++ [x]) ρ' h3 λpre' y post e=>step pre' y post (by rw[←e,append_assoc];rfl);refine⟨ρ2,(iH h1 h2).trans h4,?_⟩;rw[append_assoc]at h5;exact h5
def eX {x:Res D}{xs:List α}{c:α→D}(st:List α→DS→Prop)(h:st [] ρ)(step:∀pre y post,xs=pre ++ y::post→∀ρ,st pre ρ→∃ρ1,asg (c y) ρ=some ρ1∧∃ρ',F ρ1= .nx ρ'∧st (pre ++ [y]) ρ')(fin:∀ρ',st xs ρ'→ee (R ρ')=x):ee ((cq asg F (xs.map c) ρ).then R)=x:=by
 obtain⟨ρ',e,h'⟩:=ju (asg:=asg) (F:=F) (c:=c) xs [] ρ h step;rw[e];exact fin ρ' h'
def yh {P:DS→Prop}{xs:List α}{c:α→D}(st:List α→DS→Prop)(h:st [] ρ)(step:∀pre y post,xs=pre ++ y::post→∀ρ,st pre ρ→∃ρ1,asg (c y) ρ=some ρ1∧∃ρ',F ρ1= .nx ρ'∧st (pre ++ [y]) ρ')(fin:∀ρ',st xs ρ'→∃ρ'',R ρ'= .nx ρ''∧P ρ''):∃ρ'',(cq asg F (xs.map c) ρ).then R= .nx ρ''∧P ρ'':=by
 obtain⟨ρ',e,h'⟩:=ju (asg:=asg) (F:=F) (c:=c) xs [] ρ h step;rw[e];exact fin ρ' h'
def lC {P:DS→Prop}{xs:List α}{c:α→D}(st:List α→DS→Prop)(h:st [] ρ)(step:∀pre y post,xs=pre ++ y::post→∀ρ,st pre ρ→∃ρ1,asg (c y) ρ=some ρ1∧∃ρ',F ρ1= .nx ρ'∧st (pre ++ [y]) ρ')(fin:∀ρ',st xs ρ'→P ρ'):∃ρ'',cq asg F (xs.map c) ρ= .nx ρ''∧P ρ'':=by
 obtain⟨ρ',e,h'⟩:=ju (asg:=asg) (F:=F) (c:=c) xs [] ρ h step;exact⟨ρ',e,fin ρ' h'⟩
theorem kW (I:Nat→DS→Prop)(Dn:DS→Prop)(h:∀n ρ,I n ρ→(fc ρ= .ok false∧Dn ρ)∨(fc ρ= .ok true∧∃m ρ',n=m+1∧F ρ= .nx ρ'∧I m ρ')):∀(n k:Nat) (ρ:DS),n<k→I n ρ→∃ρ',cv fc F k ρ= .nx ρ'∧Dn ρ'
 |n,k+1,ρ,hk,hI=>by
  rcases h n ρ hI with ⟨h1,h2⟩|⟨h1,m,ρ',rfl,h2,h3⟩
  ·refine⟨ρ,?_,h2⟩
   conv=>lhs;unfold cv
   rw[h1];rfl
  ·obtain⟨ρ2,h4,h5⟩:=kW I Dn h m k ρ' (by omega) h3;refine⟨ρ2,?_,h5⟩;rw[←h4]
   conv=>lhs;unfold cv
   rw[h1,aL,Yo rfl,h2]
def m3 {x:Res D}(I:Nat→DS→Prop)(Dn:DS→Prop)(n:Nat)(hn:n<k)(h0:I n ρ)(h:∀n ρ,I n ρ→(fc ρ= .ok false∧Dn ρ)∨(fc ρ= .ok true∧∃m ρ',n=m+1∧F ρ= .nx ρ'∧I m ρ'))(fin:∀ρ',Dn ρ'→ee (R ρ')=x):ee ((cv fc F k ρ).then R)=x:=by
 obtain⟨ρ',e,h'⟩:=kW I Dn h n k ρ hn h0;rw[e];exact fin ρ' h'
theorem qF {c:α→D}:∀(l:List α) (n:Nat),cj n (l.map c)=(l.zipIdx n).map λq=>.tup [.int (q.2:Int),c q.1]
 | [],n=>rfl
 |x::l,n=>by
  rw[map_cons,List.zipIdx_cons,map_cons];unfold cj;rw[qF l (n+1)]
def jT {c:α→D}{l:List α}:tu [.lst (l.map c)]= .ok (l.zipIdx.map λq=>.tup [.int (q.2:Int),c q.1]):=by
 unfold tu;dsimp only;rw[qF]
theorem xf {β:Type}{c:α→D}{c':β→D}:∀(l:List α) (l':List β),ke (l.map c) (l'.map c')=(l.zip l').map λq=>.tup [c q.1,c' q.2]
 | [],_=>by unfold ke;rfl
 |_::_,[]=>by unfold ke;rfl
 |a::l,b::l'=>by
  rw[map_cons,map_cons,List.zip_cons_cons,map_cons];unfold ke;rw[xf l l']
def za {β:Type}{c:α→D}{c':β→D}{l:List α}{l':List β}:vP [.lst (l.map c),.lst (l'.map c')]= .ok ((l.zip l').map λq=>.tup [c q.1,c' q.2]):=by
 unfold vP;dsimp only;rw[xf]
def xa (h:ac j ρ= .ok d):ρ[j]?=some (some d):=by
 unfold ac at h;split at h
 ·rename_i x e;cases h;exact e
 ·cases h
def cY (h:n≤100000):aQ n=true:=Zo h
def uV (h:ac j ρ= .ok (.lst l))(hf:f ρ= .ok d)(hl:l.length≤100000):m6 j f ρ= .nx (ρ.set j (some (.lst (l ++ [d])))):=by
 unfold m6;rw[xa h];dsimp only;rw[hf,aL,Yo (cY hl)]
def wu (h:m<n):pH n (m:Int)=some m:=by
 unfold pH;rw[Yo (by omega),Yo (by omega)];simp
def BL (h:ac j ρ= .ok (.lst l))(hf:f ρ= .ok d)(hi:fi' ρ= .ok (.int m))(hm:m<l.length):vF j fi' f ρ= .nx (ρ.set j (some (.lst (l.set m d)))):=by
 unfold vF;rw[xa h];dsimp only;rw[hf,aL,hi,aL];unfold sv;dsimp only;rw[wu hm]
def gW {fe:Z7}{ft:Zp}{caps:Zn}{xs:List α}{c:α→D}{p:α→Bool}{g:α→D}(hi:fi ρ= .ok (xs.map c))(hl:xs.length≤100000)(h:∀x∈xs,∃ρ',asg (c x) (e_ caps ρ)=some ρ'∧ft ρ'= .ok (p x)∧(p x=true→fe ρ'= .ok (g x))):aU fi caps asg ft fe ρ= .ok (.lst ((xs.filter p).map g)):=by
 unfold aU;rw[hi,az,Yo (cY (by rw[length_map];exact hl))];have go:∀ys:List α,(∀x∈ys,∃ρ',asg (c x) (e_ caps ρ)=some ρ'∧ft ρ'= .ok (p x)∧(p x=true→fe ρ'= .ok (g x)))→
   bS (pI asg (e_ caps ρ) ft) (pI asg (e_ caps ρ) fe) (ys.map c)= .ok ((ys.filter p).map g):=by
  intro ys
  induction ys with
  |nil=>intro _;rfl
  |cons y ys ih=>
   intro h;obtain⟨ρ',h1,h2,h3⟩:=h y (mem_cons_self ..);have ih:=ih λx hx=>h x (dk hx);rw[map_cons];unfold bS;have e1:pI asg (e_ caps ρ) ft (c y)= .ok (p y):=by unfold pI;rw[h1];exact h2
   rw[e1];cases q:p y with
   |true=>
    dsimp only;have e2:pI asg (e_ caps ρ) fe (c y)= .ok (g y):=by unfold pI;rw[h1];exact h3 q
    rw[e2];dsimp only;rw[ih,az,List.filter_cons_of_pos q];rfl
   |false=>
    dsimp only;rw[ih,List.filter_cons_of_neg (by rw[q];exact Bool.false_ne_true)]
 rw[go xs h,az]
def bB {fe:Z7}{caps:Zn}{xs:List α}{c:α→D}{g:α→D}(hi:fi ρ= .ok (xs.map c))(hl:xs.length≤100000)(h:∀x∈xs,∃ρ',asg (c x) (e_ caps ρ)=some ρ'∧fe ρ'= .ok (g x)):aU fi caps asg yes fe ρ= .ok (.lst (xs.map g)):=by
 have:=gW (p:=λ_=>true) (ft:=yes) hi hl λx hx=>(h x hx).imp λρ' h=>⟨h.1,rfl,λ_=>h.2⟩;rw[List.filter_eq_self.mpr λ_ _=>rfl]at this;exact this
def bN {N:Zw}(h:ds.length=n):iZ n N F ds=ee (F (aM N ds)):=Yo h
def cr {g:α→D}{l:List α}{v:α}{i:Nat}(h:l[i]?=some v):aH (.lst (l.map g)) (.int i)= .ok (g v):=l8 (vV (by rw[getElem?_map,h];rfl))
def fH {g:α→D}{l:List α}:bj [.lst (l.map g)]= .ok (.int l.length):=by rw[v9,length_map]
def tV {a:Int}{ns:Z1}:mj [.lst ((a::ns).map D.int)]= .ok (.int (eS (a::ns))):=by unfold mj;dsimp only;rw[eN]
def CP {n:Nat}:pi 0 n=(List.range n).map λ(i:Nat)=>D.int (i:Int):=by
 unfold pi;refine map_congr_left λi _=>?_;rw[Int.zero_add]
def cc {n:Nat}(h:n<1000000):lF [.int (n:Int)]= .ok ((List.range n).map λ(i:Nat)=>D.int (i:Int)):=by
 unfold lF;dsimp only;have:dh (n:Int)=true:=by unfold dh;rw[and_eq_true,decide_eq_true_eq,decide_eq_true_eq];omega
 rw[Yo this,toNat_natCast,CP]
def rm {a b:Int}(h0: -1000000≤a)(h1:a<1000000)(h2: -1000000≤b)(h3:b<1000000):Ay [.int a,.int b]= .ok (pi a (b-a).toNat):=by
 unfold Ay;dsimp only;have:(dh a&&dh b)=true:=by unfold dh;simp only[and_eq_true,decide_eq_true_eq];omega
 rw[Yo this]
def rh {ns:Z1}:bj [.scr ns]= .ok (.int ns.length):=id rfl
def Ec {ns:Z1}{i n:Int}(h:atI ns i=some n):aH (.scr ns) (.int i)= .ok (.int n):=by unfold aH;dsimp only;rw[h]
def lh {i j:Int}(h1: -(2 ^ 64)<j)(h2:j<2 ^ 64):gk (.int i) (.int j)= .ok (.int (i*j)):=by
 unfold gk Du;rw[BF h1 h2]
def lg {i j:Int}(h1: -(2 ^ 64)<i)(h2:i<2 ^ 64):gk (.int i) (.int j)= .ok (.int (i*j)):=by
 unfold gk Du;rw[BE h1 h2]
def cellOf (ns:Z1)(k:Int):Int:=if ns.length=0 then 7 else ns.getD (k % ns.length).toNat 0
def pB (ns:Z1)(k:Int):Int:=(cellOf ns k*48271+(k+1)*7919+ns.length) % 2147483647
def Hb (ns:Z1)(k:Int):Int:=(pB ns k*pB ns k+k*16807+11) % 2147483647
def drawn (ns:Z1)(k many:Int):Int:=Hb ns k*48271 % 2147483647 / 16 % many
def C3 {ns:Z1}{k:Int}:0≤pB ns k∧pB ns k<2147483647:=⟨Int.emod_nonneg _ (by decide),Int.emod_lt_of_pos _ (by decide)⟩
def cB {ns:Z1}{k many:Int}(h:0<many):0≤drawn ns k many∧drawn ns k many<many:=⟨Int.emod_nonneg _ (by omega),Int.emod_lt_of_pos _ h⟩
def Bm {ns:Z1}{k:Int}(hz:ns.length≠0):atI ns (k % (ns.length:Int))=some (cellOf ns k):=by
 have hm0:0≤k % (ns.length:Int):=Int.emod_nonneg _ (by omega);have hm1:k % (ns.length:Int)<ns.length:=Int.emod_lt_of_pos _ (by omega);refine ji hm0 ?_;have hlt:(k % (ns.length:Int)).toNat<ns.length:=by omega
 rw[gd hlt];unfold cellOf;rw[Ym hz];simp[List.getD,gd hlt]
end
def gP (n:Nat):W.KasT (Array Nat)→Bool
 |.ret p=>decide (p.size=n)&&p.toList.all (λi=>decide (i<n))&&(List.range n).all λi=>p.toList.contains i
 |.ask i j k=>decide (i<n)&&decide (j<n)&&gP n (k true)&&gP n (k false)
theorem kO {n:Nat}{lt:Nat→Nat→Bool}:∀(t:W.KasT (Array Nat)),gP n t=true→∃p,pj n lt t=some p∧p.size=n∧(∀i∈p.toList,i<n)∧∀i,i<n→i∈p.toList
 |.ret p,h=>by
  unfold gP at h;simp only[and_eq_true,decide_eq_true_eq,all_eq_true]at h;refine⟨p,rfl,h.1.1,λi hi=>h.1.2 i hi,λi hi=>?_⟩;have:=h.2 i (mem_range.mpr hi);exact List.contains_iff_mem.mp this
 |.ask i j k,h=>by
  unfold gP at h;simp only[and_eq_true,decide_eq_true_eq]at h;obtain⟨⟨⟨h1,h2⟩,h3⟩,h4⟩:=h;have e:pj n lt (.ask i j k)=pj n lt (k (lt i j)):=by
   conv=>lhs;unfold pj
   rw[Yo ⟨h1,h2⟩]
  rw[e];cases lt i j with
  |true=>exact kO _ h3
  |false=>exact kO _ h4
def Cb:gP 2 (W.kas_sort 2)=true:=by decide +kernel
def Cc:gP 3 (W.kas_sort 3)=true:=by decide +kernel
def Cd:gP 4 (W.kas_sort 4)=true:=by decide +kernel
def Ce:gP 5 (W.kas_sort 5)=true:=by decide +kernel
def vm {n:Nat}(h2:2≤n)(h5:n≤5):gP n (W.kas_sort n)=true:=by
 rcases (show n=2∨n=3∨n=4∨n=5 by omega) with rfl|rfl|rfl|rfl
 ·exact Cb
 ·exact Cc
 ·exact Cd
 ·exact Ce
def yn (l:Yx)(h:l.length≤5)(hne:∀t∈l,t≠[]):∃l':List (List Int),iW [.lst (l.map λt=>.tup (t.map D.int))]= .ok (.lst (l'.map λt=>.tup (t.map D.int)))∧l'.length=l.length∧∀t,t∈l'↔t∈l:=by
 by_cases h2:l.length<2
 ·refine⟨l,?_,rfl,λ_=>Iff.rfl⟩;unfold iW;dsimp only;rw[Yo (by rw[length_map];exact h2)]
 ·obtain⟨p,e,h3,h4,h5⟩:=kO (lt:=λi j=>HT.i_ (l.getD i []) (l.getD j [])) _ (vm (by omega) h);refine⟨p.toList.map λi=>l.getD i [],?_,by rw[length_map,length_toList];exact h3,λt=>?_⟩
  ·unfold iW;dsimp only;rw[Ym (by rw[length_map];exact h2),mK];dsimp only;rw[Yo,e]
   ·dsimp only;rw[Yo,map_map]
    ·rfl
    ·exact⟨h3,all_eq_true.mpr λi hi=>Zo (h4 i hi)⟩
   ·rw[and_eq_true,all_eq_true];refine⟨λt ht=>?_,Zo (by omega)⟩;cases t with
    |nil=>exact absurd rfl (hne [] ht)
    |cons _ _=>rfl
  ·rw[mem_map];constructor
   ·intro hZ26;obtain⟨i,hi,rfl⟩:=hZ26;have hl:=h4 i hi;rw[getD_eq_getElem?_getD,gd hl];exact getElem_mem hl
   ·intro ht;obtain⟨i,hi,e⟩:=List.getElem_of_mem ht;refine⟨i,h5 i hi,?_⟩;rw[getD_eq_getElem?_getD,gd hi];exact e
end L2
namespace L2
open PySem PySem.Spec PyProof.Rows
theorem AllW.zero {K:Z8}{G H:Hp}:∀{ds:Zy} {vs:Zu} {S:List Addr},AllW (Ow K G H 0) ds vs S→S=[]∧RepL K G ds vs
 | [],_,_,h=>by rw[h.1,h.2];exact⟨rfl,.nil⟩
 |d::ds,_,_,h=>by
  obtain⟨v,r,A,B,e1,e2,h1,h2⟩:=h;obtain⟨e3,h3⟩:=AllW.zero h2;subst e1 e2 e3;rw[h1.1];exact⟨rfl,.cons h1.2 h3⟩
theorem AllW.of0 {K:Z8}{G H:Hp}:∀{ds:Zy} {vs:List V},RepL K G ds vs→AllW (Ow K G H 0) ds vs []
 | [],_,h=>⟨h.inv0,rfl⟩
 |d::ds,_,h=>by
  obtain⟨v,r,rfl,h1,h2⟩:=h.inv;exact⟨v,r,[],[],rfl,rfl,⟨rfl,h1⟩,AllW.of0 h2⟩
theorem RepL.erase {K:Z8}{G:Hp}:∀{ds:Zy} {vs:Zu} (i:Nat),RepL K G ds vs→RepL K G (ds.eraseIdx i) (vs.eraseIdx i)
 | [],_,i,h=>by rw[h.inv0];exact .nil
 |d::ds,_,0,h=>by
  obtain⟨v,r,rfl,h1,h2⟩:=h.inv;exact h2
 |d::ds,_,i+1,h=>by
  obtain⟨v,r,rfl,h1,h2⟩:=h.inv;exact .cons h1 (RepL.erase i h2)
section
variable{X:Cx}{E:XK}{μ:Zz}{n:Nat}
variable{q:Nat}
def zu {m:Nat}{k:Int}{t:Nat}(h:aQ m=true)(e:pH m k=some t): -(2 ^ 63)≤k∧k<2 ^ 63:=by
 have h7:m≤100000:=Zm h;obtain⟨_,_,h1,h2⟩:=iJ e;omega
end
section
variable{X:Cx}{E:XK}{μ:Zz}{n:Nat}
end
def Rw.forget {K:Z8}{μ:Zz}{Ge B G H:Hp}{σ:St}{ρ:DS}{fp:Zh}{i:Nat}{o:Option V}(R:Rw K μ Ge B G H σ ρ fp):Rw K μ Ge B G H (σ.set i o) (ρ.set i none) (λj=>if j=i then [] else fp j):=by
 have L:=R.drop (i:=i);refine⟨L.gh,L.eg,L.bh,L.nw,L.gf,L.ob,L.oc,L.nd,L.dj,λk d e=>?_⟩;obtain⟨v,hv,h⟩:=L.sl k d e;refine⟨v,?_,h⟩;have hk:k≠i:=λz=>by
  subst z;rw[getElem?_set]at e;split at e
  ·split at e <;> cases e
  ·rename_i hne;exact hne rfl
 rw[getElem?_set_ne (Ne.symm hk)];exact hv
section
variable{X:Cx}{E:XK}{μ:Zz}{n:Nat}
end
section
variable{P:Zv}{w:Zk}{K:Z8}{mg:Z4}{base:Heap}
end
section
variable{P:Zv}{w:Zk}{K:Z8}{mg:Z4}{base:Heap}
end
section
variable{X:Cx}{E:XK}{μ:Zz}{r n:Nat}
theorem Ow.up {K:Z8}{G H:Hp}:∀{n:Nat} {d:D} {v:V} {S:List Addr},bW n d=true→Ow K G H n d v S→Ow K G H (n+1) d v S
 |0,d,v,S,hf,h=>by
  cases d with
  |lst ds=>cases hf
  |dct ks ds=>cases hf
  |tup ds=>exact .inl ⟨hf,h.1,h.2⟩
  |_=>exact⟨hf,h.1,h.2⟩
 |n+1,d,v,S,hf,h=>by
  cases d with
  |lst ds=>
   obtain⟨a,xs,T,e1,e2,e3,h1⟩:=h;unfold bW at hf;exact⟨a,xs,T,e1,e2,e3,h1.mono λd v A hd _ z=>Ow.up (all_eq_true.mp hf d hd) z⟩
  |dct ks ds=>
   obtain⟨a,xs,T,e1,e2,e4,e3,h1⟩:=h;unfold bW at hf;exact⟨a,xs,T,e1,e2,e4,e3,h1.mono λd v A hd _ z=>Ow.up (all_eq_true.mp hf d hd) z⟩
  |tup ds=>
   rcases h with h|⟨a,xs,T,e1,e2,e3,e5,h1⟩
   ·exact .inl h
   ·refine .inr ⟨a,xs,T,e1,e2,e3,e5,h1.mono λd v A hd _ z=>Ow.up ?_ z⟩;unfold bW at hf;rw[or_eq_true]at hf
    rcases hf with y|y
    ·unfold L2.flat at y;exact jZ (jU y hd)
    ·exact all_eq_true.mp y d hd
  |_=>exact h
def PN.up {f:Z7}(h:PN X E n e f):PN X E (n+1) e (gN n f):=by
 intro pins s σ G H ρ I hs hr ho;refine aV (h pins s σ G H ρ I hs hr ho.fst) λu s' hZ183=>?_;obtain⟨d,e,v,G',H',S,I',rv,x,o,w⟩:=hZ183;have k:=ho.snd e (Same.refl H);by_cases hl:bW n d=true
 ·exact⟨d,aq e (Yo hl),v,G',H',S,I',rv,x,o.up hl,w⟩
 ·rw[Ym hl]at k;exact k.elim
inductive tNA (K:Z8)(E:XK)(n:Nat)(f:Z5)(σ:St)(H:Hp)(Q:List V→Hp→Prop):Prop
 |mk (G:Hp) (ρ:DS) (s:Same G H) (r:Ro K G σ ρ) (o:OkR E H (f ρ)) (k:∀ds,f ρ= .ok ds→∀vs G' H' S,Ext G H G' H'→AllW (Ow K G' H' n) ds vs S→New H G' S→Q vs H')
def FV (X:Cx)(E:XK)(n:Nat)(es:Ze)(f:Z5):Prop:=PA X es (tNA X.K E n f)
def sr:FV X E n [] pN:=λpos pins s σ H Q I hZ184=>(by obtain⟨G,ρ,hs,hro,ho,k⟩:=hZ184;exact Calls.spliced_nil ⟨[],H,I,.nil,k [] rfl [] G H [] (.refl hs) ⟨rfl,rfl⟩ .nil⟩)
def uh {f:Z7}{g:Z5}(h:PN X E n e f)(hes:FV X E n es g)(hs:zQ2 X e es:=by rfl):FV X E n (e::es) (pC f g):=by
 intro pos pins s σ H Q I hZ27;obtain⟨G,ρ,hsm,hro,ho,k⟩:=hZ27;refine bQ (Aa h) hes hs pos pins s σ H Q I ⟨G,ρ,hsm,hro,ho.fst,λd ed v G1 H1 S x1 o w=>⟨G1,ρ,x1.gh,hro.mono x1.gg,(ho.snd ed x1.hh).fst,λds eds vs G2 H2 T x2 os w2=>?_⟩⟩;have hc:∀a∈S,∃u,H1 a=some u∧¬oG u:=λa ha=>let ⟨u,e,c⟩:=o.cell a ha;⟨u,e,c.nokey⟩
 have w3:=w.step hc x2;exact k (d::ds) (aq ed (aq eds rfl)) (v::vs) G2 H2 (S ++ T) (x1.trans x2) ⟨v,vs,S,T,rfl,rfl,o.mono x2.gg λa _ u e=>x2.hh a u e,os⟩ (w3.join w2 hc x1.hh)
def wS {f:Z5}(h:FV X E n es f):PN X E (n+1) (.List es pos) (cU f):=by
 refine .tn (vt h) λσ G H ρ Q hs hro ho k=>⟨G,ρ,hs,hro,ho.fst,λds e vs G1 H1 S x1 os w=>?_⟩;have kk:=ho.snd e x1.hh;by_cases hl:aQ ds.length=true
 ·refine⟨by rw[←os.length];exact bK hl,λp hp=>?_⟩;have hpS:p∉S:=λz=>by obtain⟨u,hu,_⟩:=os.has p z;rw[hp]at hu;cases hu
  have gp:G1 p=none:=by
   cases q:G1 p with
   |none=>rfl
   |some u=>rw[x1.gh p u q]at hp;cases hp
  have o1:AllW (Ow X.K G1 (bc H1 p (.lst vs)) n) ds vs S:=os.mono λd v A _ hA z=>z.mono (.refl _) λb hb u e=>by
   have hne:b≠p:=λzz=>hpS (zz ▸ hA b hb);rw[am hne];exact e
  have w1:New H G1 (p::S):=⟨nodup_cons.mpr ⟨hpS,w.1⟩,λa ha=>by
   rcases mem_cons.mp ha with z|z
   ·subst z;exact⟨x1.hh.free hp,gp⟩
   ·exact w.2 a z⟩
  exact k (.lst ds) (aq e (Yo hl)) (.ref p) G1 _ (p::S) (x1.hnew hp _) ⟨p,vs,S,rfl,au,rfl,o1⟩ w1
 ·rw[Ym hl]at kk;exact kk.elim
def cW {i:Nat}:∀ρ c,ac i ρ≠ .exc c:=λρ c=>C8
end
end L2
namespace L2
open PySem
def t7 {f g:Z7}{o:Y5}(hf:∀ρ c,f ρ≠ .exc c)(hg:∀ρ c,g ρ≠ .exc c)(ho:∀{a b:D} {c:Addr},o a b≠ .exc c):∀ρ c,ae f g o ρ≠ .exc c:=λρ c h=>by
 rw[Df]at h;cases q:f ρ with
 |exc e=>exact hf ρ e q
 |bad=>rw[q]at h;cases h
 |ok a=>
  rw[q,az]at h;cases q2:g ρ with
  |exc e=>exact hg ρ e q2
  |bad=>rw[q2]at h;cases h
  |ok b=>rw[q2,az]at h;exact ho h
def GH {i:Int}:∀(ρ:DS) (c:Addr),kI i ρ≠ .exc c:=λρ c h=>by cases h
def Bd {a b:D}:aW a b≠ .exc c:=by
 unfold aW Du;have h1:∀x y:D,yG x y≠ .exc c:=λx y h=>by
  unfold yG iI at h;split at h
  ·split at h <;> cases h
  ·cases h
 have h2:∀x y:D,yH x y≠ .exc c:=λx y h=>by
  unfold yH at h;split at h
  ·split at h <;> cases h
  ·cases h
 have h3:∀x y:D,l7 x y≠ .exc c:=λx y h=>by
  unfold l7 at h;split at h
  ·split at h <;> cases h
  ·cases h
 intro h;split at h
 ·split at h
  ·exact h3 _ _ h
  ·exact h2 _ _ h
 ·exact h1 _ _ h
def Ix:=And.intro @bJ (And.intro @uY (And.intro @yV (And.intro @Df (And.intro @Gb (And.intro @D2 (And.intro @kH (And.intro @BT (And.intro @BU (And.intro @BK (And.intro @BM (And.intro @az (And.intro @tE (And.intro @aL (And.intro @uX (And.intro @bf (And.intro @uZ (And.intro @tH (And.intro @yY (And.intro @yX (And.intro @xB (And.intro @v9 (And.intro @By (And.intro @Gg (And.intro @De (And.intro @Gf (And.intro @Gd (And.intro @D0 (And.intro @Ep (And.intro @D1 (And.intro @Gh (And.intro @En (And.intro @Bw (And.intro @D7 (And.intro @Ek (And.intro @D5 (And.intro @Bu (And.intro @BG (And.intro @BD (And.intro @BA (And.intro @Bz (And.intro @BR (And.intro @BC (And.intro @y9 (And.intro @Er (And.intro @Eb (And.intro @BH (And.intro @xz (And.intro @Ed (And.intro @D3 (And.intro @BS (And.intro @BJ (And.intro @Gi (And.intro @Em (And.intro @BQ (And.intro @v_ (And.intro @y_ (And.intro @wc (And.intro @tF (And.intro @tG (And.intro @Eo (And.intro @Ee (And.intro @Ef (And.intro @Eh (And.intro @Ei (And.intro @Ej (And.intro @rh (And.intro @D6 (And.intro @El (And.intro @Gc (And.intro @Ea (And.intro @yW (And.intro @D8 (And.intro @D_ (And.intro @D9 (And.intro @cQ (And.intro @yU (And.intro @oq @ll)))))))))))))))))))))))))))))))))))))))))))))))))))))))))))))))))))))))))))))
def aK:=And.intro Ix (And.intro @if_true.{1} (And.intro @if_false.{1} (And.intro @false_eq_true (And.intro @Bool.not_true (And.intro @Bool.not_false (And.intro @Bool.true_and (And.intro @Bool.false_and (And.intro @Bool.true_or (And.intro @Bool.false_or (And.intro @pC.eq_1 (And.intro @pN.eq_1 (And.intro @kI.eq_1 (And.intro @kB.eq_1 (And.intro @kN.eq_1 (And.intro @c1.eq_1 (And.intro @sL.eq_1 (And.intro @sT.eq_1 (And.intro @sR1.eq_1 (And.intro @sR2.eq_1 (And.intro @sE.eq_1 (And.intro @sZ.eq_1 (And.intro @oI.eq_1 (And.intro @oN.eq_1 (And.intro @tR.eq_1 (And.intro @nG.eq_1 (And.intro @yes.eq_1 (And.intro @bad1.eq_1 (And.intro @nxt.eq_1 (And.intro @length_map.{0,0} (And.intro @beq_self_eq_true.{0} @bne_self_eq_false.{0}))))))))))))))))))))))))))))))
section
variable{α:Type}{ρ ρ' ρ1:DS}{F R:Zl}{asg:Za}{d:D}
end
theorem nJ {n:Nat}{α:Type}{f:α→D}:∀(l:List α),(∀x∈l,bg n (f x)=true)→plL n (l.map f)=true
 | [],_=>by unfold plL;rfl
 |x::l,h=>by
  rw[map_cons];unfold plL;rw[h x (mem_cons_self ..),nJ l λy hy=>h y (dk hy)];rfl
def gl {n:Nat}{i:Int}:bg n (.int i)=true:=by unfold bg;rfl
def mw {n:Nat}{α:Type}{f:α→D}{l:List α}(h:∀x∈l,bg n (f x)=true):bg (n+1) (.lst (l.map f))=true:=by
 unfold bg;rw[show n+1-1=n from rfl,nJ l h,Zo (by omega)];rfl
def j5 {d:D}(h:bg 20 d=true):lX d d= .ok (.bl false):=by
 unfold lX;rw[Yo ⟨h,h⟩,tz h];rfl
section
variable{ρ:DS}{F:Zl}{fi fa f:Z7}{l row ds:Zy}{j m t n:Nat}{d:D}{N:List Str}
def bw {R:Zl}{x:Res D}(ρ':DS)(h:F ρ= .nx ρ')(hr:ee (R ρ')=x):ee (av F R ρ)=x:=by
 rw[bJ,h];exact hr
def mf {n:Nat}{α:Type}{f:α→D}{l:List α}(h:∀x∈l,bW n (f x)=true):bW (n+1) (.lst (l.map f))=true:=by
 unfold bW;rw[all_eq_true];intro d hd;obtain⟨x,hx,rfl⟩:=mem_map.mp hd;exact h x hx
end
end L2
namespace L2
open PySem PySem.Spec PyProof.Rows
def bV:D→List D
 |.lst l=>l
 |.tup l=>l
 |.dct _ l=>l
 |_=>[]
def fq:D→List D→D
 |.lst _,l=>.lst l
 |.tup _,l=>.tup l
 |.dct ks _,l=>.dct ks l
 |d,_=>d
def qv:HO→List V
 |.lst xs=>xs
 |.tup xs=>xs
 |.dT kvs=>kvs.map (·.2)
 |_=>[]
def b_:List Nat→D→Option D
 | [],d=>some d
 |m::p,d=>match (bV d)[m]? with|some c=>b_ p c|none=>none
def bZ:List Nat→D→D→D
 | [],_,e=>e
 |m::p,d,e=>match (bV d)[m]? with|some c=>fq d ((bV d).set m (bZ p c e))|none=>d
def valP (H:Hp):List Nat→V→V→Prop
 | [],v,u=>u=v
 |m::p,v,u=>∃a o w,v= .ref a∧H a=some o∧(qv o)[m]?=some w∧valP H p w u
theorem valP.mono {H H':Hp}(s:Same H H'):∀{p:Zz} {v u:V},valP H p v u→valP H' p v u
 | [],_,_,h=>h
 |_::_,_,_,⟨a,o,w,e,h,k,r⟩=>⟨a,o,w,e,s _ _ h,k,valP.mono s r⟩
theorem valP.one {H:Hp}:∀{p:Zz} {v u u':V},valP H p v u→valP H p v u'→u=u'
 | [],_,_,_,h,h'=>h.trans h'.symm
 |_::_,_,_,_,⟨a,o,w,e,h,k,r⟩,⟨a',o',w',e',h',k',r'⟩=>by
  subst e;cases e';rw[h]at h';cases h';rw[k]at k';cases k';exact valP.one r r'
theorem valP.snoc {H:Hp}{m:Nat}{o:HO}{w:V}(h:H a=some o)(k:(qv o)[m]?=some w):∀{p:Zz} {v:V},valP H p v (.ref a)→valP H (p ++ [m]) v w
 | [],_,e=>⟨a,o,w,e.symm,h,k,rfl⟩
 |_::_,_,⟨a',o',w',e',h',k',r⟩=>⟨a',o',w',e',h',k',valP.snoc h k r⟩
theorem ql {m:Nat}:∀{p:Zz} {d c:D},b_ p d=some c→b_ (p ++ [m]) d=(bV c)[m]?
 | [],d,c,h=>by
  cases h;show (match (bV d)[m]? with|some c=>b_ [] c|none=>none)=_
  cases (bV d)[m]? <;> rfl
 |i::p,d,c,h=>by
  show (match (bV d)[i]? with|some c=>b_ (p ++ [m]) c|none=>none)=_
  have h':(match (bV d)[i]? with|some c=>b_ p c|none=>none)=some c:=h
  cases q:(bV d)[i]? with
  |none=>rw[q]at h';cases h'
  |some e=>rw[q]at h';exact ql h'
def tI {d c:D}{m:Nat}(h:L2.flat d=true)(e:(bV d)[m]?=some c):L2.flat c=true:=by
 cases d with
 |lst l=>unfold L2.flat at h;cases h
 |dct ks l=>unfold L2.flat at h;cases h
 |tup l=>unfold L2.flat at h;exact jU h (mem_of_getElem? e)
 |_=>simp[bV]at e
theorem ot:∀{p:Zz} {d c:D},L2.flat d=true→b_ p d=some c→L2.flat c=true
 | [],d,c,h,e=>by cases e;exact h
 |m::p,d,c,h,e=>by
  have e':(match (bV d)[m]? with|some c=>b_ p c|none=>none)=some c:=e
  cases q:(bV d)[m]? with
  |none=>rw[q]at e';cases e'
  |some k=>rw[q]at e';exact ot (tI h q) e'
section
variable{K:Z8}{G H:Hp}
def Ow.kid {n m:Nat}{d c:D}{v:V}{S:Zt}(h:Ow K G H (n+1) d v S)(e:(bV d)[m]?=some c)(hc:L2.flat c=false) :
  ∃a o T,v= .ref a∧H a=some o∧S=a::T∧AllW (Ow K G H n) (bV d) (qv o) T∧∀(H':Hp) l' T',H' a=some o→T'≠[]→AllW (Ow K G H' n) l' (qv o) T'→Ow K G H' (n+1) (fq d l') v (a::T'):=by
 cases d with
 |lst l=>
  obtain⟨a,xs,T,e1,e2,e3,h1⟩:=h;exact⟨a,_,T,e1,e2,e3,h1,λH' l' T' h' _ o=>⟨a,xs,T',e1,h',rfl,o⟩⟩
 |dct ks l=>
  obtain⟨a,xs,T,e1,e2,e4,e3,h1⟩:=h;exact⟨a,_,T,e1,e2,e3,h1,λH' l' T' h' _ o=>⟨a,xs,T',e1,h',e4,rfl,o⟩⟩
 |tup l=>
  rcases h with h|⟨a,xs,T,e1,e2,e3,e5,h1⟩
  ·rw[tI h.1 e]at hc;cases hc
  ·exact⟨a,_,T,e1,e2,e3,h1,λH' l' T' h' n o=>.inr ⟨a,xs,T',e1,h',rfl,n,o⟩⟩
 |_=>simp[bV]at e
def oz {l:Zy}:L2.flat (.lst l)=false:=by unfold L2.flat;rfl
def ze {ks:List (List bL)}{l:Zy}:L2.flat (.dct ks l)=false:=by unfold L2.flat;rfl
theorem Ow.at:∀{p:Zz} {n:Nat} {d c:D} {v:V} {S:List Addr},Ow K G H (n+p.length) d v S→b_ p d=some c→L2.flat c=false→∃u A,valP H p v u∧Ow K G H n c u A
 | [],n,d,c,v,S,h,e,hc=>by cases e;exact⟨v,S,rfl,h⟩
 |m::p,n,d,c,v,S,h,e,hc=>by
  have e':(match (bV d)[m]? with|some c=>b_ p c|none=>none)=some c:=e
  cases q:(bV d)[m]? with
  |none=>rw[q]at e';cases e'
  |some k=>
   rw[q]at e';have hk:L2.flat k=false:=by
    cases z:L2.flat k with
    |false=>rfl
    |true=>rw[ot z e']at hc;cases hc
   obtain⟨a,o,T,e1,e2,e3,h1,_⟩:=Ow.kid (n:=n+p.length) h q hk;obtain⟨w,A,L,R,g1,g2,g3,g4⟩:=h1.at q;obtain⟨u,A',h2,h3⟩:=Ow.at g3 e' hc;exact⟨u,A',⟨a,o,w,e1,e2,g1,h2⟩,h3⟩
def lL {α:Type}{l:List α}{m:Nat}{x:α}(h:l[m]?=some x):l.set m x=l:=by
 apply ext_getElem?;intro k;by_cases hk:k=m
 ·subst hk;rw[getElem?_set_self (fR h).1,h]
 ·rw[getElem?_set_ne (Ne.symm hk)]
theorem Ow.path:∀{p:Zz} {n:Nat} {d:D} {row:Zy} {v:V} {S:List Addr},Ow K G H (n+1+p.length) d v S→b_ p d=some (.lst row)→S.Nodup→
  ∃b ys U L R,valP H p v (.ref b)∧H b=some (.lst ys)∧S=L ++ (b::U) ++ R∧AllW (Ow K G H n) row ys U∧
   (∀q t a,p=q ++ t→t≠[]→valP H q v (.ref a)→a≠b)∧
   ∀ys' row' U',AllW (Ow K G (bc H b (.lst ys')) n) row' ys' U'→Ow K G (bc H b (.lst ys')) (n+1+p.length) (bZ p d (.lst row')) v (L ++ (b::U') ++ R)
 | [],n,d,row,v,S,h,e,nd=>by
  cases e;obtain⟨a,xs,T,e1,e2,e3,h1⟩:=h;exact⟨a,xs,T,[],[],e1.symm,e2,by rw[e3];simp,h1,λq t a e hn=>absurd (List.append_eq_nil_iff.mp e.symm).2 hn,λys' row' U' o=>⟨a,ys',U',e1,au,by simp,o⟩⟩
 |m::p,n,d,row,v,S,h,e,nd=>by
  have e':(match (bV d)[m]? with|some c=>b_ p c|none=>none)=some (.lst row):=e
  cases q:(bV d)[m]? with
  |none=>rw[q]at e';cases e'
  |some k=>
   rw[q]at e';have hk:L2.flat k=false:=by
    cases z:L2.flat k with
    |false=>rfl
    |true=>have:=ot z e';rw[oz]at this;cases this
   obtain⟨a,o,T,e1,e2,e3,h1,back⟩:=Ow.kid (n:=n+1+p.length) h q hk;obtain⟨w,A,L,R,g1,g2,g3,g4⟩:=h1.at q;subst e3;obtain⟨haT,hT⟩:=nodup_cons.mp nd;rw[g2]at hT haT;obtain⟨h2,h3,h4⟩:=nodup_append.mp hT;obtain⟨h5,h6,h7⟩:=nodup_append.mp h2;obtain⟨b,ys,U,L2,R2,k1,k2,k3,k4,k6,k5⟩:=Ow.path g3 e' h6;have hbA:b∈A:=by rw[k3];exact mem_append_left _ (mem_append_right _ (mem_cons_self ..))
   have nb:∀c,c∈L∨c∈R→c≠b:=λc hc z=>by
    subst z
    rcases hc with y|y
    ·exact h7 c y c hbA rfl
    ·exact h4 c (mem_append_right _ hbA) c y rfl
   have hab:a≠b:=λz=>haT (z ▸ mem_append_left _ (mem_append_right _ hbA));refine⟨b,ys,U,a::(L ++ L2),R2 ++ R,⟨a,o,w,e1,e2,g1,k1⟩,k2,by rw[g2,k3];simp[append_assoc],k4,λq t x eq hn hx=>?_,λys' row' U' ou=>?_⟩
   ·cases q with
    |nil=>cases (show V.ref x=v from hx);cases e1;exact hab
    |cons i q=>
     cases eq;obtain⟨a2,o2,w2,z1,z2,z3,z4⟩:=hx;subst e1;cases z1;rw[e2]at z2;cases z2;rw[g1]at z3;cases z3;exact k6 q t x rfl hn z4
   have big:=g4 (Ow K G (bc H b (.lst ys')) (n+1+p.length)) (λd v C hC z=>z.mono (.refl _) λc hc u eu=>by rw[am (nb c (hC c hc))];exact eu) (bZ p k (.lst row')) w (L2 ++ (b::U') ++ R2) (k5 ys' row' U' ou);rw[lL g1]at big;have fin:=back (bc H b (.lst ys')) ((bV d).set m (bZ p k (.lst row'))) (L ++ (L2 ++ (b::U') ++ R2) ++ R) (by rw[am hab];exact e2) (by intro z;simp at z) big;have es:bZ (m::p) d (.lst row')=fq d ((bV d).set m (bZ p k (.lst row'))):=by
    show (match (bV d)[m]? with|some c=>fq d ((bV d).set m (bZ p c (.lst row')))|none=>d)=_
    rw[q]
   rw[es];have el:a::(L ++ L2) ++ (b::U') ++ (R2 ++ R)=a::(L ++ (L2 ++ (b::U') ++ R2) ++ R):=by simp[append_assoc]
   rw[el];exact fin
end
section
variable{K:Z8}{μ:Zz}{Ge B G H:Hp}{σ:St}{ρ:DS}{fp:Zh}{j n:Nat}
def Rw.path {p:Zz}{d:D}{row:Zy}(R:Rw K μ Ge B G H σ ρ fp)(hm:μ.getD j 0=n+1+p.length)(hr:ρ[j]?=some (some d))(hp:b_ p d=some (.lst row)) :
  ∃v b ys U,σ[j]?=some (some v)∧valP H p v (.ref b)∧H b=some (.lst ys)∧AllW (Ow K G H n) row ys U∧U.Nodup∧b∉U∧b∈fp j∧(∀c∈U,c∈fp j)∧(∀q t a,p=q ++ t→t≠[]→valP H q v (.ref a)→a≠b)∧
   ∀ys' row' U',AllW (Ow K G (bc H b (.lst ys')) n) row' ys' U'→U'.Nodup→(∀c∈U',c∈U∨((G c=none∧B c=none)∧∀i,c∉fp i))→∃fp',Rw K μ Ge B G (bc H b (.lst ys')) σ (ρ.set j (some (bZ p d (.lst row')))) fp':=by
 obtain⟨v,hv,o⟩:=R.sl j d hr;rw[hm]at o;obtain⟨b,ys,U,L,Q,h1,h2,h3,h4,h6,h5⟩:=o.path hp (R.nd j);have nd:=R.nd j;rw[h3]at nd;obtain⟨n1,n2,n3⟩:=nodup_append.mp nd;obtain⟨n4,n5,n6⟩:=nodup_append.mp n1;obtain⟨n7,n8⟩:=nodup_cons.mp n5;have sb:b∈fp j:=by rw[h3];exact mem_append_left _ (mem_append_right _ (mem_cons_self ..))
 have sU:∀c∈U,c∈fp j:=λc r=>by rw[h3];exact mem_append_left _ (mem_append_right _ (dk r))
 have sL:∀c∈L,c∈fp j:=λc r=>by rw[h3];exact mem_append_left _ (mem_append_left _ r)
 have sQ:∀c∈Q,c∈fp j:=λc r=>by rw[h3];exact mem_append_right _ r
 refine⟨v,b,ys,U,hv,h1,h2,h4,n8,n7,sb,sU,h6,λys' row' U' ou nU hU=>?_⟩;have ndm:(L ++ (b::U') ++ Q).Nodup:=ml nd (nodup_cons.mpr ⟨λz=>by
   rcases hU b z with y|y
   ·exact n7 y
   ·exact y.2 j sb,nU⟩) λc r=>by
  rcases mem_cons.mp r with z|z
  ·subst z;exact .inl (mem_cons_self ..)
  ·rcases hU c z with y|y
   ·exact .inl (dk y)
   ·exact .inr ⟨λx=>y.2 j (sL c x),λx=>y.2 j (sQ c x)⟩
 have old:∀c∈L ++ (b::U') ++ Q,c∈fp j∨((G c=none∧B c=none)∧∀i,c∉fp i):=λc r=>by
  rcases mem_append.mp r with z|z
  ·rcases mem_append.mp z with y|y
   ·exact .inl (sL c y)
   ·rcases mem_cons.mp y with x|x
    ·subst x;exact .inl sb
    ·exact(hU c x).imp (sU c) id
  ·exact .inl (sQ c z)
 refine⟨_,R.write (S:=L ++ (b::U') ++ Q) sb hv (by rw[hm];exact h5 ys' row' U' ou) ndm (λc r=>?_) λi hi c r hci=>?_⟩
 ·rcases old c r with y|y
  ·exact⟨R.gf j c y,R.ob j c y⟩
  ·exact y.1
 ·rcases old c r with y|y
  ·exact hi (R.dj i j c hci y)
  ·exact y.2 i hci
end
inductive tAt (K:Z8)(E:XK)(μ:Zz)(j:Nat)(g:Zi)(σ:St)(H:Hp)(Q:VK):Prop
 |mk (Ge B G:Hp) (ρ:DS) (fp:Zh) (R:Rw K μ Ge B G H σ ρ fp) (o:OkR E B (g ρ)) (k:∀p,g ρ= .ok p→∀v0 v G' H',σ[j]?=some (some v0)→valP H' p v0 v→Rw K μ Ge B G' H' σ ρ fp→Same G G'→Same H H'→Q v H')
def Bb (X:Cx)(E:XK)(μ:Zz)(j:Nat)(e:Y3)(g:Zi):Prop:=PE X e (tAt X.K E μ j g)
def sN (j:Nat):DS→Res (List Nat):=λρ=>match ρ[j]? with|some (some _)=>.ok []|_=>.bad
def FN (ρ:DS)(j:Nat)(p:Zz)(i:D):Res (List Nat):=match ρ[j]? with
 |some (some d)=>(match b_ p d with
  |some (.lst l)=>(match i with|.int k=>(match pH l.length k with|some m=>.ok (p ++ [m])|none=>.bad)|_=>.bad)
  |some (.tup l)=>if L2.flat (.tup l)=true then .bad else (match i with|.int k=>(match pH l.length k with|some m=>.ok (p ++ [m])|none=>.bad)|_=>.bad)
  |_=>.bad)
 |_=>.bad
def xi (j n:Nat)(g:Zi)(fi:Z7):DS→Res (List Nat):=λρ=>(g ρ).bind λp=>(fi ρ).bind λi=>if p.length=n then FN ρ j p i else .bad
section
variable{X:Cx}{E:XK}{μ:Zz}{r n j:Nat}
def nY (hN:X.N[j]?=some x)(hv:uJ X.env.scope x)(hd:zQ1 x:=by decide)(hcd:(x==("__classdict__" :Str))=false:=by decide):Bb X E μ j (.Name x px) (sN j):=by
 intro pins s σ H Q I hZ28;obtain⟨Ge,B,G,ρ,fp,R,ho,k⟩:=hZ28;have hs:∃d,ρ[j]?=some (some d):=by
  unfold sN at ho;split at ho
  ·rename_i d q;exact⟨d,q⟩
  ·exact ho.elim
 obtain⟨d,hd'⟩:=hs;obtain⟨v,hv',_⟩:=R.sl j d hd';exact en hN hv hd hcd pins s σ H Q I ⟨v,hv',k [] (by unfold sN;rw[hd']) v v G H hv' rfl R (.refl _) (.refl _)⟩
def Rw.node {K:Z8}{Ge B G H:Hp}{σ:St}{ρ:DS}{fp:Zh}{p:Zz}{d c:D}{m:Nat}(R:Rw K μ Ge B G H σ ρ fp)(hm:μ.getD j 0=m+p.length)(hr:ρ[j]?=some (some d))(hp:b_ p d=some c)(hc:L2.flat c=false){v0 v:V}(hv:σ[j]?=some (some v0))(h:valP H p v0 v):∃A,Ow K G H m c v A:=by
 obtain⟨w,hw,o⟩:=R.sl j d hr;rw[hv]at hw;cases hw;rw[hm]at o;obtain⟨u,A,h1,h2⟩:=o.at hp hc;cases valP.one h h1;exact⟨A,h2⟩
def FY {g:Zi}{fi:Z7}{m:Nat}(hm:μ.getD j 0=m+1+n)(ho:Bb X E μ j o g)(hi:PD X E i fi)(hpi:qV i:=by intro _ _;rfl):Bb X E μ j (.Subscript o i pos) (xi j n g fi):=by
 intro pins s σ H Q I hZ29;obtain⟨Ge,B,G,ρ,fp,R,hok,k⟩:=hZ29;refine Dv (IxR.or ix_list ix_tup) ho (dM hi) hpi pins s σ H Q I ?_;refine⟨Ge,B,G,ρ,fp,R,hok.fst,λp ep v0 v G1 H1 hv M R1 sg sh=>⟨nQ fp G1 H1,ρ,R1.vh,R1.ro,(hok.snd ep (Same.refl B)).fst.le R1.bh,λdi ei vi G3 H3 x3 ri=>?_⟩⟩;have J:=(hok.snd ep (Same.refl B)).snd ei (Same.refl B);by_cases hn:p.length=n
 ·subst hn;rw[Yo rfl]at J;have e0:xi j p.length g fi ρ=FN ρ j p di:=by unfold xi;rw[ep,az,ei,az,Yo rfl]
  unfold FN at J;cases hr:ρ[j]? with
  |none=>rw[hr]at J;exact J.elim
  |some od=>
  cases od with
  |none=>rw[hr]at J;exact J.elim
  |some d=>
  rw[hr]at J;dsimp only at J;have fin:∀{l:Zy} {F:Zu} {a:Z2} {ob:HO} {k0:Int} {N:Nat} {w:V},v= .ref a→H1 a=some ob→qv ob=F→F[N]?=some w→FN ρ j p di= .ok (p ++ [N])→Q w H3:=λ{l F a ob k0 N w} ev eo ek ew ei'=>by
   subst ev ek;exact k (p ++ [N]) (e0.trans ei') v0 w (oB (pF fp) G3) H3 hv ((M.mono x3.hh).snoc (x3.hh _ _ eo) ew) (R1.grow x3) (sg.trans (R1.gg x3)) (sh.trans x3.hh)
  cases hp:b_ p d with
  |none=>rw[hp]at J;exact J.elim
  |some c=>
  rw[hp]at J;cases c with
  |lst l=>
   dsimp only at J;cases di with
   |int k0=>
    dsimp only at J;cases q:pH l.length k0 with
    |none=>rw[q]at J;exact J.elim
    |some N=>
     rw[rep_int]at ri;subst ri;obtain⟨A,a,F,T,e1,e2,e3,h1⟩:=R1.node (m:=m+1) hm hr hp oz hv M;have Y:N<F.length:=by rw[←h1.length];exact(iJ q).2.1
     refine .inl ⟨a,F,k0,F[N],e1,rfl,.inl (.inl (x3.hh _ _ e2)),by unfold L2.atI;rw[←h1.length,q];exact gd Y,fin (l:=l) (k0:=k0) e1 e2 rfl (gd Y) ?_⟩;unfold FN;rw[hr];dsimp only;rw[hp];dsimp only;rw[q]
   |_=>exact J.elim
  |tup l=>
   dsimp only at J;by_cases hf:L2.flat (.tup l)=true
   ·rw[Yo hf]at J;exact J.elim
   ·rw[Ym hf]at J;have hf':=Bool.eq_false_iff.mpr hf;cases di with
    |int k0=>
     dsimp only at J;cases q:pH l.length k0 with
     |none=>rw[q]at J;exact J.elim
     |some N=>
      rw[rep_int]at ri;subst ri;obtain⟨A,ow⟩:=R1.node (m:=m+1) hm hr hp hf' hv M
      rcases ow with ow|⟨a,F,T,e1,e2,e3,e5,h1⟩
      ·exact absurd ow.1 hf
      ·have Y:N<F.length:=by rw[←h1.length];exact(iJ q).2.1
       refine .inr ⟨a,F,k0,F[N],e1,rfl,.inl (.inl (x3.hh _ _ e2)),by unfold L2.atI;rw[←h1.length,q];exact gd Y,fin (l:=l) (k0:=k0) e1 e2 rfl (gd Y) ?_⟩;unfold FN;rw[hr];dsimp only;rw[hp];dsimp only;rw[Ym hf,q]
    |_=>exact J.elim
  |_=>exact J.elim
 ·rw[Ym hn]at J;exact J.elim
def lD (ρ:DS)(j n:Nat)(p:Zz)(f:List D→Out):Out:=if p.length=n then (match ρ[j]? with
 |some (some t)=>(match b_ p t with|some (.lst row)=>f row|_=>.bad)
 |_=>.bad) else .bad
def yI (ρ:DS)(j:Nat)(p:Zz)(row:Zy)(d:D):Out:=match ρ[j]? with
 |some (some t)=>if aQ row.length=true then .nx (ρ.set j (some (bZ p t (.lst (row ++ [d]))))) else .bad
 |_=>.bad
def qW (j n:Nat)(g:Zi)(f:Z7):DS→Out:=λρ=>(g ρ).out λp=>(f ρ).out λd=>lD ρ j n p λrow=>yI ρ j p row d
def nK {ρ:DS}{n:Nat}{p:Zz}{f:List D→Out}{B:Hp}(h:OkO E B (lD ρ j n p f)):p.length=n∧∃t row,ρ[j]?=some (some t)∧b_ p t=some (.lst row)∧lD ρ j n p f=f row:=by
 unfold lD at h;by_cases hn:p.length=n
 ·rw[Yo hn]at h;refine⟨hn,?_⟩;cases hr:ρ[j]? with
  |none=>rw[hr]at h;exact h.elim
  |some od=>
  cases od with
  |none=>rw[hr]at h;exact h.elim
  |some t=>
  rw[hr]at h;dsimp only at h;cases hp:b_ p t with
  |none=>rw[hp]at h;exact h.elim
  |some c=>
  rw[hp]at h;cases c with
  |lst row=>exact⟨t,row,rfl,hp,by unfold lD;rw[Yo hn,hr];dsimp only;rw[hp]⟩
  |_=>exact h.elim
 ·rw[Ym hn]at h;exact h.elim
def wQ {apos cpos pos:Ys}{g:Zi}{f:Z7}{m:Nat}(hm:μ.getD j 0=m+1+n)(hpa:Bb X E μ j o g)(h:PZ X E μ m e f)(hex:∀ρ c,f ρ≠ .exc c)(hs:zQ2 X e []:=by rfl)(hbase:attributeBase o "append" X.env (eval o X.env)=eval o X.env:=by rfl)(hfew:((backTo cpos (starEach [e] X.env)).all (λx=> !x.1)&&(backToKw cpos (keywordEach [] X.env)).all (λx=>x.1.isSome)&&decide (([e].length+([]:List Keyword).length+if ([]:List Keyword).isEmpty=true then 0 else 1)<30))=true:=by rfl)(hline:(apos.endLine==cpos.line)=true:=by rfl)(hsw:swapsWith (.Call (.Attribute o "append" apos) [e] [] cpos) none pos.line X.env=pure false:=by rfl) :
  lV X E μ r (.Expr (.Call (.Attribute o "append" apos) [e] [] cpos) pos) (qW j n g f):=by
 intro pins s σ Ge B G H ρ fp I R ho;have hp:=mZ (apos:=apos) (cpos:=cpos) (r:=dP) PySem.F.plainAttrs_list PySem.F.slot_list_append PySem.F.type_list_append (show xg X "list.append" dP from hG) hpa (bQ (sj h) df hs) hbase hfew hline hs rfl;refine aV (fK hp hsw pins s σ H {nx:=λσ' H'=>∃V G' T,qW j n g f ρ= .nx V∧σ'=σ∧Rw X.K μ Ge B G' H' σ V T∧Same G G',bk:=λ_ _=>False,ct:=λ_ _=>False,rt:=λ_ _=>False} I ⟨Ge,B,G,ρ,fp,R,ho.res,λp ep v0 v G1 H1 hv hval R1 sg sh=>?_⟩) λfl s1 C=>?_
 ·have k:=ho.res2 ep (Same.refl B);have hfd:∃d,f ρ= .ok d:=by
   cases q:f ρ with
   |ok d=>exact⟨d,rfl⟩
   |exc c=>exact absurd q (hex ρ c)
   |bad=>rw[q]at k;exact k.elim
  obtain⟨d0,Q⟩:=hfd;have kk:=k.res2 Q (Same.refl B);have e0:qW j n g f ρ=lD ρ j n p λP=>yI ρ j p P d0:=by unfold qW;rw[bY ep,bY Q]
  obtain⟨hn,t,P,hr,hg,e1⟩:=nK kk;rw[e1]at kk;subst hn;have e2:yI ρ j p P d0=if aQ P.length=true then .nx (ρ.set j (some (bZ p t (.lst (P ++ [d0]))))) else .bad:=by unfold yI;rw[hr]
  rw[e2]at kk;by_cases hc:aQ P.length=true
  ·have e3:=(e0.trans e1).trans (e2.trans (Yo hc));obtain⟨v1,b,ys,U,c0,c1,c2,c3,c4,c5,c6,c7,c8,c9⟩:=R1.path hm hr hg;rw[hv]at c0;cases c0;have:=hval.one c1;subst this;refine⟨.inl ⟨rfl,ys,.inl (.inl c2)⟩,?_⟩;refine⟨Ge,B,G1,ρ,fp,R1,by rw[Q];trivial,λd ed v G2 H2 S R2 sg2 sh2 o w=>?_⟩;rw[Q]at ed;cases ed;refine⟨b,ys,v,rfl,rfl,sh2 _ _ c2,by rw[←c3.length];exact gZ hc,?_⟩;obtain⟨v1,b2,ys2,U2,p0,p1,p2,p3,p4,p5,p6,p7,p8,p9⟩:=R2.path hm hr hg;rw[hv]at p0;cases p0;have:=(c1.mono sh2).one p1;cases this;rw[sh2 _ _ c2]at p2;cases p2;have fr:=R2.freshOf w R1;have neU:∀c,c∈U2→c≠b:=λc O z=>p5 (z ▸ O);have neS:∀c,c∈S→c≠b:=λc O z=>(fr c O).2 j (z ▸ p6);obtain⟨T,R3⟩:=p9 (ys ++ [v]) (P ++ [d0]) (U2 ++ S) (.append (p3.mono λd v A _ hA z=>z.mono (.refl _) λc O u e=>by rw[am (neU c (hA c O))];exact e) (.one (o.mono (.refl _) λc O u e=>by rw[am (neS c O)];exact e))) (nodup_append.mpr ⟨p4,w.1,λc O c2 hc2 e=>by subst e;exact(fr c hc2).2 j (p7 c O)⟩) (λc O=>(mem_append.mp O).imp id (fr c));exact⟨_,_,T,e3,rfl,R3,sg.trans sg2⟩
  ·rw[Ym hc]at kk;exact kk.elim
 ·cases fl with
  |next=>
   obtain⟨σ',H',I',V,G',T,e1,e2,R',sg⟩:=C;subst e2;exact⟨V,_,G',H',T,e1,I',R',sg⟩
  |brk=>obtain⟨_,_,_,C⟩:=C;exact C.elim
  |cont=>obtain⟨_,_,_,C⟩:=C;exact C.elim
  |ret u=>obtain⟨_,_,_,_,_,C⟩:=C;exact C.elim
end
def xK {m:Nat}{p:Zz}{d c:D}(h:(bV d)[m]?=some c):b_ (m::p) d=b_ p c:=by
 show (match (bV d)[m]? with|some c=>b_ p c|none=>none)=_
 rw[h]
def dn {m:Nat}{p:Zz}{d c e:D}(h:(bV d)[m]?=some c):bZ (m::p) d e=fq d ((bV d).set m (bZ p c e)):=by
 show (match (bV d)[m]? with|some c=>fq d ((bV d).set m (bZ p c e))|none=>d)=_
 rw[h]
def lq {m:Nat}{p:Zz}{d c:D}(h:b_ (m::p) d=some c):∃k,(bV d)[m]?=some k∧b_ p k=some c:=by
 have h':(match (bV d)[m]? with|some c=>b_ p c|none=>none)=some c:=h
 cases q:(bV d)[m]? with
 |none=>rw[q]at h';cases h'
 |some k=>rw[q]at h';exact⟨k,rfl,h'⟩
def rQ {d:D}{l:Zy}{m:Nat}{c:D}(h:(bV d)[m]?=some c):bV (fq d l)=l:=by
 cases d with
 |lst _=>rfl
 |tup _=>rfl
 |dct _ _=>rfl
 |_=>simp[bV]at h
def G7 {d:D}{l l':Zy}:fq (fq d l) l'=fq d l':=by
 cases d <;> rfl
def CN {d:D}:fq d (bV d)=d:=by
 cases d <;> rfl
theorem qI:∀{p:Zz} {d c:D},b_ p d=some c→bZ p d c=d
 | [],d,c,h=>by cases h;rfl
 |m::p,d,c,h=>by
  obtain⟨k,h1,h2⟩:=lq h;rw[dn h1,qI h2,lL h1,CN]
theorem qk {e:D}:∀{p:Zz} {d c:D},b_ p d=some c→b_ p (bZ p d e)=some e
 | [],_,_,_=>rfl
 |m::p,d,c,h=>by
  obtain⟨k,h1,h2⟩:=lq h;have hlt:=(fR h1).1;have h3:(bV (fq d ((bV d).set m (bZ p k e))))[m]?=some (bZ p k e):=by rw[rQ h1,getElem?_set_self hlt]
  rw[dn h1,xK h3];exact qk h2
theorem qJ {e e':D}:∀{p:Zz} {d c:D},b_ p d=some c→bZ p (bZ p d e) e'=bZ p d e'
 | [],_,_,_=>rfl
 |m::p,d,c,h=>by
  obtain⟨k,h1,h2⟩:=lq h;have hlt:=(fR h1).1;have h3:(bV (fq d ((bV d).set m (bZ p k e))))[m]?=some (bZ p k e):=by rw[rQ h1,getElem?_set_self hlt]
  rw[dn h1,dn h3,rQ h1,G7,qJ h2,dn h1,set_set]
theorem qK {e:D}{i:Nat}{k:D}:∀{p:Zz} {d c:D},b_ p d=some c→(bV c)[i]?=some k→bZ (p ++ [i]) d e=bZ p d (fq c ((bV c).set i e))
 | [],d,c,h,h'=>by cases h;exact dn h'
 |m::p,d,c,h,h'=>by
  obtain⟨q,h1,h2⟩:=lq h;show bZ (m::(p ++ [i])) d e=_;rw[dn h1,dn h1,qK h2 h']
def js (c:Int):D→D
 |.lst r=>.lst (r ++ [.int c])
 |d=>d
def qo:D→Bool
 |.lst r=>aQ r.length
 |_=>false
def gR (c:Int)(i:Nat)(rows:Zy):List D:=(rows.take i).map (js c) ++ rows.drop i
def yw {c:Int}{rows:Zy}:gR c 0 rows=rows:=rfl
def AX {c:Int}{rows:Zy}:gR c rows.length rows=rows.map (js c):=by unfold gR;rw[take_length,List.drop_length,append_nil]
def C7 {c:Int}{rows:Zy}{i:Nat}(h:i<rows.length):(gR c i rows)[i]?=rows[i]?:=by
 unfold gR;rw[getElem?_append_right (by simp;omega)];simp[Nat.min_eq_left (le_of_lt h)]
def yu {c:Int}{rows:Zy}{i:Nat}{d:D}(h:rows[i]?=some d):(gR c i rows).set i (js c d)=gR c (i+1) rows:=by
 have hlt:=(fR h).1;have hd:rows[i]=d:=(fR h).2;unfold gR;have e1:((rows.take i).map (js c)).length=i:=by simp;omega
 rw[List.set_append_right _ _ (by omega),e1,sub_self,List.drop_eq_getElem_cons hlt,List.set_cons_zero,List.take_succ_eq_append_getElem hlt,map_append,append_assoc,hd];rfl
theorem EZ {K:Z8}{G H:Hp}{c:Int}:∀{n:Nat},Ow K G H n (.int c) (.int c) []
 |0=>⟨rfl,rep_int.mpr rfl⟩
 |_+1=>⟨by unfold L2.flat;rfl,rfl,rep_int.mpr rfl⟩
def zg (ρ:DS)(j jr:Nat)(c:Int)(p:Zz)(rows:Zy):Out:=match ρ[j]? with
 |some (some t)=>if rows.all qo=true then .nx ((ρ.set jr none).set j (some (bZ p t (.lst (rows.map (js c)))))) else .bad
 |_=>.bad
def jv (j jr n:Nat)(c:Int)(g:Zi):DS→Out:=λρ=>(g ρ).out λp=>lD ρ j n p λrows=>zg ρ j jr c p rows
section
variable{X:Cx}{E:XK}{μ:Zz}{r n j:Nat}
def yc {jr kk m:Nat}{c:Int}{p1 p2 p3 apos cpos pos' pos:Ys}{g:Zi}(hp:PassesOwn (model X.prog X.w) X.A X.env X.xe)(hc:X.calm=true)(hm:μ.getD j 0=m+1+(n+1))(hjr:jr≠j)(hNd:X.N.Nodup)(hN:X.N[jr]?=some x)(hx:sP X.env.scope x)(hv:uJ X.env.scope x)(hpa:Bb X E μ j o g)(hd:zQ1 x:=by decide) (hcd:(x==("__classdict__" :Str))=false:=by decide)(hf:X.fn x=true∨X.env.scope.names.lookup x=some .local:=by first|exact .inl rfl|exact .inr rfl)(hs:starEach [.Constant (.int c) kk p3] X.env=(false,eval (.Constant (.int c) kk p3) X.env)::starEach [] X.env:=by rfl)(hbase:attributeBase (.Name x p2) "append" X.env (eval (.Name x p2) X.env)=eval (.Name x p2) X.env:=by rfl)(hfew:((backTo cpos (starEach [.Constant (.int c) kk p3] X.env)).all (λx=> !x.1)&&(backToKw cpos (keywordEach [] X.env)).all (λx=>x.1.isSome)&&decide (([(.Constant (.int c) kk p3:Expr)].length+([]:List Keyword).length+if ([]:List Keyword).isEmpty=true then 0 else 1)<30))=true:=by rfl)(hline:(apos.endLine==cpos.line)=true:=by rfl)(hsw:swapsWith (.Call (.Attribute (.Name x p2) "append" apos) [.Constant (.int c) kk p3] [] cpos) none pos'.line X.env=pure false:=by rfl)(hfi:∀x,foldedSetIterable o X.env x=pure x:=by intro _;rfl) :
  lV X E μ r (.For (.Name x p1) o [.Expr (.Call (.Attribute (.Name x p2) "append" apos) [.Constant (.int c) kk p3] [] cpos) pos'] [] pos) (jv j jr n c g):=by
 intro pins s σ Ge B G H f fp I R ho;have hjσ:jr<σ.length:=by rw[I.len];exact(fR hN).1
 have hb:=mZ (apos:=apos) (cpos:=cpos) (r:=dP) PySem.F.plainAttrs_list PySem.F.slot_list_append PySem.F.type_list_append (show xg X "list.append" dP from hG) (en (pos:=p2) hN hv hd hcd) (bQ (zZ (i:=c) (j:=kk) (pos:=p3)) df hs) hbase hfew hline hs rfl;refine aV (Fp (pos:=pos) hp hc (sm hpa) (eG (pos:=p1) hNd hN hx hf) (wW (fK (pos:=pos') hb hsw)) hfi pins s σ H {nx:=λC L=>∃l G' W,jv j jr n c g f= .nx l∧Rw X.K μ Ge B G' L C l W∧Same G G',bk:=λ_ _=>False,ct:=λ_ _=>False,rt:=λ_ _=>False} I ⟨Ge,B,G,f,fp,R,ho.res,λp ep v0 v G1 H1 hv0 hval R1 sg sh=>?_⟩) λfl s1 J=>?_
 ·have k:=ho.res2 ep (Same.refl B);have e0:jv j jr n c g f=lD f j n p λS=>zg f j jr c p S:=by unfold jv;rw[bY ep]
  obtain⟨hn,t,S,hr,hg,e1⟩:=nK k;rw[e1]at k;subst hn;have e2:zg f j jr c p S=if S.all qo=true then .nx ((f.set jr none).set j (some (bZ p t (.lst (S.map (js c)))))) else .bad:=by unfold zg;rw[hr]
  rw[e2]at k;by_cases Z:S.all qo=true
  ·have e3:=(e0.trans e1).trans (e2.trans (Yo Z));obtain⟨A,a,xs,T,f1,f2,f3,f4⟩:=R1.node (m:=m+2) (by rw[hm];omega) hr hg oz hv0 hval;subst f1;have hjl:j<f.length:=(fR hr).1;have hlen:=f4.length;refine⟨a,rfl,⟨xs,.inl (.inl f2)⟩,zh (xs:=xs) (λi C L=>L a=some (.lst xs)∧C[j]?=some (some v0)∧C.length=σ.length∧valP L p v0 (.ref a)∧∃W,Rw X.K μ Ge B G1 L C ((f.set jr none).set j (some (bZ p t (.lst (gR c i S))))) W) ?_ ?_ ?_ ?_⟩
   ·refine⟨f2,hv0,rfl,hval,λi=>if i=jr then [] else fp i,?_⟩
    rw[yw,qI hg];have er:(f.set jr none).set j (some t)=f.set jr none:=lL (by rw[getElem?_set_ne hjr];exact hr);rw[er];exact R1.drop
   ·intro i C L _ hZ30;obtain⟨z,_⟩:=hZ30;exact .inl (.inl z)
   ·intro i y C L hy hZ31;obtain⟨z1,z2,z3,z4,W,R2⟩:=hZ31;have hi:i<S.length:=by rw[hlen];exact(fR hy).1
    have M:qo S[i]=true:=all_eq_true.mp Z _ (getElem_mem hi);have hrx:∃Y,S[i]= .lst Y∧aQ Y.length=true:=by
     unfold qo at M;split at M
     ·rename_i Y q;exact⟨Y,q,M⟩
     ·cases M
    obtain⟨Y,eri,hlk⟩:=hrx;have hri':S[i]?=some (.lst Y):=by rw[gd hi,eri]
    have hr2:((f.set jr none).set j (some (bZ p t (.lst (gR c i S)))))[j]?=some (some (bZ p t (.lst (gR c i S)))):=getElem?_set_self (by rw[length_set];exact hjl);have hg1:=qk (e:=.lst (gR c i S)) hg;have hk1:(bV (D.lst (gR c i S)))[i]?=some (.lst Y):=(C7 hi).trans hri';have hg2:b_ (p ++ [i]) (bZ p t (.lst (gR c i S)))=some (.lst Y):=(ql hg1).trans hk1;obtain⟨v1,b,ys,U,c0,c1,c2,c3,c4,c5,c6,c7,c8,c9⟩:=R2.path (n:=m) (p:=p ++ [i]) (by rw[hm];simp) hr2 hg2;rw[z2]at c0;cases c0;have ey:=(valP.snoc z1 (show (qv (HO.lst xs))[i]?=some y from hy) z4).one c1;subst ey;have hab:=c8 p [i] a rfl (by intro z;cases z) z4;have neU:∀d,d∈U→d≠b:=λd hd z=>c5 (z ▸ hd);obtain⟨fp3,R3⟩:=c9 (ys ++ [.int c]) (Y ++ [.int c]) (U ++ []) (.append (c3.mono λd v A _ hA z=>z.mono (.refl _) λe he u eu=>by rw[am (neU e (hA e he))];exact eu) (.one EZ)) (by rw[append_nil];exact c4) (λd hd=>.inl (by rw[append_nil]at hd;exact hd));have hv1:valP (bc L b (.lst (ys ++ [.int c]))) p v0 (.ref a):=by
     have go:∀{q:Zz} {w:V},valP L q w (.ref a)→(∀q1 t1 a1,q=q1 ++ t1→valP L q1 w (.ref a1)→a1≠b)→valP (bc L b (.lst (ys ++ [.int c]))) q w (.ref a):=by
      intro q
      induction q with
      |nil=>intro w h _;exact h
      |cons i0 q ih=>
       intro w h hb';obtain⟨a1,o1,w1,y1,y2,y3,y4⟩:=h;refine⟨a1,o1,w1,y1,by rw[am (hb' [] (i0::q) a1 rfl y1.symm)];exact y2,y3,ih y4 λq1 t1 a2 eq h2=>hb' (i0::q1) t1 a2 (by rw[eq];rfl) ⟨a1,o1,w1,y1,y2,y3,h2⟩⟩
     exact go z4 λq1 t1 a1 eq h1=>c8 q1 (t1 ++ [i]) a1 (by rw[eq,append_assoc]) (by simp) h1
    refine⟨.ref b,getElem?_set_self (by rw[z3];exact hjσ),.inl ⟨rfl,ys,.inl (.inl c2)⟩,b,ys,.int c,rfl,rfl,c2,by rw[←c3.length];exact gZ hlk,?_⟩;refine⟨by rw[am hab];exact z1,by rw[getElem?_set_ne hjr];exact z2,by rw[length_set];exact z3,hv1,λi=>if i=jr then [] else fp3 i,?_⟩
    have R4:=R3.forget (i:=jr) (o:=some (.ref b));have eρ:((((f.set jr none).set j (some (bZ p t (.lst (gR c i S))))).set j (some (bZ (p ++ [i]) (bZ p t (.lst (gR c i S))) (.lst (Y ++ [.int c]))))).set jr none)=(f.set jr none).set j (some (bZ p t (.lst (gR c (i+1) S)))):=by
     rw[qK hg1 hk1,qJ hg,set_set,List.set_comm _ _ (Ne.symm hjr),set_set];have:fq (D.lst (gR c i S)) ((bV (D.lst (gR c i S))).set i (.lst (Y ++ [.int c])))= .lst (gR c (i+1) S):=by
      show D.lst ((gR c i S).set i (.lst (Y ++ [.int c])))=_;rw[←yu hri'];rfl
     rw[this]
    rw[eρ]at R4;exact R4
   ·intro C L hZ32;obtain⟨z1,z2,z3,z4,W,R2⟩:=hZ32;rw[←hlen,AX]at R2;exact⟨_,G1,W,e3,R2,sg⟩
  ·rw[Ym Z]at k;exact k.elim
 ·cases fl with
  |next=>
   obtain⟨C,L,I',l,G',W,e1,R',sg⟩:=J;exact⟨l,_,G',L,W,e1,I',R',sg⟩
  |brk=>obtain⟨_,_,_,J⟩:=J;exact J.elim
  |cont=>obtain⟨_,_,_,J⟩:=J;exact J.elim
  |ret u=>obtain⟨_,_,_,_,_,J⟩:=J;exact J.elim
def Ax (ρ:DS)(j:Nat)(p:Zz)(row:Zy):Out:=match ρ[j]? with
 |some (some t)=>.nx (ρ.set j (some (bZ p t (.lst row.reverse))))
 |_=>.bad
def vA (j n:Nat)(g:Zi):DS→Out:=λρ=>(g ρ).out λp=>lD ρ j n p λrow=>Ax ρ j p row
def CA {apos cpos pos:Ys}{g:Zi}(hm:μ.getD j 0=0+1+n)(hpa:Bb X E μ j o g)(hbase:attributeBase o "reverse" X.env (eval o X.env)=eval o X.env:=by rfl) (hline:(apos.endLine==cpos.line)=true:=by rfl)(hsw:swapsWith (.Call (.Attribute o "reverse" apos) [] [] cpos) none pos.line X.env=pure false:=by rfl) :
  lV X E μ r (.Expr (.Call (.Attribute o "reverse" apos) [] [] cpos) pos) (vA j n g):=by
 intro pins s σ Ge B G H ρ fp I R ho;have hp:=E7 (apos:=apos) (cpos:=cpos) (r:=pc) PySem.F.plainAttrs_list PySem.F.slot_list_reverse PySem.F.type_list_reverse (show xg X "list.reverse" pc from vj) hpa hbase hline;refine aV (fK hp hsw pins s σ H {nx:=λσ' H'=>∃T G' S,vA j n g ρ= .nx T∧σ'=σ∧Rw X.K μ Ge B G' H' σ T S∧Same G G',bk:=λ_ _=>False,ct:=λ_ _=>False,rt:=λ_ _=>False} I ⟨Ge,B,G,ρ,fp,R,ho.res,λp ep v0 v G1 H1 hv hval R1 sg sh=>?_⟩) λfl s1 C=>?_
 ·have k:=ho.res2 ep (Same.refl B);have e0:vA j n g ρ=lD ρ j n p λP=>Ax ρ j p P:=by unfold vA;rw[bY ep]
  obtain⟨hn,t,P,hr,hg,e1⟩:=nK k;subst hn;have e2:Ax ρ j p P= .nx (ρ.set j (some (bZ p t (.lst P.reverse)))):=by unfold Ax;rw[hr]
  obtain⟨v1,b,ys,U,c0,c1,c2,c3,c4,c5,c6,c7,c8,c9⟩:=R1.path hm hr hg;rw[hv]at c0;cases c0;have:=hval.one c1;subst this;obtain⟨eU,rl⟩:=c3.zero;obtain⟨S,R3⟩:=c9 ys.reverse P.reverse [] (.of0 rl.reverse) nodup_nil (λc h=>by cases h);exact⟨.inl ⟨rfl,ys,.inl (.inl c2)⟩,b,ys,rfl,rfl,c2,_,_,S,(e0.trans e1).trans e2,rfl,R3,sg⟩
 ·cases fl with
  |next=>
   obtain⟨σ',H',I',T,G',S,e1,e2,R',sg⟩:=C;subst e2;exact⟨T,_,G',H',S,e1,I',R',sg⟩
  |brk=>obtain⟨_,_,_,C⟩:=C;exact C.elim
  |cont=>obtain⟨_,_,_,C⟩:=C;exact C.elim
  |ret u=>obtain⟨_,_,_,_,_,C⟩:=C;exact C.elim
def xE (ρ:DS)(j:Nat)(p:Zz)(row:Zy)(d:D):Out:=match ρ[j]?,d with
 |some (some t),.lst l=>if aQ (row.length+l.length)=true then .nx (ρ.set j (some (bZ p t (.lst (row ++ l))))) else .bad
 |_,_=>.bad
def rq (j n:Nat)(g:Zi)(f:Z7):DS→Out:=λρ=>(g ρ).out λp=>(f ρ).out λd=>lD ρ j n p λrow=>xE ρ j p row d
def Cz {apos cpos pos:Ys}{g:Zi}{f:Z7}(hm:μ.getD j 0=0+1+n)(hpa:Bb X E μ j o g)(h:PZ X E μ 0 e f)(hex:∀ρ c,f ρ≠ .exc c)(hs:zQ2 X e []:=by rfl)(hbase:attributeBase o "extend" X.env (eval o X.env)=eval o X.env:=by rfl)(hfew:((backTo cpos (starEach [e] X.env)).all (λx=> !x.1)&&(backToKw cpos (keywordEach [] X.env)).all (λx=>x.1.isSome)&&decide (([e].length+([]:List Keyword).length+if ([]:List Keyword).isEmpty=true then 0 else 1)<30))=true:=by rfl)(hline:(apos.endLine==cpos.line)=true:=by rfl)(hsw:swapsWith (.Call (.Attribute o "extend" apos) [e] [] cpos) none pos.line X.env=pure false:=by rfl) :
  lV X E μ r (.Expr (.Call (.Attribute o "extend" apos) [e] [] cpos) pos) (rq j n g f):=by
 intro pins s σ Ge B G H ρ fp I R ho;have hp:=mZ (apos:=apos) (cpos:=cpos) (r:=sx) PySem.F.plainAttrs_list PySem.F.slot_list_extend PySem.F.type_list_extend (show xg X "list.extend" sx from xX) hpa (bQ (sj h) df hs) hbase hfew hline hs rfl;refine aV (fK hp hsw pins s σ H {nx:=λσ' H'=>∃V G' T,rq j n g f ρ= .nx V∧σ'=σ∧Rw X.K μ Ge B G' H' σ V T∧Same G G',bk:=λ_ _=>False,ct:=λ_ _=>False,rt:=λ_ _=>False} I ⟨Ge,B,G,ρ,fp,R,ho.res,λp ep v0 v G1 H1 hv hval R1 sg sh=>?_⟩) λfl s1 C=>?_
 ·have k:=ho.res2 ep (Same.refl B);have hfd:∃d,f ρ= .ok d:=by
   cases q:f ρ with
   |ok d=>exact⟨d,rfl⟩
   |exc c=>exact absurd q (hex ρ c)
   |bad=>rw[q]at k;exact k.elim
  obtain⟨d0,Q⟩:=hfd;have kk:=k.res2 Q (Same.refl B);have e0:rq j n g f ρ=lD ρ j n p λP=>xE ρ j p P d0:=by unfold rq;rw[bY ep,bY Q]
  obtain⟨hn,t,P,hr,hg,e1⟩:=nK kk;rw[e1]at kk;subst hn;unfold xE at kk;rw[hr]at kk;cases d0 with
  |lst l=>
   dsimp only at kk;by_cases hc:aQ (P.length+l.length)=true
   ·have e2:xE ρ j p P (.lst l)= .nx (ρ.set j (some (bZ p t (.lst (P ++ l))))):=by unfold xE;rw[hr];exact Yo hc
    obtain⟨v1,b,ys,U,c0,c1,c2,c3,c4,c5,c6,c7,c8,c9⟩:=R1.path hm hr hg;rw[hv]at c0;cases c0;have:=hval.one c1;subst this;refine⟨.inl ⟨rfl,ys,.inl (.inl c2)⟩,Ge,B,G1,ρ,fp,R1,by rw[Q];trivial,λd ed v G2 H2 S R2 sg2 sh2 o w=>?_⟩;rw[Q]at ed;cases ed;obtain⟨_,rp⟩:=o;rw[rep_lst]at rp;obtain⟨q,zs,rfl,lz,rl⟩:=rp;obtain⟨v1,b2,ys2,U2,p0,p1,p2,p3,p4,p5,p6,p7,p8,p9⟩:=R2.path hm hr hg;rw[hv]at p0;cases p0;have:=(c1.mono sh2).one p1;cases this;rw[sh2 _ _ c2]at p2;cases p2;obtain⟨eU,rr⟩:=p3.zero;obtain⟨T,R3⟩:=p9 (ys ++ zs) (P ++ l) [] (.of0 (rr.append rl)) nodup_nil (λc h=>by cases h);exact⟨b,q,ys,zs,rfl,rfl,sh2 _ _ c2,R2.gh _ _ lz.h,by rw[←rr.length,←rl.length];exact bK hc,_,_,T,(e0.trans e1).trans e2,rfl,R3,sg.trans sg2⟩
   ·rw[Ym hc]at kk;exact kk.elim
  |_=>exact kk.elim
 ·cases fl with
  |next=>
   obtain⟨σ',H',I',V,G',T,e1,e2,R',sg⟩:=C;subst e2;exact⟨V,_,G',H',T,e1,I',R',sg⟩
  |brk=>obtain⟨_,_,_,C⟩:=C;exact C.elim
  |cont=>obtain⟨_,_,_,C⟩:=C;exact C.elim
  |ret u=>obtain⟨_,_,_,_,_,C⟩:=C;exact C.elim
end
def cI (ks:List (List bL))(k:List bL):Option Nat:=ks.findIdx? (λq=>decide (q=k))
def kL {q k:List bL}{ks:List (List bL)}:cI (q::ks) k=if q=k then some 0 else (cI ks k).map (· + 1):=by
 unfold cI;rw[List.findIdx?_cons];by_cases e:q=k
 ·rw[Zo e,Yo e];rfl
 ·rw[Zj e,Ym e];rfl
theorem md {k:List bL}:∀{kvs:List (List bL×V)} {m:Nat},cI (kvs.map (·.1)) k=some m→je kvs k=(kvs.map (·.2))[m]?
 | [],m,h=>by cases h
 |(q,v)::r,m,h=>by
  rw[map_cons,kL]at h;by_cases e:q=k
  ·rw[Yo e]at h;cases h;exact lS e
  ·rw[Ym e]at h;cases z:cI (r.map (·.1)) k with
   |none=>rw[z]at h;cases h
   |some m'=>
    rw[z]at h;cases h;rw[jK e,md z];rfl
def oF {k:List bL}{ks:List (List bL)}{m:Nat}(h:cI ks k=some m):m<ks.length:=by
 unfold cI at h;exact(List.findIdx?_eq_some_iff_getElem.mp h).1
def u7 {k:List bL}{kvs:List (List bL×V)}(h:cI (kvs.map (·.1)) k=none):je kvs k=none:=by
 induction kvs with
 |nil=>rfl
 |cons p r ih=>
  rw[map_cons,kL]at h;by_cases e:p.1=k
  ·rw[Yo e]at h;cases h
  ·rw[Ym e]at h;rw[jK e];apply ih;cases z:cI (r.map (·.1)) k with
   |none=>rfl
   |some m'=>rw[z]at h;cases h
theorem qC {k:List bL}{v:V}:∀{kvs:List (List bL×V)},¬k∈kvs.map (·.1)→(kvs.map λkv=>if kv.1=k then (kv.1,v) else kv)=kvs
 | [],_=>rfl
 |p::r,h=>by
  have h1:¬p.1=k:=λe=>h (by rw[map_cons,e];exact mem_cons_self ..);rw[map_cons,Ym h1,qC λz=>h (dk z)]
theorem wX {k:List bL}{v:V}:∀{kvs:List (List bL×V)} {m:Nat},(kvs.map (·.1)).Nodup→cI (kvs.map (·.1)) k=some m→(kvs.map λkv=>if kv.1=k then (kv.1,v) else kv).map (·.1)=kvs.map (·.1)∧(kvs.map λkv=>if kv.1=k then (kv.1,v) else kv).map (·.2)=(kvs.map (·.2)).set m v
 | [],m,_,h=>by cases h
 |p::r,m,nd,h=>by
  rw[map_cons,kL]at h;rw[map_cons]at nd;obtain⟨n1,n2⟩:=nodup_cons.mp nd;by_cases e:p.1=k
  ·rw[Yo e]at h;cases h;rw[map_cons,Yo e,qC (by rw[←e];exact n1)];exact⟨rfl,rfl⟩
  ·rw[Ym e]at h;cases z:cI (r.map (·.1)) k with
   |none=>rw[z]at h;cases h
   |some m'=>
    rw[z]at h;cases h;obtain⟨a,b⟩:=wX n2 z;rw[map_cons,Ym e];exact⟨by rw[map_cons,map_cons,a],by rw[map_cons,map_cons,b];rfl⟩
def At {k:List bL}{v:V}{kvs:List (List bL×V)}{m:Nat}(nd:(kvs.map (·.1)).Nodup)(h:cI (kvs.map (·.1)) k=some m):(gn kvs k v).map (·.1)=kvs.map (·.1)∧(gn kvs k v).map (·.2)=(kvs.map (·.2)).set m v:=by
 have e:gn kvs k v=kvs.map λkv=>if kv.1=k then (kv.1,v) else kv:=by
  unfold gn;rw[Yo (by rw[lR,md h,gd (by rw[length_map];have:=oF h;rwa[length_map]at this)];rfl)]
 rw[e];exact wX nd h
def kP (ks:List (List bL))(l:Zy)(k:List bL)(d:D):D:=match cI ks k with
 |some m=>.dct ks (l.set m d)
 |none=>.dct (ks ++ [k]) (l ++ [d])
def q_ (j:Nat)(ks:List (List bL))(l:Zy)(ρ:DS)(d i:D):Out:=match i with
 |.tup kd=>(match gY kd with|some k=>if aQ ks.length=true then .nx (ρ.set j (some (kP ks l k d))) else .bad|none=>.bad)
 |_=>.bad
def cH (j:Nat)(fi f:Z7):DS→Out:=λρ=>match ρ[j]? with
 |some (some (.dct ks l))=>(f ρ).out λd=>(fi ρ).out λi=>q_ j ks l ρ d i
 |_=>.bad
def F8 (ρ:DS)(j:Nat)(p:Zz)(i:D):Res (List Nat):=match ρ[j]? with
 |some (some d)=>(match b_ p d with
  |some (.dct ks l)=>(match i with|.tup kd=>(match gY kd with|some k=>(match cI ks k with|some m=>.ok (p ++ [m])|none=>.bad)|none=>.bad)|_=>.bad)
  |_=>.bad)
 |_=>.bad
def Bg (j n:Nat)(g:Zi)(fi:Z7):DS→Res (List Nat):=λρ=>(g ρ).bind λp=>(fi ρ).bind λi=>if p.length=n then F8 ρ j p i else .bad
theorem mO {H:Hp}:∀{kvs:List (List bL×V)} {xs:List (List bL×Addr×Value)},Paired (λ(p:List bL×V) (q:List bL×Addr×Value)=>p.1=q.1∧H q.2.1=some (.tup (p.1.map kV))∧RelV p.2 q.2.2) kvs xs→kvs.map (·.1)=xs.map (·.1)
 |_,_,.nil=>rfl
 |_,_,.cons q t=>by rw[map_cons,map_cons,q.1,mO t]
def Inv.dnd {X:Cx}{pins:Z9}{σ:St}{H:Hp}{s:Z3}{kvs:List (List bL×V)}(I:Inv X pins σ H s)(h:H a=some (.dT kvs)):(kvs.map (·.1)).Nodup:=by
 obtain⟨_,_,xs,pr,_,_,_,_,_,_,_,nd⟩:=I.hok a _ h;rw[mO pr];exact nd
section
variable{X:Cx}{E:XK}{μ:Zz}{r n j:Nat}
def j6 :PN X E (n+1) (.Dict [] [] pos) (λ_=>.ok (.dct [] [])):=by
 intro pins s σ G H ρ I hs hr ho;refine aV (zY pins s σ H (λv H'=>∃p,v= .ref p∧H p=none∧H'=bc H p (.dT [])) I λp hp=>⟨p,rfl,hp,rfl⟩) λu s' hZ185=>?_;obtain⟨v,H',I',rv,p,e1,hp,e2⟩:=hZ185;subst e1 e2;refine⟨.dct [] [],rfl,.ref p,G,_,[p],I',rv,(Ext.refl hs).hnew hp _,⟨p,[],[],rfl,au,rfl,rfl,rfl,rfl⟩,by simp,λa ha=>?_⟩;have e:a=p:=by simpa using ha
 subst e;refine⟨hp,?_⟩;cases q:G a with
 |none=>rfl
 |some o=>have:=hs a o q;rw[hp]at this;cases this
def Db {g:Zi}{fi:Z7}{m:Nat}(hu:X.A.units+64<cLine)(hm:μ.getD j 0=m+1+n)(ho:Bb X E μ j o g)(hi:PD X E i fi)(hpi:Ba i:=by intro _ _;rfl):Bb X E μ j (.Subscript o i pos) (Bg j n g fi):=by
 intro pins s σ H Q I hZ33;obtain⟨Ge,B,G,ρ,fp,R,hok,k⟩:=hZ33;refine wK (pos:=pos) (by omega) ho (dM hi) hpi pins s σ H Q I ?_;refine⟨Ge,B,G,ρ,fp,R,hok.fst,λp ep v0 v G1 H1 hv hval R1 sg sh=>⟨nQ fp G1 H1,ρ,R1.vh,R1.ro,(hok.snd ep (Same.refl B)).fst.le R1.bh,λdi ei vi G3 H3 x3 ri=>?_⟩⟩;have J:=(hok.snd ep (Same.refl B)).snd ei (Same.refl B);by_cases hn:p.length=n
 ·subst hn;rw[Yo rfl]at J;have e0:Bg j p.length g fi ρ=F8 ρ j p di:=by unfold Bg;rw[ep,az,ei,az,Yo rfl]
  unfold F8 at J;cases hr:ρ[j]? with
  |none=>rw[hr]at J;exact J.elim
  |some od=>
  cases od with
  |none=>rw[hr]at J;exact J.elim
  |some d=>
  rw[hr]at J;dsimp only at J;cases hp:b_ p d with
  |none=>rw[hp]at J;exact J.elim
  |some c=>
  rw[hp]at J;cases c with
  |dct ks l=>
   dsimp only at J;cases di with
   |tup kd=>
    dsimp only at J;cases q1:gY kd with
    |none=>rw[q1]at J;exact J.elim
    |some kq=>
    rw[q1]at J;dsimp only at J;cases q2:cI ks kq with
    |none=>rw[q2]at J;exact J.elim
    |some m'=>
    obtain⟨A,a,N,T,e1,e2,e4,e3,h1⟩:=R1.node (m:=m+1) hm hr hp ze hv hval;subst e1 e4;rw[rep_tup]at ri;obtain⟨b,xs,rfl,tb,rk⟩:=ri;have hx:=jW rk q1;subst hx;have hlt:m'<(N.map (·.2)).length:=by have:=oF q2;rwa[length_map]at this ⊢
    have hw:(N.map (·.2))[m']?=some ((N.map (·.2))[m']):=gd hlt;refine⟨a,(N.map (·.2))[m'],rfl,.inr ⟨N,kq,b,.inl (x3.hh _ _ e2),rfl,x3.gh _ _ tb.h,by rw[md q2];exact hw.symm⟩,?_⟩;refine k (p ++ [m']) (e0.trans ?_) v0 _ (oB (pF fp) G3) H3 hv ((hval.mono x3.hh).snoc (x3.hh _ _ e2) hw) (R1.grow x3) (sg.trans (R1.gg x3)) (sh.trans x3.hh);unfold F8;rw[hr];dsimp only;rw[hp];dsimp only;rw[q1];dsimp only;rw[q2]
   |_=>exact J.elim
  |_=>exact J.elim
 ·rw[Ym hn]at J;exact J.elim
def fJ {px tpos pos:Ys}{fi f:Z7}(hu:X.A.units+64<cLine)(hm:μ.getD j 0=n+1)(hN:X.N[j]?=some x)(hv:uJ X.env.scope x)(hi:PD X E i fi)(h:PZ X E μ n e f)(hd:zQ1 x:=by decide) (hcd:(x==("__classdict__" :Str))=false:=by decide)(hs:swapsWith e (some (.Subscript (.Name x px) i tpos)) pos.line X.env=pure false:=by rfl) :
  lV X E μ r (.Assign [.Subscript (.Name x px) i tpos] e pos) (cH j fi f):=by
 intro pins s σ Ge B G H g t I R ho;have hslot:∃V l,g[j]?=some (some (.dct V l)):=by
  unfold cH at ho;split at ho
  ·rename_i V l q;exact⟨V,l,q⟩
  ·exact ho.elim
 obtain⟨V,l,hr⟩:=hslot;have eo:cH j fi f g=(f g).out λd=>(fi g).out λi=>q_ j V l g d i:=by
  unfold cH;rw[hr]
 rw[eo]at ho ⊢;have top:∀{G H:Hp},Rw X.K μ Ge B G H σ g t→∃a O T,σ[j]?=some (some (.ref a))∧H a=some (.dT O)∧O.map (·.1)=V∧t j=a::T∧AllW (Ow X.K G H n) l (O.map (·.2)) T:=λ{G H} R=>by
  obtain⟨v,hv,o⟩:=R.sl j _ hr;rw[hm]at o;obtain⟨a,O,T,e1,e2,e4,e3,h1⟩:=o;subst e1;exact⟨a,O,T,hv,e2,e4,e3,h1⟩
 obtain⟨a,O,T0,h1,h2,h4,h3,h5⟩:=top R;have nd:=I.dnd h2;have hp:=CI (pos:=pos) (pos':=tpos) (by omega) (en (pos:=px) hN hv hd hcd) (dM hi) (sj h) hs;refine aV (hp pins s σ H {nx:=λσ' H'=>∃ρ' G' U,((f g).out λd=>(fi g).out λi=>q_ j V l g d i)= .nx ρ'∧σ'=σ∧Rw X.K μ Ge B G' H' σ ρ' U∧Same G G',bk:=λ_ _=>False,ct:=λ_ _=>False,rt:=λ_ _=>False} I ⟨Ge,B,G,g,t,R,ho.res,λd ed v G1 H1 S R1 sg sh o w=>?_⟩) λfl s1 M=>?_
 ·have k:=ho.res2 ed (Same.refl B);refine⟨_,h1,nQ t G1 H1,g,R1.vh,R1.ro,k.res.le R1.bh,λdi ei vi G3 H3 x3 ri=>?_⟩;have kk:=k.res2 ei (Same.refl B);have e0:((f g).out λd=>(fi g).out λi=>q_ j V l g d i)=q_ j V l g d di:=by rw[bY ed,bY ei]
  unfold q_ at kk;cases di with
  |tup kd=>
   dsimp only at kk;cases q1:gY kd with
   |none=>rw[q1]at kk;exact kk.elim
   |some W=>
   rw[q1]at kk;dsimp only at kk;by_cases p:aQ V.length=true
   ·have e0:=e0.trans (show q_ j V l g d (.tup kd)= .nx (g.set j (some (kP V l W d))) by unfold q_;dsimp only;rw[q1];exact Yo p);rw[rep_tup]at ri;obtain⟨b,xs,rfl,tb,rk⟩:=ri;have hx:=jW rk q1;subst hx;have P:=R1.grow x3;obtain⟨a2,kvs2,T,g1,g2,g4,g3,g5⟩:=top P;rw[h1]at g1;cases g1;rw[x3.hh _ _ (sh _ _ h2)]at g2;cases g2;have hcS:∀b∈S,∃u,H1 b=some u∧¬oG u:=λb F=>let ⟨u,e,c⟩:=o.cell b F;⟨u,e,c.nokey⟩
    have w3:=w.keep hcS (λi b F=>R.apart w i b F) x3;have fr:=P.freshOf w3 R;have o3:=o.mono (R1.gg x3) λb _ u e=>x3.hh b u e;have hnd:=P.nd j;rw[g3]at hnd;obtain⟨haT,hTn⟩:=nodup_cons.mp hnd;have J:a∈t j:=by rw[g3];exact mem_cons_self ..
    have Y:∀b∈T,b∈t j:=λb F=>by rw[g3];exact dk F
    have neT:∀b,b∈T→b≠a:=λb F z=>haT (z ▸ F);have neS:∀b,b∈S→b≠a:=λb F z=>(fr b F).2 j (z ▸ J);have fin:∀(T':Zt) (d':D),Ow X.K (oB (pF t) G3) (bc H3 a (.dT (gn O W v))) (n+1) d' (.ref a) (a::T')→T'.Nodup→(∀c∈T',c∈T∨c∈S)→kP V l W d=d'→∃U,Rw X.K μ Ge B (oB (pF t) G3) (bc H3 a (.dT (gn O W v))) σ (g.set j (some d')) U:=λT' d' ow ndT hT' _=>by
     refine⟨_,P.write J h1 (by rw[hm];exact ow) (nodup_cons.mpr ⟨λz=>?_,ndT⟩) (λc p=>?_) λi hi c p hci=>?_⟩
     ·rcases hT' a z with y|y
      ·exact haT y
      ·exact neS a y rfl
     ·rcases mem_cons.mp p with z|z
      ·subst z;exact⟨P.gf j _ J,P.ob j _ J⟩
      ·rcases hT' c z with y|y
       ·exact⟨P.gf j _ (Y c y),P.ob j _ (Y c y)⟩
       ·exact(fr c y).1
     ·rcases mem_cons.mp p with z|z
      ·subst z;exact hi (P.dj i j _ hci J)
      ·rcases hT' c z with y|y
       ·exact hi (P.dj i j _ hci (Y c y))
       ·exact(fr c y).2 i hci
    have key:∃U,Rw X.K μ Ge B (oB (pF t) G3) (bc H3 a (.dT (gn O W v))) σ (g.set j (some (kP V l W d))) U:=by
     cases q2:cI V W with
     |some m=>
      rw[←h4]at q2;obtain⟨y1,y2⟩:=At (v:=v) nd q2;have hml:m<l.length:=by rw[g5.length,length_map];have:=oF q2;rwa[length_map]at this
      obtain⟨w0,A,L,Q,f1,f2,f3,f4⟩:=g5.at (gd hml);have hT:=hTn;rw[f2]at hT;have Z:∀c,c∈L∨c∈Q→c∈T:=λc p=>by rw[f2];rcases p with z|z;exact mem_append_left _ (mem_append_left _ z);exact mem_append_right _ z
      have big:=f4 (Ow X.K (oB (pF t) G3) (bc H3 a (.dT (gn O W v))) n) (λd v C hC z=>z.mono (.refl _) λb F u e=>by rw[am (neT b (Z b (hC b F)))];exact e) d v S (o3.mono (.refl _) λb F u e=>by rw[am (neS b F)];exact e);have ed':kP V l W d= .dct V (l.set m d):=by unfold kP;rw[←h4,q2]
      rw[ed'];refine fin (L ++ S ++ Q) _ ⟨a,gn O W v,L ++ S ++ Q,rfl,au,by rw[y1,h4],rfl,by rw[y2];exact big⟩ (ml hT w.1 λc p=>.inr ⟨λz=>(fr c p).2 j (Y c (Z c (.inl z))),λz=>(fr c p).2 j (Y c (Z c (.inr z)))⟩) (λc p=>?_) ed'
      rcases mem_append.mp p with z|z
      ·rcases mem_append.mp z with y|y
       ·exact .inl (Z c (.inl y))
       ·exact .inr y
      ·exact .inl (Z c (.inr z))
     |none=>
      have q3:=q2;rw[←h4]at q3;have ek:gn O W v=O ++ [(W,v)]:=As v (u7 q3);have ed':kP V l W d= .dct (V ++ [W]) (l ++ [d]):=by unfold kP;rw[q2]
      rw[ed'];refine fin (T ++ S) _ ⟨a,gn O W v,T ++ S,rfl,au,by rw[ek,map_append,h4];rfl,rfl,?_⟩ (nodup_append.mpr ⟨hTn,w.1,λb F c p e=>by subst e;exact(fr b p).2 j (Y b F)⟩) (λc p=>mem_append.mp p) ed';rw[ek,map_append];refine AllW.append (g5.mono λd v A _ hA z=>z.mono (.refl _) λb F u e=>by rw[am (neT b (hA b F))];exact e) (.one (o3.mono (.refl _) λb F u e=>by rw[am (neS b F)];exact e))
    obtain⟨U,R4⟩:=key;have h9:O.length<sizeLine:=by
     have e9:O.length=V.length:=by rw[←h4,length_map]
     rw[e9];exact gZ p
    exact⟨a,_,rfl,.inr ⟨O,W,b,x3.hh _ _ (sh _ _ h2),rfl,x3.gh _ _ tb.h,h9,rfl⟩,_,_,U,e0,rfl,R4,sg.trans (R1.gg x3)⟩
   ·rw[Ym p]at kk;exact kk.elim
  |_=>exact kk.elim
 ·cases fl with
  |next=>
   obtain⟨σ',H',I',ρ',G',U,e1,e2,R',sg⟩:=M;subst e2;exact⟨ρ',_,G',H',U,e1,I',R',sg⟩
  |brk=>obtain⟨_,_,_,M⟩:=M;exact M.elim
  |cont=>obtain⟨_,_,_,M⟩:=M;exact M.elim
  |ret u=>obtain⟨_,_,_,_,_,M⟩:=M;exact M.elim
end
def Ow.noCells {K:Z8}{G H:Hp}{n:Nat}{d:D}{v:V}(h:Ow K G H (n+1) d v []):L2.flat d=true∧Rep K G d v:=by
 cases d with
 |lst l=>obtain⟨a,xs,T,_,_,e,_⟩:=h;cases e
 |dct ks l=>obtain⟨a,xs,T,_,_,_,e,_⟩:=h;cases e
 |tup l=>
  rcases h with h|⟨a,xs,T,_,_,e,_⟩
  ·exact⟨h.1,h.2.2⟩
  ·cases e
 |_=>exact⟨h.1,h.2.2⟩
theorem AllW.noCells {K:Z8}{G H:Hp}{n:Nat}:∀{ds:Zy} {vs:List V},AllW (Ow K G H (n+1)) ds vs []→flats ds=true∧RepL K G ds vs
 | [],_,h=>by rw[h.1];exact⟨by unfold flats;rfl,.nil⟩
 |d::ds,_,h=>by
  obtain⟨v,r,A,B,e1,e2,h1,h2⟩:=h;obtain⟨rfl,rfl⟩:=List.append_eq_nil_iff.mp e2.symm;subst e1;obtain⟨f1,r1⟩:=h1.noCells;obtain⟨f2,r2⟩:=AllW.noCells h2;exact⟨by unfold flats;rw[f1,f2];rfl,.cons r1 r2⟩
section
variable{X:Cx}{E:XK}{μ:Zz}{r n:Nat}
def CF {x1:Nat}{f:Z5}(h:FV X E (n+1) es f):PN X E (n+2) (.Tuple es x1 pos) (cA f):=by
 refine .tn (vv h) λσ G H ρ Q hs hro ho k=>⟨G,ρ,hs,hro,ho.fst,λds e vs G1 H1 S x1 os w=>?_⟩;have kk:=ho.snd e x1.hh;by_cases hl:aQ ds.length=true
 ·refine⟨by rw[←os.length];exact bK hl,λp hp=>?_⟩;by_cases hS:S=[]
  ·subst hS;obtain⟨fl,rl⟩:=os.noCells;exact k (.tup ds) (aq e (Yo hl)) (.ref p) (bc G1 p (.tup vs)) _ [] (x1.trans (.new x1.gh hp _)) (.inl ⟨by unfold L2.flat;exact fl,rfl,rep_tup.mpr ⟨p,vs,rfl,.of au,rl.mono (Ext.new x1.gh hp _).gg⟩⟩) .nil
  ·have hpS:p∉S:=λz=>by obtain⟨u,hu,_⟩:=os.has p z;rw[hp]at hu;cases hu
   have gp:G1 p=none:=by
    cases q:G1 p with
    |none=>rfl
    |some u=>rw[x1.gh p u q]at hp;cases hp
   have o1:AllW (Ow X.K G1 (bc H1 p (.tup vs)) (n+1)) ds vs S:=os.mono λd v A _ hA z=>z.mono (.refl _) λb hb u e=>by
    have hne:b≠p:=λzz=>hpS (zz ▸ hA b hb);rw[am hne];exact e
   have w1:New H G1 (p::S):=⟨nodup_cons.mpr ⟨hpS,w.1⟩,λa ha=>by
    rcases mem_cons.mp ha with z|z
    ·subst z;exact⟨x1.hh.free hp,gp⟩
    ·exact w.2 a z⟩
   exact k (.tup ds) (aq e (Yo hl)) (.ref p) G1 _ (p::S) (x1.hnew hp _) (.inr ⟨p,vs,S,rfl,au,rfl,hS,o1⟩) w1
 ·rw[Ym hl]at kk;exact kk.elim
def wE (f g:Z7):DS→Res D:=λρ=>(f ρ).bind λa=>(g ρ).bind λb=>.ok (.tup [a,b])
def Ow.pairUp {K:Z8}{Ge B G H:Hp}{σ:St}{ρ:DS}{fp:Zh}{d1 d2:D}{v1 v2:V}{S1 S2:Zt}(R:Rw K μ Ge B G H σ ρ fp)(o1:Ow K G H (n+1) d1 v1 S1)(o2:Ow K G H (n+1) d2 v2 S2)(nd:(S1 ++ S2).Nodup)(hS:∀a∈S1 ++ S2,G a=none∧B a=none)(hp:H p=none) :
  ∃G' S,Ext Ge B G' (bc H p (.tup [v1,v2]))∧Ow K G' (bc H p (.tup [v1,v2])) (n+2) (.tup [d1,d2]) (.ref p) S∧New B G' S:=by
 have os:AllW (Ow K G H (n+1)) [d1,d2] [v1,v2] (S1 ++ S2):=⟨v1,[v2],S1,S2,rfl,rfl,o1,v2,[],S2,[],rfl,(append_nil _).symm,o2,rfl,rfl⟩;by_cases hn:S1 ++ S2=[]
 ·rw[hn]at os;obtain⟨fl,rl⟩:=os.noCells;have x:=R.ext.trans (.new R.gh hp (.tup [v1,v2]));exact⟨_,[],x,.inl ⟨by unfold L2.flat;exact fl,rfl,rep_tup.mpr ⟨p,_,rfl,.of au,rl.mono (Ext.new R.gh hp _).gg⟩⟩,.nil⟩
 ·have hpS:p∉S1 ++ S2:=λz=>by obtain⟨u,hu,_⟩:=os.has p z;rw[hp]at hu;cases hu
  have gp:G p=none:=by
   cases q:G p with
   |none=>rfl
   |some u=>rw[R.gh p u q]at hp;cases hp
  refine⟨G,p::(S1 ++ S2),R.ext.hnew hp _,.inr ⟨p,_,_,rfl,au,rfl,hn,os.mono λd v A _ hA z=>z.mono (.refl _) λb hb u e=>by
   have hne:b≠p:=λzz=>hpS (zz ▸ hA b hb);rw[am hne];exact e⟩,nodup_cons.mpr ⟨hpS,nd⟩,λa ha=>?_⟩
  rcases mem_cons.mp ha with z|z
  ·subst z;exact⟨R.bh.free hp,gp⟩
  ·exact⟨(hS a z).2,(hS a z).1⟩
def Aj {j:Nat}{x1:Nat}{px tp pos:Ys}{f:Z7}(hm:μ.getD j 0=n+1)(hN:X.N[j]?=some x)(hv:uJ X.env.scope x)(h:PZ X E μ (n+1) e f)(hd:zQ1 x:=by decide) (hcd:(x==("__classdict__" :Str))=false:=by decide)(hs:starEach [.Name x px,e] X.env=(false,eval (.Name x px) X.env)::starEach [e] X.env:=by rfl) (hs2:zQ2 X e []:=by rfl) :
  lV X E μ (n+2) (.Return (some (.Tuple [.Name x px,e] x1 tp)) pos) (bR (wE (ac j) f)):=by
 intro pins s σ Ge B G H ρ fp I R ho;have hp:=su (pos:=pos) (vv (x1:=x1) (pos:=tp) (bQ (en (pos:=px) hN hv hd hcd) (bQ (sj h) df hs2) hs));have hslot:∃d2,ρ[j]?=some (some d2)∧ac j ρ= .ok d2:=by
  have h:=ho.res.fst;unfold ac at h;split at h
  ·rename_i l q;exact⟨l,q,by unfold ac;rw[q]⟩
  ·exact h.elim
 obtain⟨d2,hr,er⟩:=hslot;obtain⟨v2,h1,_⟩:=R.sl j _ hr;refine aV (hp pins s σ H {nx:=λ_ _=>False,bk:=λ_ _=>False,ct:=λ_ _=>False,rt:=λv H'=>∃d G' S,wE (ac j) f ρ= .ok d∧Ext Ge B G' H'∧Ow X.K G' H' (n+2) d v S∧New B G' S} I ⟨v2,h1,Ge,B,G,ρ,fp,R,(ho.res.snd er (Same.refl B)).fst,λd ed v G1 H1 S R1 sg sh o w=>?_⟩) λfl s1 q=>?_
 ·obtain⟨v3,h3,o2⟩:=R1.sl j _ hr;rw[h1]at h3;cases h3;rw[hm]at o2;refine⟨(by show 2≤sizeLine;decide),λp hp=>?_⟩;obtain⟨G',S',x,ow,nw⟩:=Ow.pairUp R1 o2 o (nodup_append.mpr ⟨R1.nd j,w.1,λa ha b hb e=>by subst e;exact R.apart w j a hb ha⟩) (λa ha=>by
   rcases mem_append.mp ha with z|z
   ·exact⟨R1.gf j a z,R1.ob j a z⟩
   ·exact⟨(w.2 a z).2,R.bh.free (w.2 a z).1⟩) hp
  exact⟨.tup [d2,d],G',S',aq er (aq ed rfl),x,ow,nw⟩
 ·cases fl with
  |next=>obtain⟨_,_,_,q⟩:=q;exact q.elim
  |brk=>obtain⟨_,_,_,q⟩:=q;exact q.elim
  |cont=>obtain⟨_,_,_,q⟩:=q;exact q.elim
  |ret u=>
   obtain⟨v,σ',H',I',rv,d,G',S,e,x,o,w⟩:=q;exact⟨d,v,σ',G',H',S,bY e,I',rv,x,o,w⟩
def Il (X:Cx)(μ:Zz)(st:Yq)(F:Zl):Prop:=
 ∀(Et:Z6) (pins:Z9) (s:Z3) (σ:St) (Ge B G H:Hp) (ρ:DS) (fp:Nat→List Addr),Inv X pins σ H s→Rw X.K μ Ge B G H σ ρ fp→F ρ≠ .bad→
  (∀c,F ρ= .exc c→∀G1 H1 s1 ev s2,Inv X pins σ H1 s1→Rw X.K μ Ge B G1 H1 σ ρ fp→Same G G1→CXF X.prog X.w X.stack H1 s1 (λcls _ H'=>cls= .ref c∧Same H1 H') ev s2→Et ev s2)→
  wpAny (model X.prog X.w) X.A (exec st X.env) (SM X μ 0 Ge B G pins (F ρ)) Et s
theorem nF:∀{n:Nat} {d:D},bW n d=true→bW (n+1) d=true
 |0,d,h=>jZ h
 |n+1,d,h=>by
  cases d with
  |lst l=>unfold bW at h ⊢;exact all_eq_true.mpr λx hx=>nF (all_eq_true.mp h x hx)
  |dct ks l=>unfold bW at h ⊢;exact all_eq_true.mpr λx hx=>nF (all_eq_true.mp h x hx)
  |tup l=>
   unfold bW at h ⊢;rw[or_eq_true]at h ⊢;exact h.imp id λz=>all_eq_true.mpr λx hx=>nF (all_eq_true.mp z x hx)
  |_=>unfold bW at h ⊢;exact h
theorem Ow.ups {K:Z8}{G H:Hp}{d:D}{v:V}{S:Zt}{n:Nat}(hf:bW n d=true)(h:Ow K G H n d v S):∀k,Ow K G H (n+k) d v S∧bW (n+k) d=true
 |0=>⟨h,hf⟩
 |k+1=>by
  obtain⟨a,b⟩:=Ow.ups hf h k;exact⟨a.up b,nF b⟩
def CXF.wk {P:Zv}{w:Zk}{st:Y1}{H:Hp}{s s':Z3}{E E':XK}(k:∀c a H,E c a H→E' c a H)(h:CXF P w st H s E ev s'):CXF P w st H s E' ev s':=by
 obtain⟨e,cls,a0,B,H',h1,h2,h3,h4,h5,h6,h7,h8,h9,q⟩:=h;exact⟨e,cls,a0,B,H',h1,h2,h3,h4,h5,h6,h7,h8,h9,k _ _ _ q⟩
def CJ {k i r' dd:Nat}{g y:Yr}{ps:Zw}{m:Zr}{e:Y3}{es:Ze}{gp cpos apos py:Ys}{fs:Z5}(hN:X.N.Nodup)(hj:X.N[i]?=some y)(hy:X.env.scope.names.lookup y=some .local)(hmi:μ.getD i 0=r' + dd)(C:Cal X.prog X.w X.K X.mg X.base g k ps (freshSp X.K r' m)) {j:Nat} (hr:Room j X.A) (ha:∀Et pn,lU (X.tr Et pn) pJ (e::es) fs) (hax:∀ρ c,fs ρ≠ .exc c)(hkj:k≤j:=by decide) (hgc:Gl X g:=by rfl) (hdg:zQ1 g:=by decide) (hst:zQ2 X e es:=by rfl) (hpl:(backTo cpos (starEach es X.env)).any (·.1)=false:=by rfl)(hsw:swapsWith (.Call (.Name g gp) (e::es) [] cpos) (some (.Name y py)) apos.line X.env=pure false:=by rfl) :
  Il X μ (.Assign [.Name y py] (.Call (.Name g gp) (e::es) [] cpos) apos) (aF i (gN r' (bb fs m))):=by
 intro Et pins s σ Ge B G H ρ fp I R hnb hex;obtain⟨f,fd,F,hb,hmc,hk⟩:=C.ex;have I':=I.tr (pins:=pins) Et;have hiσ:i<σ.length:=by rw[I.len];exact(fR hj).1
 have hfs:∃Z,fs ρ= .ok Z:=by
  cases q:fs ρ with
  |ok Z=>exact⟨Z,rfl⟩
  |exc c=>exact absurd q (hax ρ c)
  |bad=>exact(hnb (by unfold aF gN bb;rw[q];rfl)).elim
 obtain⟨Z,eds⟩:=hfs;have eF:aF i (gN r' (bb fs m)) ρ=((m Z).bind λd=>if bW r' d=true then .ok d else .bad).out λd=>.nx (ρ.set i (some d)):=by unfold aF gN bb;rw[eds];rfl
 have ev:wpAny (model X.prog X.w) X.A (eval (.Call (.Name g gp) (e::es) [] cpos) X.env) (EP (X.tr Et (X.pn ++ pins)) [] σ λv H2=>∃d G' S,m Z= .ok d∧bW r' d=true∧Rw X.K μ Ge B G' H2 σ ρ fp∧Same G G'∧Ow X.K G' H2 r' d v S∧New H G' S) Et s:=by
  refine wpAny_Call_Name_kw (jY (X:=X.tr Et (X.pn ++ pins)) I' hgc hmc ?_ hdg);refine W.callWith_K (h₀:=X.base) I'.ok.mod.kin hk (aV (ha Et _ cpos [] s σ (nQ fp G H) H ρ I' R.vh R.ro (by rw[eds];trivial)) λus s1 ⟨ds',eds',vs,G1,H1,I1,r1,x1,rl⟩=>⟨I1.kIn,?_⟩) hst hpl;rw[eds]at eds';cases eds';refine Fu (X:=X.tr Et (X.pn ++ pins)) (E:=λcls _ H'=>∃c,m Z= .exc c∧cls= .ref c∧Same H1 H') F (hr.mono hkj) hb .nil I1 (λev s2 hx=>?_) r1 ⟨Z,G1,x1.gh,by rw[append_nil];exact rl,?_,λd ed v G3 H3 S x3 o w=>?_⟩
  ·have hc:∃c,m Z= .exc c:=by
    obtain⟨_,_,_,_,_,_,_,_,_,_,_,_,_,_,c,hc,_⟩:=hx;exact⟨c,hc⟩
   obtain⟨c,hc⟩:=hc;exact hex c (by rw[eF,hc];rfl) _ H1 s1 ev s2 (I1.untr I.ok) (R.grow x1) (R.gg x1) (CXF.wk (λcls a H' hZ187=>(by obtain⟨c',h1,h2,h3⟩:=hZ187;rw[hc]at h1;cases h1;exact⟨h2,h3⟩)) hx)
  ·cases q:m Z with
   |ok d=>trivial
   |exc c=>exact λH' s'=>⟨c,rfl,rfl,s'⟩
   |bad=>exact(hnb (by rw[eF,q];rfl)).elim
  ·by_cases hl:bW r' d=true
   ·have x:=x1.trans x3;exact⟨d,_,S,ed,hl,R.grow x,R.gg x,o.hide (R.cells x) hl,w.1,λa ha=>⟨x1.hh.free (w.2 a ha).1,by
     cases q:oB (pF fp) G3 a with
     |none=>rfl
     |some u=>have:=(jz q).2;rw[(w.2 a ha).2]at this;cases this⟩⟩
   ·refine(hnb ?_).elim;rw[eF,ed];show ((if bW r' d=true then Res.ok d else .bad).out λd=>Out.nx (ρ.set i (some d)))= .bad
    rw[Ym hl];rfl
 refine wpAny_Assign_Name (aV ev λv s1 ⟨w,H1,I1,r1,d,G',S,ed,hl,R',sg,o,nw⟩=>lO (I1.untr I.ok) hN hj (.inl hy) r1 (λs2 I2=>?_) (.inr hy)) hsw;refine⟨ρ.set i (some d),_,G',H1,_,?_,I2,R'.put hiσ (by rw[hmi];exact(o.ups hl dd).1) nw.1 (λa ha=>⟨(nw.2 a ha).2,R.bh.free (nw.2 a ha).1⟩) (λj _=>R.apart nw j),sg⟩;rw[eF,ed];show ((if bW r' d=true then Res.ok d else .bad).out λd=>Out.nx (ρ.set i (some d)))=_
 rw[Yo hl];rfl
def ka (i:Nat)(cs:Zt)(F Fh:Zl):DS→Out:=λρ=>match F ρ with
 |.exc c=>if cs.contains c=true then (match Fh (ρ.set i (some (.xc c))) with|.rt d=>.rt d|_=>.bad) else .bad
 |.nx ρ'=>.nx ρ'
 |_=>.bad
def Fk {i:Nat}{C:Z2}{cs:Zt}{st b₀:Yq}{suite:List Stmt}{np hpos pos:Ys}{F Fh:Zl}(hN:X.N.Nodup)(hi:X.N[i]?=some n0)(hl:X.env.scope.names.lookup n0=some .local)(hmi:μ.getD i 0=0)(hm:X.mg x=some (.ref C))(hs:X.stack=X.env::X.outer)(hf:X.env.frame=some X.env.locals)(hcs:∀c∈cs,W.exmOne X.K (.ref c) (.ref C)=some true∧ExcK X.K c) (hb:Il X μ st F) (hh:∀(e:Z2) (E':Value→Shared→Prop),uL (X.inH e E') pJ μ r (b₀::suite) Fh) (hg:Gl X x:=by rfl)(hdb:zQ1 x:=by decide) :
  lV X E μ r (.Try [st] [.ExceptHandler (some (.Name x np)) (some n0) (b₀::suite) hpos] [] [] pos) (ka i cs F Fh):=by
 intro p s σ Ge B G H j fp I R O;have hiσ:i<σ.length:=by rw[I.len];exact(fR hi).1
 have hnb:F j≠ .bad:=λz=>by unfold ka at O;rw[z]at O;exact O
 refine wpAny_Try_except ?_;generalize hEt:(λ(e:Zc) (s₁:Shared)=>wpAny (model X.prog X.w) X.A (noteFrame e X.env) (λ_ s₂=>wpAny (model X.prog X.w) X.A (setFlight e Option.none) (λ_ s₃=>wpAny (model X.prog X.w) X.A (handleBy e X.env [.ExceptHandler (some (.Name x np)) (some n0) (b₀::suite) hpos]) (SM X μ r Ge B G p (ka i cs F Fh j)) X.xe s₃) X.xe s₂) X.xe s₁)=Et;have g:∀c,F j= .exc c→∀l H1 s1 ev k,Inv X p σ H1 s1→Rw X.K μ Ge B l H1 σ j fp→Same G l→CXF X.prog X.w X.stack H1 s1 (λcls _ H'=>cls= .ref c∧Same H1 H') ev k→Et ev k:=by
  intro c hc l H1 s1 ev k J R1 sg hx;have ho':=O;unfold ka at ho';rw[hc]at ho';dsimp only at ho';have hcc:cs.contains c=true:=by
   cases q:cs.contains c with
   |true=>rfl
   |false=>rw[q]at ho';exact ho'.elim
  rw[Yo hcc]at ho';have hrt:∃d,Fh (j.set i (some (.xc c)))= .rt d:=by
   cases q:Fh (j.set i (some (.xc c))) with
   |rt d=>exact⟨d,rfl⟩
   |_=>rw[q]at ho';exact ho'.elim
  obtain⟨d0,ed0⟩:=hrt;have eT:ka i cs F Fh j= .rt d0:=by unfold ka;rw[hc];dsimp only;rw[Yo hcc,ed0]
  obtain⟨hmat,hek⟩:=hcs c (by simpa using hcc);obtain⟨e,cls,a0,Bh,H2,rfl,fl,hn,⟨ecl,sH⟩,g⟩:=J.landed hx;subst ecl;show Et (.ref e) k;rw[←hEt];show wpAny _ _ (noteFrame (.ref e) X.env) _ _ k;rw[hs]at fl;refine wpAny_looks_onW (base:=Bh) (outer:=X.outer) (L:=X.env.locals) (by rw[I.ok.frames,hs]) hf fl λh4 held4 up4=>?_;refine wpAny_landsW held4 λh5 fl5 up5=>?_;have up5':=up4.trans up5;obtain⟨_,J5⟩:=g h5 k.toks (by rw[hs];exact fl5) up5';have mk:∀(Ex:Value→Shared→Prop),Inv (X.inH e Ex) p σ H2 {k with heap:=h5}:=λEx=>J5.inH e Ex
  refine wpAny_handleBy_cons (codeAny_handlers_test (jY (X:=X.inH e (λ_ _=>True)) (mk _) hg hm ?_ hdb)) (by intro q;cases q);obtain⟨ob,hob,hcl⟩:=fl5.there;have LT:W.Looks (model X.prog X.w) h5 (typeOf (.ref e)) (.ref c):=hcl ▸ (W.Looks.ld hob).andThen .now;refine(W.exm_one (M:=model X.prog X.w) J5.kIn LT hmat).here ?_;show codeAny _ _ _ _ _;refine codeAny_handlers_suite_as ?_;refine lands_againW (s:={k with heap:=h5}) fl5 λh6 fl6 up6=>?_
  obtain⟨J6,_⟩:=g h6 k.toks (by rw[hs];exact fl6) (up5'.trans up6);refine lO (X:=X) (i:=i) (v:=.ref e) J6 hN hi (.inl hl) rfl (λs7 J7=>?_) (.inr hl);generalize hEx:(λ(x:Zc) (s₃:Shared)=>_)=Ex;have x2:Ext l H1 (bc l e (m5 e (.ref c))) (bc H2 e (m5 e (.ref c))):=by
   have hs2:Same l H2:=R1.gh.trans sH;have x0:Ext l H1 l H2:=⟨sH,.refl _,hs2,λb o h=>.inl h⟩;exact x0.trans (.new hs2 hn _)
  have R2:Rw X.K μ Ge B (bc l e (m5 e (.ref c))) (bc H2 e (m5 e (.ref c))) σ j fp:=R1.growF x2;have R3:=R2.set0 (i:=i) (d:=.xc c) (v:=.ref e) hiσ hmi (rep_xc.mpr ⟨e,rfl,au,hek⟩);refine wpAny_mono (hh e Ex p s7 _ Ge B _ _ _ _ (J7.inH e Ex) R3 (by rw[ed0];trivial)) (λf s8 q8=>?_) λx s8 q8=>q8;rw[ed0]at q8;cases f with
  |next=>obtain⟨_,_,_,_,_,q,_⟩:=q8;cases q
  |brk=>obtain⟨_,_,_,_,_,q,_⟩:=q8;cases q
  |cont=>obtain⟨_,_,_,_,_,q,_⟩:=q8;cases q
  |ret u=>
   obtain⟨d,v,σ8,G8,H8,S8,q,J8,r8,x8,o8,w8⟩:=q8;obtain⟨m8,n8,_⟩:=J8.loc;refine wpAny_nameGoes hl n8 (by rw[I.ok.kind];rfl) λh9 m9 n9 sb=>?_;rw[eT];cases q;exact⟨d0,v,_,G8,H8,S8,rfl,(J8.outH I.ok).forget sb n9,r8,x8,o8,w8⟩
 have body:wpAny (model X.prog X.w) X.A (execs [st] X.env) (SM X μ r Ge B G p (ka i cs F Fh j)) Et s:=by
  refine wpAny_execs_cons (aV (hb Et p s σ Ge B G H j fp I R hnb g) λfl s1 q=>?_);cases fl with
  |next=>
   obtain⟨ρ',σ',G',H',fp',e,q,q1,q2⟩:=q;exact wpAny_execs_nil ⟨ρ',σ',G',H',fp',by unfold ka;rw[e],q,q1,q2⟩
  |brk=>obtain⟨_,_,_,_,_,e,_⟩:=q;unfold ka at O;rw[e]at O;exact O.elim
  |cont=>obtain⟨_,_,_,_,_,e,_⟩:=q;unfold ka at O;rw[e]at O;exact O.elim
  |ret u=>obtain⟨_,_,_,_,_,_,e,_⟩:=q;unfold ka at O;rw[e]at O;exact O.elim
 refine wpAny_mono body (λf s1 q1=>?_) λe s1 q1=>q1;cases f with
 |next=>exact wpAny_execs_nil q1
 |brk=>exact q1
 |cont=>exact q1
 |ret u=>exact q1
end
def zp (l:Zy)(d:D):Option Nat:=l.findIdx? λy=>cn y d
def m7 (d e:D):Res D:=match d with
 |.lst l=>if plL 19 l=true∧bg 19 e=true∧aQ l.length=true then (match zp l e with|some j=>.ok (.int (j:Nat))|none=>.bad) else .bad
 |_=>.bad
def Au (K:Z8):V→List V→Hp→VK→Prop:=λx vs H Q=>∃G l dx y j,Same G H∧Rep K G (.lst l) x∧vs=[y]∧Rep K G dx y∧plL 19 l=true∧bg 19 dx=true∧aQ l.length=true∧zp l dx=some j∧Q (.int (j:Nat)) H
section
variable{X:Cx}{E:XK}{μ:Zz}{r n:Nat}
def zK (hu:X.A.units+64<cLine):xg X "list.index" (Au X.K):=by
 intro pins s σ H x vs v us Q I rx rv h;obtain⟨G,l,dx,y,j,hs,rl,rfl,ry,hp,hd,hlk,hj,q⟩:=h;rw[rep_lst]at rl;obtain⟨a,xs,rfl,sq,rl⟩:=rl;cases rx;obtain⟨u,rfl,ru⟩:=rv.one;obtain⟨J,r,p⟩:=I.isLst (hs.seq sq.sq);obtain⟨⟨cls,dd,data,sl⟩,ho,hc,n,hdt⟩:=id p;simp only at hc hdt;subst hc hdt;obtain⟨hjl,hjt,hjn⟩:=List.findIdx?_eq_some_iff_getElem.mp hj;have len1:=rl.length;have len2:=r.length;have at':∀m (h1:m<l.length) (h2:m<J.toArray.size),yy X.K G l dx J.toArray[m]=cn l[m] dx:=λm h1 h2=>by
  obtain⟨z,hz,rz⟩:=rl.get (gd h1);obtain⟨w,hw,rw'⟩:=r.get hz;have e:J.toArray[m]=w:=by
   have:J.toArray[m]?=some w:=by rw[List.getElem?_toArray];exact hw
   rw[getElem?_eq_getElem h2]at this;exact Option.some.inj this
  rw[e];exact gM I hs hp (getElem_mem h1) rz rw'
 have hsz:J.toArray.size=l.length:=by rw[size_toArray];omega
 have hlk':l.length≤100000:=Zm hlk;refine call_meets PySem.F.slot_list_index ⟨_,ho,rfl⟩ PySem.F.entry_list_index (PySem.F.args_list_index_2 _ _) (PySem.SeqAt.list_indexAt a J.toArray n dd sl u (yy X.K G l dx) j (by omega) (by omega) ((at' j hjl (by omega)).trans hjt) λm hm hlt=>?_) ⟨ho,λw hw=>?_,?_⟩
 ·rw[at' m (by omega) hm];have:=hjn m hlt;simpa using this
 ·obtain⟨d,z,h1,h2,h3⟩:=lv rl r (by simpa using hw);rw[gM I hs hp h1 h2 h3];exact(om I hs 19 19 d dx z y w u _ (dN hp h1) hd h2 ry h3 ru (by show X.A.units+1+19<cLine;omega)).1
 ·exact⟨.int (j:Nat),H,I.tok _,⟨_,rfl⟩,q⟩
def ua {apos cpos:Ys}{fo fe:Z7}(hu:X.A.units+64<cLine)(hoo:PD X E o fo)(he:PD X E e fe)(hex:∀ρ c,fe ρ≠ .exc c)(hs:zQ2 X e []:=by rfl)(hbase:attributeBase o "index" X.env (eval o X.env)=eval o X.env:=by rfl)(hfew:((backTo cpos (starEach [e] X.env)).all (λx=> !x.1)&&(backToKw cpos (keywordEach [] X.env)).all (λx=>x.1.isSome)&&decide (([e].length+([]:List Keyword).length+if ([]:List Keyword).isEmpty=true then 0 else 1)<30))=true:=by rfl)(hline:(apos.endLine==cpos.line)=true:=by rfl):PD X E (.Call (.Attribute o "index" apos) [e] [] cpos) (ae fo fe m7):=by
 intro pins s σ G H ρ I hsm hro hok;have hp:=mZ (apos:=apos) (cpos:=cpos) (r:=Au X.K) PySem.F.plainAttrs_list PySem.F.slot_list_index PySem.F.type_list_index (zK hu) (dM hoo) (bQ (dM he) df hs) hbase hfew hline hs rfl;refine aV (hp pins s σ H (λv H'=>∃d G',ae fo fe m7 ρ= .ok d∧Ext G H G' H'∧Rep X.K G' d v) I ⟨G,ρ,hsm,hro,hok.fst,λd1 e1 v1 G1 H1 x1 p1=>?_⟩) λu s' hZ189=>(by obtain⟨v,H',I',r',d,G',e,x,rp⟩:=hZ189;exact⟨d,e,v,G',H',I',r',x,rp⟩);have kk:=hok.snd e1 x1.hh;have ty:∃l,d1= .lst l:=by
  cases q:fe ρ with
  |ok d2=>
   have P:=kk.snd q (Same.refl H1);unfold m7 at P;split at P
   ·exact⟨_,rfl⟩
   ·exact P.elim
  |exc c=>exact absurd q (hex ρ c)
  |bad=>rw[q]at kk;exact kk.elim
 obtain⟨l,rfl⟩:=ty;have p1':=p1;rw[rep_lst]at p1';obtain⟨a,xs,rfl,sq,rl⟩:=p1';refine⟨.inl ⟨rfl,xs,x1.gh.seq sq.sq⟩,G1,ρ,x1.gh,hro.mono x1.gg,kk.fst,λd2 e2 v2 G2 H2 x2 p2=>?_⟩;have P:=kk.snd e2 x2.hh;have eo:ae fo fe m7 ρ=m7 (.lst l) d2:=by unfold ae;rw[e1,az,e2,az]
 unfold m7 at P;dsimp only at P;by_cases hc:plL 19 l=true∧bg 19 d2=true∧aQ l.length=true
 ·rw[Yo hc]at P;cases q:zp l d2 with
  |none=>rw[q]at P;exact P.elim
  |some j=>
   have e3:m7 (.lst l) d2= .ok (.int (j:Nat)):=by unfold m7;dsimp only;rw[Yo hc,q]
   exact⟨G2,l,d2,v2,j,x2.gh,p1.mono x2.gg,rfl,p2,hc.1,hc.2.1,hc.2.2,q,.int (j:Nat),G2,eo.trans e3,x1.trans x2,rep_int.mpr rfl⟩
 ·rw[Ym hc]at P;exact P.elim
end
def t8:∀(ρ:DS) (c:Addr),pN ρ≠ .exc c:=λρ c h=>by cases h
def ja {f:Z7}{g:Z5}(hf:∀ρ c,f ρ≠ .exc c)(hg:∀ρ c,g ρ≠ .exc c):∀ρ c,pC f g ρ≠ .exc c:=λρ c h=>by
 unfold pC at h;cases q:f ρ with
 |ok d=>
  rw[q]at h;cases q2:g ρ with
  |ok d=>rw[q2]at h;cases h
  |exc e=>exact hg ρ e q2
  |bad=>rw[q2]at h;cases h
 |exc e=>exact hf ρ e q
 |bad=>rw[q]at h;cases h
def zN {μ:Zz}{f:Z7}(hf:∀ρ c,f ρ≠ .exc c):∀ρ c,bz μ f ρ≠ .exc c:=λρ c h=>hf _ c h
def r9 {f:Z5}(hf:∀ρ c,f ρ≠ .exc c):∀ρ c,cA f ρ≠ .exc c:=λρ c h=>by
 unfold cA at h;cases q:f ρ with
 |ok d=>rw[q,az]at h;split at h <;> cases h
 |exc e=>exact hf ρ e q
 |bad=>rw[q]at h;cases h
section
variable{j jr n m:Nat}{g:Zi}{fi f:Z7}{ρ:DS}{p:Zz}{t d:D}{l rows:Zy}{c:Int}
def uW (h:ρ[j]?=some (some d)):sN j ρ= .ok []:=by unfold sN;rw[h]
def nC {F:List D→Out}(hn:p.length=n)(ht:ρ[j]?=some (some t))(hp:b_ p t=some (.lst rows)):lD ρ j n p F=F rows:=by
 unfold lD;rw[Yo hn,ht];dsimp only;rw[hp]
def xA (hg:g ρ= .ok p)(hn:p.length=n)(ht:ρ[j]?=some (some t))(hp:b_ p t=some (.lst rows))(hr:rows.all qo=true):jv j jr n c g ρ= .nx ((ρ.set jr none).set j (some (bZ p t (.lst (rows.map (js c)))))):=by
 unfold jv;rw[hg,aL,nC hn ht hp];unfold zg;rw[ht];exact Yo hr
def Bv (hg:g ρ= .ok p)(hf:f ρ= .ok d)(hn:p.length=n)(ht:ρ[j]?=some (some t))(hp:b_ p t=some (.lst rows))(hr:rows.length≤100000):qW j n g f ρ= .nx (ρ.set j (some (bZ p t (.lst (rows ++ [d]))))):=by
 unfold qW;rw[hg,aL,hf,aL,nC hn ht hp];unfold yI;rw[ht];exact Yo (Zo hr)
def BI (hg:g ρ= .ok p)(hn:p.length=n)(ht:ρ[j]?=some (some t))(hp:b_ p t=some (.lst rows)):vA j n g ρ= .nx (ρ.set j (some (bZ p t (.lst rows.reverse)))):=by
 unfold vA;rw[hg,aL,nC hn ht hp];unfold Ax;rw[ht]
def Bx (hg:g ρ= .ok p)(hf:f ρ= .ok (.lst l))(hn:p.length=n)(ht:ρ[j]?=some (some t))(hp:b_ p t=some (.lst rows))(hr:rows.length+l.length≤100000):rq j n g f ρ= .nx (ρ.set j (some (bZ p t (.lst (rows ++ l))))):=by
 unfold rq;rw[hg,aL,hf,aL,nC hn ht hp];unfold xE;rw[ht];exact Yo (Zo hr)
def fG {ks:List (List bL)}{k:List bL}{kd:Zy}(ht:ρ[j]?=some (some (.dct ks l)))(hf:f ρ= .ok d)(hi:fi ρ= .ok (.tup kd))(hk:gY kd=some k)(hl:ks.length≤100000):cH j fi f ρ= .nx (ρ.set j (some (kP ks l k d))):=by
 unfold cH;rw[ht];dsimp only;rw[hf,aL,hi,aL];unfold q_;dsimp only;rw[hk];exact Yo (Zo hl)
def D4 {ks:List (List bL)}{k:List bL}{kd:Zy}(hg:g ρ= .ok p)(hn:p.length=n)(hi:fi ρ= .ok (.tup kd))(hk:gY kd=some k)(ht:ρ[j]?=some (some t))(hp:b_ p t=some (.dct ks l))(hm:cI ks k=some m):Bg j n g fi ρ= .ok (p ++ [m]):=by
 unfold Bg;rw[hg,az,hi,az,Yo hn];unfold F8;rw[ht];dsimp only;rw[hp];dsimp only;rw[hk];dsimp only;rw[hm]
end
theorem len1 {α:Type}{P:List α→Prop}(h:∀a,P [a]):∀us:List α,us.length=1→P us
 | [a],_=>h a
theorem len2 {α:Type}{P:List α→Prop}(h:∀a b,P [a,b]):∀us:List α,us.length=2→P us
 | [a,b],_=>h a b
theorem tT {α:Type}{P:List α→Prop}(h:∀a b c,P [a,b,c]):∀us:List α,us.length=3→P us
 | [a,b,c],_=>h a b c
theorem zF {α:Type}{P:List α→Prop}(h:∀a b c d,P [a,b,c,d]):∀us:List α,us.length=4→P us
 | [a,b,c,d],_=>h a b c d
theorem GB {α:Type}{P:List α→Prop}(h:∀a b c d e,P [a,b,c,d,e]):∀us:List α,us.length=5→P us
 | [a,b,c,d,e],_=>h a b c d e
section
variable{K:Z8}{f:Z2}{x y:Yr}{s:Yq}{m:Yr}{t c:Nat}
def kf (x y:Yr)(s:Yq)(m:Yr)(t c:Nat):Obj:=⟨.type "function",none,.func (W.fnOf x y (iF s) (da s) (aj s) .none .none .none (.str m t) none (.ref c) .none),#[]⟩
inductive FK (K:Z8)(f:Z2)(x y:Yr)(s:Yq):Prop
 |mk (m:Yr) (t c:Nat) (l:K.lookup f=some (kf x y s m t c)) (d:W.codeIn K (.ref c) y=true)
inductive FT (K:Z8)(x:Yr)(s:Yq):Prop
 |mk (f:Z2) (a:W.nsIn K mainGlobals x=some (some (.ref f))) (g:FK K f x x s)
inductive FM (K:Z8)(C:Z2)(x y:Yr)(s:Yq):Prop
 |mk (f:Z2) (a:W.findIn K (.ref C) x=some (some (.ref f))) (g:FK K f x y s)
def rM (l:K.lookup f=some (kf x y s m t c)):W.keepIn K (.ref f)=true:=by
 unfold W.keepIn;dsimp only;rw[l];rfl
theorem FK.kp:FK K f x y s→W.keepIn K (.ref f)=true
 |⟨_,_,_,l,_⟩=>rM l
theorem FK.fn:FK K f x y s→W.isFn K (.ref f)=true
 |⟨_,_,_,l,_⟩=>by
  unfold W.isFn W.typeIn;dsimp only;rw[l];rfl
theorem FK.mk1:FK K f x y s→∃fd,Fun K x y s f fd
 |⟨_,_,_,l,d⟩=>⟨_,zj l d (rM l)⟩
def lM {h:Y6}{mg:Z4}{ps:Zw}(X:K.In h)(G:h.Ns mainGlobals mg)(g:FT K x s)(b:∀(kV doc pm:Zc) (an:Option Addr) (cdv ct:Zc) (us:List Value),us.length=ps.length→bindArgs (W.fnOf x x (iF s) (da s) (aj s) .none kV doc pm an cdv ct) ⟨us,[]⟩=pure (ps.zip us)):Sta K mg x s ps:=by
 obtain⟨f,a,g⟩:=g;obtain⟨fd,F⟩:=g.mk1;exact⟨f,fd,F,F.binds b,W.mg_of X G a,g.kp⟩
end
end L2
namespace L2
open PySem
def RawD (h:Y6)(d:Z2)(es:Array DictEntry)(ep:Nat):Prop:=∃o,h.get? d=some o∧o.ExactDict∧o.data= .dict es ep
def RawD.ty {s:Z3}{es:Array DictEntry}{ep:Nat}(r:RawD s.heap d es ep):s.TypeIs (.ref d) "dict" :=let ⟨o,e,x,_⟩:=r;⟨o,e,x.1⟩
section
variable{P:Zv}{w:Zk}{A:Zg}{E:Z6}{s:Z3}{d it:Z2}{es:Array DictEntry}{ep i:Nat}
def um {Q:Z6}(hd:(d==sysModules)=false)(r:RawD s.heap d es ep)(q:Q (.ref s.heap.objs.size) {s with heap:=s.heap.push ⟨.type "dict_keyiterator",none,.fields #[.ref d,.int 0 0,.int es.size 0,.int ep 0],#[]⟩}):wpAny (model P w) A (pyIter (.ref d)) Q E s:=by
 have ty:=r.ty;obtain⟨o,e,x,dt⟩:=r;refine wpAny_pyIter_slot ty PySem.F.slot_dict_iter (wpAny_call_entry PySem.F.slot_dict_iter ty PySem.F.entry_dict_iter ?_ (PySem.F.args_dict_iter_1 _));unfold Builtin.«dict.__iter__» Builtin.Dict.dictSlotNone;refine Zx (Zx (wpAny_notOrdered_dict ty (by show wpAny _ _ (pure (Value.ref d)) _ _ s;refine Zq ?_;show wpAny _ _ (Builtin.Dict.showsAll d >>= _) _ _ s;unfold Builtin.Dict.showsAll;rw[Ym (by rw[hd];exact Bool.false_ne_true)];refine Zx (Zq ?_);refine Zx (wpAny_dictEntries e dt ?_);refine Zx (wpAny_dictEpoch e dt ?_);refine Zx (wpAny_newObj_type (Zq ⟨_,rfl,"dict_keyiterator",_,⟨_,Heap.get?_push_size _ rfl,rfl⟩,PySem.F.slot_dict_keyiterator_next.lookup,?_⟩));simpa [rawInt] using q)))
def uo {Q:Y0}(hit:s.heap.IsKeyIter it d i es.size ep)(r:RawD s.heap d es ep)(hi:i<es.size)(q:∀h',h'.IsKeyIter it d (i+1) es.size ep→Heap.SameBut it s.heap h'→Q (some es[i].key) {s with heap:=h'}):wpAny (model P w) A (pyNext (.ref it)) Q E s:=by
 have it':=hit;obtain⟨io,e1,c1,d1⟩:=it';obtain⟨o,e,x,dt⟩:=r;unfold pyNext;have own:Builtin.Dict_items.ownsTuple "dict_keyiterator" =false:=by decide
 refine Zx (wpAny_attempt (wpAny_callSpecial?_slot (name:=Str.ofString "__next__") hit.typeIs PySem.F.slot_dict_keyiterator_next (wpAny_call_entry PySem.F.slot_dict_keyiterator_next hit.typeIs PySem.F.entry_dict_keyiterator_next ?_ (PySem.F.args_dict_keyiterator_next_1 _))));refine Zx (Zq (Zx (Zx ?_)))
 first|refine Zx (wpAny_typeNameOfWhole_keyiter hit.typeIs (Zq (Zx (wpAny_fieldsOf e1 d1 ?_))))|refine Zx (wpAny_typeNameOf_keyiter hit.typeIs (Zq (Zx (wpAny_fieldsOf e1 d1 ?_))))
 simp only[own,false_eq_true,if_false];show wpAny _ _ (if (Value.ref d==Value.none)=true then _ else _) _ _ s
 rw[Ym (show ¬((Value.ref d==Value.none)=true) from Bool.false_ne_true)];refine Zx (Zq (Zx (wpAny_dictEntries e dt ?_)));rw[Ym (by simp)];refine Zx (Zq (Zx (wpAny_dictEpoch e dt ?_)));rw[Ym (by simp)];refine Zq ?_;simp only[show ¬((i:Int)<0) from by omega,if_false,toNat_natCast,getElem?_eq_getElem hi];refine Zx ?_
 first|refine Zx (wpAny_typeNameOfWhole_keyiter hit.typeIs (Zq (Zx (wpAny_isOneOf_keyiter hit.typeIs ?_))))|refine Zx (wpAny_typeNameOf_keyiter hit.typeIs (Zq (Zx (wpAny_isOneOf_keyiter hit.typeIs ?_))))
 show wpAny _ _ (setField (.ref it) 1 (rawInt ((i:Int)+1)) >>= _) _ _ s;refine Zx (wpAny_setField e1 d1 (by simp) ?_);have nx:(s.heap.update it (Obj.mapFields (·.setIfInBounds 1 (rawInt ((i:Int)+1))))).IsKeyIter it d (i+1) es.size ep:=⟨_,Heap.get?_update_self _ e1 (Obj.isFreed_of_fields (Obj.data_mapFields d1 _)),(Obj.cls_mapFields ..).trans c1,by rw[Obj.data_mapFields d1];simp[rawInt]⟩;refine Zx (wpAny_holding (Zx (wpAny_isOneOf_keyiter (s:={s with heap:=s.heap.update it (Obj.mapFields (·.setIfInBounds 1 (rawInt ((i:Int)+1))))}) nx.typeIs ?_)))
 show wpAny _ _ (pure es[i].key) _ _ _;exact Zq (Zq ⟨_,rfl,Zq (q _ nx (Heap.SameBut.update ..))⟩)
def wZ {Q:Y0}(hh:A.handled=none)(hit:s.heap.IsKeyIter it d i es.size ep)(r:RawD s.heap d es ep)(hi:es.size≤i)(q:∀h',Heap.ExtBut it s.heap h'→Q none {s with heap:=h'}):wpAny (model P w) A (pyNext (.ref it)) Q E s:=by
 have it':=hit;obtain⟨io,e1,c1,d1⟩:=it';obtain⟨o,e,x,dt⟩:=r;unfold pyNext;have own:Builtin.Dict_items.ownsTuple "dict_keyiterator" =false:=by decide
 refine Zx (wpAny_attempt (wpAny_callSpecial?_slot (name:=Str.ofString "__next__") hit.typeIs PySem.F.slot_dict_keyiterator_next (wpAny_call_entry PySem.F.slot_dict_keyiterator_next hit.typeIs PySem.F.entry_dict_keyiterator_next ?_ (PySem.F.args_dict_keyiterator_next_1 _))));refine Zx (Zq (Zx (Zx ?_)))
 first|refine Zx (wpAny_typeNameOfWhole_keyiter hit.typeIs (Zq (Zx (wpAny_fieldsOf e1 d1 ?_))))|refine Zx (wpAny_typeNameOf_keyiter hit.typeIs (Zq (Zx (wpAny_fieldsOf e1 d1 ?_))))
 simp only[own,false_eq_true,if_false];show wpAny _ _ (if (Value.ref d==Value.none)=true then _ else _) _ _ s
 rw[Ym (show ¬((Value.ref d==Value.none)=true) from Bool.false_ne_true)];refine Zx (Zq (Zx (wpAny_dictEntries e dt ?_)));rw[Ym (by simp)];refine Zx (Zq (Zx (wpAny_dictEpoch e dt ?_)));rw[Ym (by simp)];refine Zq ?_;simp only[show ¬((i:Int)<0) from by omega,if_false,toNat_natCast,Array.getElem?_eq_none hi];refine Zx ?_
 first|refine Zx (wpAny_typeNameOfWhole_keyiter hit.typeIs (Zq ?_));show wpAny _ _ (setField (.ref it) 0 .none >>= _) _ _ s|refine Zx (wpAny_typeNameOf_keyiter hit.typeIs (Zq ?_));show wpAny _ _ (setField (.ref it) 0 .none >>= _) _ _ s
 refine Zx (wpAny_setField e1 d1 (by simp) ?_);show wpAny _ _ (newExc (.type "StopIteration") [] >>= _) _ _ _;refine Zx ?_;simp only[newExc,newTuple];refine Zx (wpAny_newObj_type ?_ (by size_fits));refine Zx (m:=firstArgMember _ _) (wpAny_of_eq (a:=Value.none) (by first|rfl|(simp only[firstArgMember];rfl)) ?_)
 refine wpAny_newObj_type ?_ (by size_fits);simp only[raiseNew];refine Zx (wpAny_handled ?_);rw[show A.in1.handled=none from hh];refine Zx (Zq (wpAny_throw ?_));refine Zx (wpAny_isInstance (T:= "StopIteration") (b:=true) ⟨_,Heap.get?_push_size _ rfl,rfl⟩ isSubtype_stop ?_);exact Zq (q _ (((Heap.SameBut.update ..).extBut.push _).push _))
def yi {Q:Z6}(hv:s.heap.IsValuesView v d)(r:RawD s.heap d es ep)(q:Q (.ref s.heap.objs.size) {s with heap:=s.heap.push ⟨.type "dict_valueiterator",none,.fields #[.ref d,.int 0 0,.int es.size 0,.int ep 0],#[]⟩}):wpAny (model P w) A (pyIter (.ref v)) Q E s:=by
 have hv':=hv;obtain⟨vo,e1,c1,d1⟩:=hv';obtain⟨o,e,x,dt⟩:=r;refine wpAny_pyIter_slot hv.typeIs PySem.F.slot_dict_values_iter (wpAny_call_entry PySem.F.slot_dict_values_iter hv.typeIs PySem.F.entry_dict_values_iter ?_ (PySem.F.args_dict_values_iter_1 _));unfold Builtin.«dict_values.__iter__»;refine Zx (Zq ?_);refine Zx ?_;unfold Builtin.Dict_items.dictOf;refine Zx (wpAny_field e1 d1 (x:=.ref d) rfl (Zq ?_));refine Zx ?_;unfold Builtin.Dict_items.newIterator;refine Zx (wpAny_dictEntries e dt ?_);refine Zx (wpAny_dictEpoch e dt ?_);have own:Builtin.Dict_items.ownsTuple "dict_valueiterator" =false:=by decide
 simp only[own,false_eq_true,if_false];refine wpAny_newObj_type (Zq ⟨_,rfl,"dict_valueiterator",_,⟨_,Heap.get?_push_size _ rfl,rfl⟩,PySem.F.slot_dict_valueiterator_next.lookup,?_⟩);simpa [rawInt] using q
def yj {Q:Y0}(hit:s.heap.IsValIter it d i es.size ep)(r:RawD s.heap d es ep)(hi:i<es.size)(q:∀h',h'.IsValIter it d (i+1) es.size ep→Heap.SameBut it s.heap h'→Q (some es[i].val) {s with heap:=h'}):wpAny (model P w) A (pyNext (.ref it)) Q E s:=by
 have it':=hit;obtain⟨io,e1,c1,d1⟩:=it';obtain⟨o,e,x,dt⟩:=r;unfold pyNext;have own:Builtin.Dict_items.ownsTuple "dict_valueiterator" =false:=by decide
 refine Zx (wpAny_attempt (wpAny_callSpecial?_slot (name:=Str.ofString "__next__") hit.typeIs PySem.F.slot_dict_valueiterator_next (wpAny_call_entry PySem.F.slot_dict_valueiterator_next hit.typeIs PySem.F.entry_dict_valueiterator_next ?_ (PySem.F.args_dict_valueiterator_next_1 _))));refine Zx (Zq (Zx (Zx ?_)))
 first|refine Zx (wpAny_typeNameOfWhole_valiter hit.typeIs (Zq (Zx (wpAny_fieldsOf e1 d1 ?_))))|refine Zx (wpAny_typeNameOf_valiter hit.typeIs (Zq (Zx (wpAny_fieldsOf e1 d1 ?_))))
 simp only[own,false_eq_true,if_false];show wpAny _ _ (if (Value.ref d==Value.none)=true then _ else _) _ _ s
 rw[Ym (show ¬((Value.ref d==Value.none)=true) from Bool.false_ne_true)];refine Zx (Zq (Zx (wpAny_dictEntries e dt ?_)));rw[Ym (by simp)];refine Zx (Zq (Zx (wpAny_dictEpoch e dt ?_)));rw[Ym (by simp)];refine Zq ?_;simp only[show ¬((i:Int)<0) from by omega,if_false,toNat_natCast,getElem?_eq_getElem hi];refine Zx ?_
 first|refine Zx (wpAny_typeNameOfWhole_valiter hit.typeIs (Zq (Zx (wpAny_isOneOf_valiter hit.typeIs ?_))))|refine Zx (wpAny_typeNameOf_valiter hit.typeIs (Zq (Zx (wpAny_isOneOf_valiter hit.typeIs ?_))))
 show wpAny _ _ (setField (.ref it) 1 (rawInt ((i:Int)+1)) >>= _) _ _ s;refine Zx (wpAny_setField e1 d1 (by simp) ?_);have nx:(s.heap.update it (Obj.mapFields (·.setIfInBounds 1 (rawInt ((i:Int)+1))))).IsValIter it d (i+1) es.size ep:=⟨_,Heap.get?_update_self _ e1 (Obj.isFreed_of_fields (Obj.data_mapFields d1 _)),(Obj.cls_mapFields ..).trans c1,by rw[Obj.data_mapFields d1];simp[rawInt]⟩;refine Zx (wpAny_holding (Zx (wpAny_isOneOf_valiter (s:={s with heap:=s.heap.update it (Obj.mapFields (·.setIfInBounds 1 (rawInt ((i:Int)+1))))}) nx.typeIs (Zx (wpAny_isOneOf_valiter (s:={s with heap:=s.heap.update it (Obj.mapFields (·.setIfInBounds 1 (rawInt ((i:Int)+1))))}) nx.typeIs ?_)))))
 show wpAny _ _ (pure es[i].val) _ _ _;exact Zq (Zq ⟨_,rfl,Zq (q _ nx (Heap.SameBut.update ..))⟩)
def Av {Q:Y0}(hh:A.handled=none)(hit:s.heap.IsValIter it d i es.size ep)(r:RawD s.heap d es ep)(hi:es.size≤i)(q:∀h',Heap.ExtBut it s.heap h'→Q none {s with heap:=h'}):wpAny (model P w) A (pyNext (.ref it)) Q E s:=by
 have it':=hit;obtain⟨io,e1,c1,d1⟩:=it';obtain⟨o,e,x,dt⟩:=r;unfold pyNext;have own:Builtin.Dict_items.ownsTuple "dict_valueiterator" =false:=by decide
 refine Zx (wpAny_attempt (wpAny_callSpecial?_slot (name:=Str.ofString "__next__") hit.typeIs PySem.F.slot_dict_valueiterator_next (wpAny_call_entry PySem.F.slot_dict_valueiterator_next hit.typeIs PySem.F.entry_dict_valueiterator_next ?_ (PySem.F.args_dict_valueiterator_next_1 _))));refine Zx (Zq (Zx (Zx ?_)))
 first|refine Zx (wpAny_typeNameOfWhole_valiter hit.typeIs (Zq (Zx (wpAny_fieldsOf e1 d1 ?_))))|refine Zx (wpAny_typeNameOf_valiter hit.typeIs (Zq (Zx (wpAny_fieldsOf e1 d1 ?_))))
 simp only[own,false_eq_true,if_false];show wpAny _ _ (if (Value.ref d==Value.none)=true then _ else _) _ _ s
 rw[Ym (show ¬((Value.ref d==Value.none)=true) from Bool.false_ne_true)];refine Zx (Zq (Zx (wpAny_dictEntries e dt ?_)));rw[Ym (by simp)];refine Zx (Zq (Zx (wpAny_dictEpoch e dt ?_)));rw[Ym (by simp)];refine Zq ?_;simp only[show ¬((i:Int)<0) from by omega,if_false,toNat_natCast,Array.getElem?_eq_none hi];refine Zx ?_
 first|refine Zx (wpAny_typeNameOfWhole_valiter hit.typeIs (Zq ?_));show wpAny _ _ (setField (.ref it) 0 .none >>= _) _ _ s|refine Zx (wpAny_typeNameOf_valiter hit.typeIs (Zq ?_));show wpAny _ _ (setField (.ref it) 0 .none >>= _) _ _ s
 refine Zx (wpAny_setField e1 d1 (by simp) ?_);show wpAny _ _ (newExc (.type "StopIteration") [] >>= _) _ _ _;refine Zx ?_;simp only[newExc,newTuple];refine Zx (wpAny_newObj_type ?_ (by size_fits));refine Zx (m:=firstArgMember _ _) (wpAny_of_eq (a:=Value.none) (by first|rfl|(simp only[firstArgMember];rfl)) ?_)
 refine wpAny_newObj_type ?_ (by size_fits);simp only[raiseNew];refine Zx (wpAny_handled ?_);rw[show A.in1.handled=none from hh];refine Zx (Zq (wpAny_throw ?_));refine Zx (wpAny_isInstance (T:= "StopIteration") (b:=true) ⟨_,Heap.get?_push_size _ rfl,rfl⟩ isSubtype_stop ?_);exact Zq (q _ (((Heap.SameBut.update ..).extBut.push _).push _))
end
section
variable{P:Zv}{w:Zk}{A:Zg}{E:Z6}{s:Z3}{d:Z2}{es:Array DictEntry}{ep:Nat}
def CK {Q:Z6}(hd:(d==sysModules)=false)(r:RawD s.heap d es ep)(hf:(es.size:Int)<2 ^ 63)(q:∀t t',Q (.int es.size t) {s with toks:=t'}):wpAny (model P w) A (call (.builtin "len") [.ref d]) Q E s:=by
 have ty:=r.ty;obtain⟨o,e,x,dt⟩:=r;refine Calls.call_function_entry kind_len plain_len entry_len (args_len1 _) ?_;unfold Builtin.«len»;refine Zx (m:=oneArg "len" _) (Zq ?_);refine Zx (m:=callSpecial? (.ref d) (Str.ofString "__len__")) (wpAny_callSpecial?_slot (name:=Str.ofString "__len__") ty PySem.F.slot_dict_len (wpAny_call_entry PySem.F.slot_dict_len ty PySem.F.entry_dict_len ?_ (PySem.F.args_dict_len_1 _)));unfold Builtin.«dict.__len__»;refine Zx ?_;unfold Builtin.Dict.dictSlotNone;refine Zx (wpAny_notOrdered_dict ty ?_);show wpAny _ _ (pure (Value.ref d)) _ _ s;refine Zq ?_;show wpAny _ _ (dictSize d >>= _) _ _ s;unfold dictSize;refine Zx (Zx (wpAny_dictEntries e dt (Zq ?_)));show wpAny _ _ (Builtin.Dict.pendingCount d >>= _) _ _ s;refine Zx (wpAny_pendingCount_other hd ?_);refine wpAny_ret_mkInt ?_;rw[show ((es.size:Int)+((0:Nat):Int))=(es.size:Int) from by simp];refine Zx (wpAny_holding (Zq ?_));refine Zx (wpAny_letGo ?_);show wpAny _ _ (if ((es.size:Nat):Int)<0 then _ else _) _ _ _;rw[Ym (by omega)]
 show wpAny _ _ (if ((es.size:Nat):Int) ≥ 2 ^ 63 then _ else _) _ _ _;rw[Ym (by omega)];exact Zx (wpAny_mkInt (Zq ⟨_,rfl,q _ _⟩))
end
end L2
namespace L2
open PySem PySem.Spec PyProof.Rows
def Ij (a:Z2)(o:Obj)(kvs:List (List bL×V)):It:=
 ⟨λi H=>H a=some (.frz o (.dT kvs))∧i<kvs.length,λi H x H'=>H'=H∧∃b k,(kvs.map (·.1))[i]?=some k∧x= .ref b∧H b=some (.tup (k.map kV)),λi H=>H a=some (.frz o (.dT kvs))∧kvs.length≤i⟩
theorem Paired.at2 {α β:Type}{R:α→β→Prop}:∀{l:List α} {m:List β},Paired R l m→l.length=m.length∧∀(i:Nat) (h1:i<l.length) (h2:i<m.length),R l[i] m[i]
 |_,_,.nil=>⟨rfl,λi h=>by cases h⟩
 |_,_,.cons r t=>by
  obtain⟨a,b⟩:=Paired.at2 t;refine⟨by rw[length_cons,length_cons,a],λi h1 h2=>?_⟩;cases i with
  |zero=>exact r
  |succ i=>exact b i (by simpa using h1) (by simpa using h2)
def rB {X:Cx}{pins:Z9}{σ:St}{H:Hp}{s:Z3}{o:Obj}{kvs:List (List bL×V)}(I:Inv X pins σ H s)(h:H a=some (.frz o (.dT kvs))) :
  ∃es ep,o.data= .dict es ep∧RawD s.heap a es ep∧es.size=kvs.length∧(a==sysModules)=false∧kvs.length≤sizeLine∧∀(i:Nat) (h1:i<kvs.length) (h2:i<es.size),∃b,es[i].key= .ref b∧H b=some (.tup (kvs[i].1.map kV)):=by
 obtain⟨ho,z,hd,xs,pr,o',es,ep,ho',ex,dt,he,nd⟩:=(show ObjOk X.prog X.w H s.heap a (.frz o (.dT kvs)) from I.hok a _ h);rw[ho]at ho';cases ho';obtain⟨hl,at'⟩:=Paired.at2 pr;have hsz:es.size=kvs.length:=by rw[←length_toList,he,length_map,hl]
 refine⟨es,ep,dt,⟨o,ho,ex,dt⟩,hsz,hd,z,λi h1 h2=>?_⟩;have h3:i<xs.length:=by omega
 have e1:es[i]=entryOfKey (tupleKind (bP X.prog X.w)) xs[i]:=by
  have:es.toList[i]?=some (entryOfKey (tupleKind (bP X.prog X.w)) xs[i]):=by rw[he,getElem?_map,gd h3];rfl
  rw[getElem?_toList,getElem?_eq_getElem h2]at this;exact Option.some.inj this
 exact⟨xs[i].2.1,by rw[e1];rfl,(at' i h1 h3).2.1⟩
def yq {P:Zv}{w:Zk}{K:Z8}(a it:Z2)(o:Obj)(kvs:List (List bL×V)):Turn P w K tg (Ij a o kvs) [it] it (λi h=>∃es ep,o.data= .dict es ep∧h.IsKeyIter it a i es.size ep) where
 mem:=by simp
 obj:=λi h ⟨es,ep,_,st⟩ b x=>by
  have e:b=it:=by simpa using x
  subst e;obtain⟨o,e,c,d⟩:=st;exact⟨o,e,λv z=>by rw[d]at z;cases z⟩
 keep:=λi h h' ⟨es,ep,e,o,e1,c,d⟩ k=>⟨es,ep,e,o,k it (by simp) o e1,c,d⟩
 item:=by
  rintro X hP hw hK hc i pins s σ H E I hf ⟨es,ep,ed,st⟩ ⟨hg,hi⟩;subst hP hw hK;obtain⟨es',ep',dt,rw',hsz,hd,hz,at'⟩:=rB I hg;rw[ed]at dt;cases dt;obtain⟨f0,f1,f2,f3,f4,f5⟩:=hf it (by simp);have hi':i<es.size:=by omega
  obtain⟨b,x,hH⟩:=at' i hi hi';refine uo st rw' hi' λh' st' sb=>?_;have I1:Inv X pins σ H {s with heap:=h'}:=I.turned (t':=s.toks) (λb o x e=>(sb.2 b x).trans e) f0 f1 f3 f4 f5
  obtain⟨o,e,c,d⟩:=id st';rw[x];exact⟨_,rfl,tL (s:={s with heap:=h'}) e c d (by decide) ⟨.ref b,H,I1,rfl,⟨rfl,b,kvs[i].1,by rw[getElem?_map,gd hi];rfl,rfl,hH⟩,⟨es,ep,ed,st'⟩,λb x=>(hf b x).1⟩⟩
 done:=by
  rintro X hP hw hK hc i pins s σ H E I hf ⟨es,ep,ed,st⟩ ⟨hg,hi⟩;subst hP hw hK;obtain⟨es',ep',dt,rw',hsz,hd,hz,at'⟩:=rB I hg;rw[ed]at dt;cases dt;obtain⟨f0,f1,f2,f3,f4,f5⟩:=hf it (by simp);exact wZ (I.ok.hd hc) st rw' (by omega) λh' eb=>⟨rfl,I.turned (t':=s.toks) (λb o x e=>eb b o x e) f0 f1 f3 f4 f5⟩
 self:=λ_ _ _ _ _ ⟨es,ep,_,st⟩ h=>wpAny_pyIter_keyiter st h
def kD:bL→D
 |.inl i=>.int i
 |.inr x=>.str x
def pQ (k:List bL):D:=.tup (k.map kD)
theorem ph {K:Z8}{G:Hp}:∀(k:List bL),RepL K G (k.map kD) (k.map kV)
 | []=>.nil
 |k::r=>.cons (by cases k with|inl i=>exact rep_int.mpr rfl|inr x=>exact rep_str.mpr rfl) (ph r)
def AN {K:Z8}{G:Hp}{o:Obj}{kvs:List (List bL×V)}(h:G a=some (.frz o (.dT kvs))):A5 K (Ij a o kvs) ((kvs.map (·.1)).map pQ) G:=by
 intro G2 H2 g1 g2 i;refine⟨λd hd=>?_,λhl=>⟨g2 _ _ (g1 _ _ h),by simpa using hl⟩⟩;rw[getElem?_map]at hd;cases q:(kvs.map (·.1))[i]? with
 |none=>rw[q]at hd;cases hd
 |some k=>
  rw[q]at hd;cases hd;have hi:i<kvs.length:=by have:=(fR q).1;simpa using this
  refine⟨⟨g2 _ _ (g1 _ _ h),hi⟩,λx H' hZ190=>?_⟩;obtain⟨e,b,k',hk,hx,hH⟩:=hZ190;subst e hx;rw[q]at hk;cases hk;have gg:Same G2 (bc G2 b (.tup (k.map kV))):=λc u e=>by
   by_cases hc:c=b
   ·subst hc;have:=g2 _ _ e;rw[hH]at this;cases this;exact au
   ·rw[am hc];exact e
  refine⟨bc G2 b (.tup (k.map kV)),⟨.refl _,gg,λc u e=>?_,λc u e=>?_⟩,rep_tup.mpr ⟨b,_,rfl,.of au,ph k⟩⟩
  ·by_cases hc:c=b
   ·subst hc;rw[au]at e;rw[←e];exact hH
   ·rw[am hc]at e;exact g2 c u e
  ·by_cases hc:c=b
   ·subst hc;rw[au]at e;cases e;exact .inr (.inr ⟨k,rfl⟩)
   ·rw[am hc]at e;exact .inl e
def qu:D→Res (List D)
 |.fdc ks _=>.ok (ks.map pQ)
 |_=>.bad
section
variable{X:Cx}{E:XK}{μ:Zz}{n:Nat}{tg:Expr}
def uc {f:Z7}(h:PD X E e f):PI X tg e (tDI X.K E (λρ=>(f ρ).bind qu)):=by
 intro pins s σ H R I hZ34;obtain⟨G,ρ,hs,hro,ho,k⟩:=hZ34;refine aV (dM h pins s σ H (λv H1=>∃a o N G1,v= .ref a∧Ext G H G1 H1∧G1 a=some (.frz o (.dT N))∧((f ρ).bind qu)= .ok ((N.map (·.1)).map pQ)) I ⟨G,ρ,hs,hro,ho.fst,λd e v G1 H1 x1 p1=>?_⟩) λv s1 hZ191=>?_
 ·have kk:=ho.snd e x1.hh;cases d with
  |fdc ks l=>
   rw[rep_fdc]at p1;obtain⟨a,o,N,rfl,ga,hk,rl⟩:=p1;exact⟨a,o,N,G1,rfl,x1,ga,by rw[e,az,←hk];rfl⟩
  |_=>exact kk.elim
 ·obtain⟨x,H1,I1,r1,a,o,N,G1,ex,x1,ga,ek⟩:=hZ191;subst ex;cases r1;obtain⟨es,ep,dt,rw',hsz,hd,hz,at'⟩:=rB I1 (x1.gh _ _ ga);refine um hd rw' ?_;exact⟨s1.heap.objs.size,[s1.heap.objs.size],_,_,H1,rfl,I1.kept (t':=s1.toks) λb o e=>Heap.get?_push_of_some _ e,yq a _ o N,⟨es,ep,dt,_,Heap.get?_push_size _ rfl,rfl,rfl⟩,λb hb=>by
   have e:b=s1.heap.objs.size:=by simpa using hb
   subst e;exact I1.fpOk (le_refl _) (I1.hok.fresh (le_refl _)),k _ ek _ G1 H1 x1 (AN ga)⟩
def rY:List D→Res D
 | [.dct ks _]=>.ok (.int ks.length)
 | [.fdc ks _]=>.ok (.int ks.length)
 |_=>.bad
def xj:eJ X (.builtin "len") (λxs H Q=>∃a kvs,xs=[V.ref a]∧Rd H a (.dT kvs)∧Q (.int kvs.length) H):=by
 intro pins s σ H xs us Q I r h;obtain⟨a,kvs,rfl,ha,q⟩:=h;obtain⟨u,rfl,ru⟩:=jL r;cases ru;obtain⟨z,hd,xs,pr,o,es,ep,ho,ex,dt,he,nd⟩:=pe I.hok ha;obtain⟨hl,_⟩:=Paired.at2 pr;have hsz:es.size=kvs.length:=by rw[←length_toList,he,length_map,hl]
 have hz:=sizeLine_eq;exact CK hd ⟨o,ho,ex,dt⟩ (by omega) λt t'=>⟨.int kvs.length,H,I.tok t',⟨t,by rw[hsz]⟩,q⟩
def Bo {K:Z8}:A_ K E (λxs H Q=>∃a kvs,xs=[V.ref a]∧Rd H a (.dT kvs)∧Q (.int kvs.length) H) rY:=by
 intro G H vs ds Q hs rl ok k;unfold rY at ok k;split at ok
 ·obtain⟨v,r,rfl,rx,r0⟩:=rl.inv;rw[r0.inv0];rw[rep_dct]at rx;obtain⟨a,kvs,rfl,rd,hk,_⟩:=rx;subst hk;exact⟨a,kvs,rfl,hs.rd rd,by have:=k _ _ G H rfl (.refl hs) (rep_int.mpr rfl);simpa using this⟩
 ·obtain⟨v,r,rfl,rx,r0⟩:=rl.inv;rw[r0.inv0];rw[rep_fdc]at rx;obtain⟨a,o,kvs,rfl,rd,hk,_⟩:=rx;subst hk;exact⟨a,kvs,rfl,hs.rd (.inr ⟨o,rd⟩),by have:=k _ _ G H rfl (.refl hs) (rep_int.mpr rfl);simpa using this⟩
 ·exact ok.elim
def wF {f:Z7}(hm:X.mg "len" =none)(h:PD X E e f)(hg:Gl X "len" :=by rfl)(he:zQ2 X e []:=by rfl):PD X E (.Call (.Name "len" p) [e] [] pos) (λρ=>(f ρ).bind λa=>rY [a]):=
 wB ▸ jD (X:=X) (E:=E) (p:=p) (pos:=pos) xj Bo hg hm PySem.boot_len (aa h af he) (by decide) (by decide) he rfl
def xH:D→Res D
 |.dct ks l=>.ok (.fdc ks l)
 |_=>.bad
def Inv.frz {pins:Z9}{σ:St}{H:Hp}{s:Z3}{o:Obj}{kvs:List (List bL×V)}(I:Inv X pins σ H s)(h:H a=some (.dT kvs))(ho:s.heap.get? a=some o):Inv X pins σ (bc H a (.frz o (.dT kvs))) s:=by
 have ne:∀{b:Z2} {u:HO},H b=some u→u≠ .dT kvs→b≠a:=λe hu z=>by subst z;rw[h]at e;cases e;exact hu rfl
 refine I.un (t':=s.toks) ⟨λb u e _ _ _=>e,λb u e _ _ _=>⟨u.slots,e⟩,λb u _ n _=>?_,λb u e _=>⟨u,e⟩,λb xs e=>?_,λb u v e=>?_,λb ps e=>?_⟩ λb u e=>?_
 ·rw[am (λz=>by subst z;rw[h]at n;cases n)];exact n
 ·rw[am (ne e (λz=>by cases z))];exact e
 ·rw[am (ne e (λz=>by cases z))];exact e
 ·exact⟨#[],by rw[am (ne e (λz=>by cases z)),e];simp⟩
 ·have st:∀{c:Z2} {v:HO},ObjOk X.prog X.w H s.heap c v→ObjOk X.prog X.w (bc H a (.frz o (.dT kvs))) s.heap c v:=λx=>x.stay (λ_ _ _ e=>e) (λb e=>by rw[am (ne e (λz=>by cases z))];exact e) λb xs e=>by rw[am (ne e (λz=>by cases z))];exact e
  by_cases hb:b=a
  ·subst hb;rw[au]at e;cases e;exact⟨ho,st (I.hok _ _ h)⟩
  ·rw[am hb]at e;exact st (I.hok b u e)
def PN.pdF {f:Z7}(h:PN X E (n+1) e f):PD X E e (λρ=>(f ρ).bind xH):=by
 intro pins s σ G H ρ I hs hr ho;refine aV (h pins s σ G H ρ I hs hr ho.fst) λu s' hZ192=>?_;obtain⟨d,e,v,G',H',S,I',rv,x,o,w⟩:=hZ192;have kk:=ho.snd e x.hh;cases d with
 |dct ks l=>
  obtain⟨a,N,T,rfl,ha,hk,rfl,os⟩:=o;obtain⟨_,_,_,_,ob,_,_,hob,_⟩:=(show ObjOk X.prog X.w H' s'.heap a (.dT N) from I'.hok a _ ha);obtain⟨haT,ndT⟩:=nodup_cons.mp w.1;have wa:=w.2 a (mem_cons_self ..);have wT:∀b∈T,H b=none∧G' b=none:=λb hb=>w.2 b (dk hb);have dec:∀b,Decidable (b∈T):=λb=>Classical.propDecidable _;have g3:∀b,(λb=>if b=a then some (HO.frz ob (.dT N)) else if b∈T then H' b else G' b:Hp) b=if b=a then some (HO.frz ob (.dT N)) else if b∈T then H' b else G' b:=λ_=>rfl
  generalize hG3:(λb=>if b=a then some (HO.frz ob (.dT N)) else if b∈T then H' b else G' b:Hp)=G3 at g3
  have ga:G3 a=some (.frz ob (.dT N)):=by rw[g3,Yo rfl]
  have gT:∀b∈T,G3 b=H' b:=λb hb=>by rw[g3,Ym (λ(z:b=a)=>haT (z ▸ hb)),Yo hb]
  have gO:∀b,b≠a→b∉T→G3 b=G' b:=λb h1 h2=>by rw[g3,Ym h1,Ym h2]
  have sg:Same G' G3:=λb u e=>by
   rw[gO b (λz=>by subst z;rw[wa.2]at e;cases e) (λz=>by rw[(wT b z).2]at e;cases e)];exact e
  refine⟨.fdc ks l,aq e rfl,.ref a,G3,bc H' a (.frz ob (.dT N)),I'.frz ha hob,rv,⟨λb u e=>?_,x.gg.trans sg,λb u e=>?_,λb u e=>?_⟩,rep_fdc.mpr ⟨a,ob,N,rfl,ga,hk,os.rep λd v A hA ow=>ow.rep sg λb hb u e=>by rw[gT b (hA b hb)];exact e⟩⟩
  ·rw[am (λz=>by subst z;rw[wa.1]at e;cases e)];exact x.hh b u e
  ·by_cases h1:b=a
   ·subst h1;rw[ga]at e;rw[au];exact e
   ·rw[am h1];by_cases h2:b∈T
    ·rw[gT b h2]at e;exact e
    ·rw[gO b h1 h2]at e;exact x.gh b u e
  ·by_cases h1:b=a
   ·subst h1;exact .inr (.inl wa.1)
   ·by_cases h2:b∈T
    ·exact .inr (.inl (wT b h2).1)
    ·rw[gO b h1 h2]at e;exact x.nw b u e
 |_=>exact kk.elim
def AO (ns:Z1):List Int:=ns.mergeSort (λa b=>decide (a≤b))
def mH (ns:Z1):(AO ns).Perm ns:=List.mergeSort_perm ..
def uy (ns:Z1):(AO ns).Pairwise (· ≤ ·):=by
 have h:=List.pairwise_mergeSort (le:=λa b:Int=>decide (a≤b)) (λa b c h1 h2=>by simp at *;omega) (λa b=>by simp;omega) ns;exact h.imp λ{a b} h=>by simpa using h
theorem nX:∀{a b:List Int},a.Perm b→a.Pairwise (· ≤ ·)→b.Pairwise (· ≤ ·)→a=b
 | [],b,p,_,_=>(List.nil_perm.mp p).symm
 |x::a,[],p,_,_=>absurd p.length_eq (by simp)
 |x::a,y::b,p,h1,h2=>by
  obtain⟨i1,i2⟩:=List.pairwise_cons.mp h1;obtain⟨j1,j2⟩:=List.pairwise_cons.mp h2;have e:x=y:=by
   have hx:=p.mem_iff.mp (mem_cons_self (a:=x) (l:=a));have hy:=p.mem_iff.mpr (mem_cons_self (a:=y) (l:=b))
   rcases mem_cons.mp hx with z|z
   ·exact z
   ·rcases mem_cons.mp hy with z'|z'
    ·exact z'.symm
    ·have:=j1 x z;have:=i1 y z';omega
  subst e;rw[nX (List.perm_cons x |>.mp p) i2 j2]
theorem uE:∀{us:Z0} {ns:List Int},IntsAre us ns→Vals (ns.map V.int) us
 |_,_,.nil=>.nil
 |_,_,.cons n t h=>.cons ⟨t,rfl⟩ (uE h)
def mF:List D→Res D
 | [.lst l]=>(match allInts l with|some ns=>if ns.length<64 then .ok (.lst ((AO ns).map D.int)) else .bad|none=>.bad)
 |_=>.bad
def uQ:eJ X (.builtin "sorted") (λxs H Q=>∃p ns,xs=[.ref p]∧gy X.K H p (ns.map V.int)∧ns.length<64∧∀l,H l=none→Q (.ref l) (bc H l (.lst ((AO ns).map V.int)))):=by
 intro pins s σ H xs us Q I r h;obtain⟨p,ns,rfl,sq,h64,q⟩:=h;obtain⟨u,rfl,ru⟩:=jL r;cases (show u= .ref p from ru);obtain⟨its,rv,pl,hz⟩:=I.list sq;have hil:=rv.length;rw[length_map]at hil;refine sorted_ints pl.isList (kJ rv) (by omega) λout ns' a1 a2 a3=>?_;have e:ns'=AO ns:=nX (a2.trans (mH ns).symm) a3 (uy ns);subst e;have hl:=(mH ns).length_eq;have key:=kK (vs:=its) (out:=out.toList) I (uE a1) (by rw[length_map,hl];have:=sizeLine_eq;omega) q;rw[Array.toArray_toList]at key;exact key
def Ak {f:Z7}(hm:X.mg "sorted" =none)(h:PD X E e f)(hg:Gl X "sorted" :=by rfl)(he:zQ2 X e []:=by rfl):PD X E (.Call (.Name "sorted" p) [e] [] pos) (λρ=>(f ρ).bind λa=>mF [a]):=by
 refine wB ▸ jD (X:=X) (E:=E) (p:=p) (pos:=pos) uQ ?_ hg hm boot_sorted (aa h af he) (by decide) (by decide) he rfl;intro G H vs ds Q hs rl ok k;unfold mF at ok k;split at ok
 ·rename_i l;obtain⟨v,r,rfl,rx,r0⟩:=rl.inv;rw[r0.inv0];dsimp only at ok k;cases q:allInts l with
  |none=>rw[q]at ok;exact ok.elim
  |some ns=>
   rw[q]at ok k;dsimp only at ok k;by_cases hc:ns.length<64
   ·rw[Yo hc]at k;have el:=fY q;subst el;rw[rep_lst]at rx;obtain⟨a,xs,rfl,sq,rx⟩:=rx;have ex:=rx.ints;subst ex;exact⟨a,ns,rfl,hs.seq sq.sq,hc,λl hl=>k _ _ _ _ rfl (.new hs hl _) (rep_lst.mpr ⟨l,_,rfl,.of au,.of_ints _⟩)⟩
   ·rw[Ym hc]at ok;exact ok.elim
 ·exact ok.elim
end
abbrev sD (f:Z7):DS→Res (List D):=λρ=>(f ρ).bind qu
abbrev BY (f:Z7):DS→Res D:=λρ=>(f ρ).bind xH
def o_ (j i:Nat)(l r:Zy)(ρ:DS):D→Out
 |.int k=>(match pH r.length k with
  |some m=>(match r[m]? with
   |some x=>if aQ l.length=true∧aQ r.length=true then .nx ((ρ.set i (some (.lst (r.eraseIdx m)))).set j (some (.lst (l ++ [x])))) else .bad
   |none=>.bad)
  |none=>.bad)
 |_=>.bad
def ir (j i:Nat)(fi:Z7):DS→Out:=λρ=>match ρ[j]?,ρ[i]? with
 |some (some (.lst l)),some (some (.lst r))=>(fi ρ).out (o_ j i l r ρ)
 |_,_=>.bad
section
variable{X:Cx}{E:XK}{μ:Zz}{r:Nat}
def yb {j i:Nat}{px py apos cpos apos2 cpos2 pos:Ys}{fi:Z7}(hji:i≠j)(hm:μ.getD j 0=1)(hm2:μ.getD i 0=1)(hN:X.N[j]?=some x)(hN2:X.N[i]?=some y)(hv:uJ X.env.scope x)(hv2:uJ X.env.scope y)(hi:PD X E e fi)(hd:zQ1 x:=by decide) (hcd:(x==("__classdict__" :Str))=false:=by decide)(hd2:zQ1 y:=by decide) (hcd2:(y==("__classdict__" :Str))=false:=by decide)(hs:zQ2 X e []:=by rfl)(hs2:starEach [.Call (.Attribute (.Name y py) "pop" apos2) [e] [] cpos2] X.env=(false,eval (.Call (.Attribute (.Name y py) "pop" apos2) [e] [] cpos2) X.env)::starEach [] X.env:=by rfl)(hbase:attributeBase (.Name x px) "append" X.env (eval (.Name x px) X.env)=eval (.Name x px) X.env:=by rfl)(hbase2:attributeBase (.Name y py) "pop" X.env (eval (.Name y py) X.env)=eval (.Name y py) X.env:=by rfl)(hfew:((backTo cpos (starEach [.Call (.Attribute (.Name y py) "pop" apos2) [e] [] cpos2] X.env)).all (λx=> !x.1)&&(backToKw cpos (keywordEach [] X.env)).all (λx=>x.1.isSome)&&decide (([Expr.Call (.Attribute (.Name y py) "pop" apos2) [e] [] cpos2].length+([]:List Keyword).length+if ([]:List Keyword).isEmpty=true then 0 else 1)<30))=true:=by rfl)(hfew2:((backTo cpos2 (starEach [e] X.env)).all (λx=> !x.1)&&(backToKw cpos2 (keywordEach [] X.env)).all (λx=>x.1.isSome)&&decide (([e].length+([]:List Keyword).length+if ([]:List Keyword).isEmpty=true then 0 else 1)<30))=true:=by rfl)(hline:(apos.endLine==cpos.line)=true:=by rfl) (hline2:(apos2.endLine==cpos2.line)=true:=by rfl)(hsw:swapsWith (.Call (.Attribute (.Name x px) "append" apos) [.Call (.Attribute (.Name y py) "pop" apos2) [e] [] cpos2] [] cpos) none pos.line X.env=pure false:=by rfl) :
  lV X E μ r (.Expr (.Call (.Attribute (.Name x px) "append" apos) [.Call (.Attribute (.Name y py) "pop" apos2) [e] [] cpos2] [] cpos) pos) (ir j i fi):=by
 intro pins s σ Ge B G H g fp I R ho;have hq:=mZ (apos:=apos2) (cpos:=cpos2) (r:=vz) PySem.F.plainAttrs_list PySem.F.slot_list_pop PySem.F.type_list_pop (show xg X "list.pop" vz from zL) (en (pos:=py) hN2 hv2 hd2 hcd2) (bQ (dM hi) df hs) hbase2 hfew2 hline2 hs rfl;have hp:=mZ (apos:=apos) (cpos:=cpos) (r:=dP) PySem.F.plainAttrs_list PySem.F.slot_list_append PySem.F.type_list_append (show xg X "list.append" dP from hG) (en (pos:=px) hN hv hd hcd) (bQ hq df hs2) hbase hfew hline hs2 rfl;have hslot:∃l f,g[j]?=some (some (.lst l))∧g[i]?=some (some (.lst f)):=by
  unfold ir at ho;split at ho
  ·rename_i l f q1 q2;exact⟨l,f,q1,q2⟩
  ·exact ho.elim
 obtain⟨l,f,hr,hr2⟩:=hslot;have eo:ir j i fi g=(fi g).out (o_ j i l f g):=by
  unfold ir;rw[hr,hr2]
 rw[eo]at ho ⊢;obtain⟨a,xs,T,h1,h2,h3,h4⟩:=R.top (n:=0) hr hm;obtain⟨b,ys,U,k1,k2,k3,k4⟩:=R.top (n:=0) hr2 hm2;refine aV (fK hp hsw pins s σ H {nx:=λσ' H'=>∃S G' fp',(fi g).out (o_ j i l f g)= .nx S∧σ'=σ∧Rw X.K μ Ge B G' H' σ S fp'∧Same G G',bk:=λ_ _=>False,ct:=λ_ _=>False,rt:=λ_ _=>False} I ?_) λfl s1 C=>?_
 ·refine⟨_,h1,.inl ⟨rfl,xs,.inl (.inl h2)⟩,_,k1,.inl ⟨rfl,ys,.inl (.inl k2)⟩,nQ fp G H,g,R.vh,R.ro,ho.res.le R.bh,λdi ei vi G1 H1 x1 ri=>?_⟩;have J:=ho.res2 ei (Same.refl B);unfold o_ at J;split at J
  ·rename_i k0;rw[rep_int]at ri;subst ri;cases hq:pH f.length k0 with
   |none=>rw[hq]at J;exact J.elim
   |some m=>
    rw[hq]at J;dsimp only at J;cases hz:f[m]? with
    |none=>rw[hz]at J;exact J.elim
    |some z=>
     rw[hz]at J;dsimp only at J;by_cases hc:aQ l.length=true∧aQ f.length=true
     ·have e0:(fi g).out (o_ j i l f g)= .nx ((g.set i (some (.lst (f.eraseIdx m)))).set j (some (.lst (l ++ [z])))):=by
       rw[bY ei];unfold o_;dsimp only;rw[hq];dsimp only;rw[hz];exact Yo hc
      have R1:=R.grow x1;obtain⟨v1,b2,ys2,U2,p0,p1,p2,p3,p4,p5,p6,p7,p8,p9⟩:=R1.path (p:=[]) (n:=0) hm2 hr2 rfl;rw[k1]at p0;cases p0;cases (show V.ref b2= .ref b from p1);rw[x1.hh _ _ k2]at p2;cases p2;obtain⟨eU,rl⟩:=p3.zero;obtain⟨w,hw,rw'⟩:=rl.get hz;obtain⟨fp2,R2⟩:=p9 (ys.eraseIdx m) (f.eraseIdx m) [] (.of0 (rl.erase m)) nodup_nil (λc h=>by cases h);have hr3:(g.set i (some (bZ [] (.lst f) (.lst (f.eraseIdx m)))))[j]?=some (some (.lst l)):=by rw[getElem?_set_ne hji];exact hr
      obtain⟨v3,b3,ys3,U3,q0,q1,q2,q3,q4,q5,q6,q7,q8,q9⟩:=R2.path (p:=[]) (n:=0) hm hr3 rfl;rw[h1]at q0;cases q0;cases (show V.ref b3= .ref a from q1);have hab:a≠b:=λz=>hji (R.dj i j b (by rw[k3];exact mem_cons_self) (by rw[h3,z];exact mem_cons_self));rw[am hab,x1.hh _ _ h2]at q2;cases q2;obtain⟨eU3,rl3⟩:=q3.zero;have rz:Rep X.K (oB (pF fp) G1) z w:=rw';obtain⟨fp3,R3⟩:=q9 (xs ++ [w]) (l ++ [z]) [] (.of0 (rl3.append (.cons rz .nil))) nodup_nil (λc h=>by cases h);have hml:m<ys.length:=(fR hw).1;obtain⟨b1,b2⟩:=zu hc.2 hq;have hlen:=rl.length;refine⟨b,ys,k0,m,w,rfl,rfl,x1.hh _ _ k2,b1,b2,by rw[←hlen];exact(iJ hq).1,hw,?_⟩;exact⟨a,xs,w,rfl,rfl,by rw[am hab];exact x1.hh _ _ h2,by rw[←rl3.length];exact gZ hc.1,_,_,fp3,e0,rfl,R3,R.gg x1⟩
     ·rw[Ym hc]at J;exact J.elim
  ·exact J.elim
 ·cases fl with
  |next=>
   obtain⟨σ',H',I',S,G',fp',e1,e2,R',sg⟩:=C;subst e2;exact⟨S,_,G',H',fp',e1,I',R',sg⟩
  |brk=>obtain⟨_,_,_,C⟩:=C;exact C.elim
  |cont=>obtain⟨_,_,_,C⟩:=C;exact C.elim
  |ret u=>obtain⟨_,_,_,_,_,C⟩:=C;exact C.elim
def nW (j i:Nat):DS→Out:=λρ=>match ρ[j]?,ρ[i]? with
 |some (some (.lst l)),some (some d)=>if aQ l.length=true then .nx ((ρ.set i none).set j (some (.lst (l ++ [d])))) else .bad
 |_,_=>.bad
def Ah {n j i:Nat}{px py apos cpos pos:Ys}(hji:i≠j)(hm:μ.getD j 0=n+1)(hm2:μ.getD i 0=n)(hN:X.N[j]?=some x)(hN2:X.N[i]?=some y)(hv:uJ X.env.scope x)(hv2:uJ X.env.scope y)(hd:zQ1 x:=by decide) (hcd:(x==("__classdict__" :Str))=false:=by decide)(hd2:zQ1 y:=by decide) (hcd2:(y==("__classdict__" :Str))=false:=by decide)(hs:starEach [.Name y py] X.env=(false,eval (.Name y py) X.env)::starEach [] X.env:=by rfl)(hbase:attributeBase (.Name x px) "append" X.env (eval (.Name x px) X.env)=eval (.Name x px) X.env:=by rfl)(hfew:((backTo cpos (starEach [.Name y py] X.env)).all (λx=> !x.1)&&(backToKw cpos (keywordEach [] X.env)).all (λx=>x.1.isSome)&&decide (([Expr.Name y py].length+([]:List Keyword).length+if ([]:List Keyword).isEmpty=true then 0 else 1)<30))=true:=by rfl)(hline:(apos.endLine==cpos.line)=true:=by rfl)(hsw:swapsWith (.Call (.Attribute (.Name x px) "append" apos) [.Name y py] [] cpos) none pos.line X.env=pure false:=by rfl) :
  lV X E μ r (.Expr (.Call (.Attribute (.Name x px) "append" apos) [.Name y py] [] cpos) pos) (nW j i):=by
 intro pins s σ Ge B G H ρ fp I R ho;have hp:=mZ (apos:=apos) (cpos:=cpos) (r:=dP) PySem.F.plainAttrs_list PySem.F.slot_list_append PySem.F.type_list_append (show xg X "list.append" dP from hG) (en (pos:=px) hN hv hd hcd) (bQ (en (pos:=py) hN2 hv2 hd2 hcd2) df hs) hbase hfew hline hs rfl;have hslot:∃l d,ρ[j]?=some (some (.lst l))∧ρ[i]?=some (some d):=by
  unfold nW at ho;split at ho
  ·rename_i l d q1 q2;exact⟨l,d,q1,q2⟩
  ·exact ho.elim
 obtain⟨l,d,hr,hr2⟩:=hslot;have eo:nW j i ρ=if aQ l.length=true then .nx ((ρ.set i none).set j (some (.lst (l ++ [d])))) else .bad:=by
  unfold nW;rw[hr,hr2]
 rw[eo]at ho ⊢;by_cases hc:aQ l.length=true
 ·rw[Yo hc];obtain⟨a,xs,T,h1,h2,h3,h4⟩:=R.top hr hm;obtain⟨v,k1,o⟩:=R.sl i d hr2;rw[hm2]at o;refine aV (fK hp hsw pins s σ H {nx:=λσ' H'=>σ'=σ∧H'=bc H a (.lst (xs ++ [v])),bk:=λ_ _=>False,ct:=λ_ _=>False,rt:=λ_ _=>False} I ⟨_,h1,.inl ⟨rfl,xs,.inl (.inl h2)⟩,_,k1,a,xs,v,rfl,rfl,h2,by rw[←h4.length];exact gZ hc,rfl,rfl⟩) λfl s1 C=>?_;cases fl with
  |next=>
   obtain⟨σ',H',I',e1,e2⟩:=C;subst e1 e2;have R1:=R.forget (i:=i) (o:=some v);rw[lL k1]at R1;exact⟨_,_,_,_,_,rfl,I',R1.app1 (S:=fp i) hm h1 h2 ((Ym (Ne.symm hji)).trans h3) h4 o (R.nd i) (λc hcc=>⟨⟨R.gf i c hcc,R.ob i c hcc⟩,λk hk=>by
    dsimp only at hk;by_cases hki:k=i
    ·rw[Yo hki]at hk;cases hk
    ·rw[Ym hki]at hk;exact hki (R.dj k i c hk hcc)⟩),.refl _⟩
  |brk=>obtain⟨_,_,_,C⟩:=C;exact C.elim
  |cont=>obtain⟨_,_,_,C⟩:=C;exact C.elim
  |ret u=>obtain⟨_,_,_,_,_,C⟩:=C;exact C.elim
 ·rw[Ym hc]at ho;exact ho.elim
end
section
variable{X:Cx}{E:XK}{μ:Zz}{r:Nat}
def yF (p a:Z2):HO:=.ext λh=>h.IsValuesView p a
def wY:V→List V→Hp→VK→Prop:=λx vs H Q=>∃a kvs,x= .ref a∧vs=[]∧Rd H a (.dT kvs)∧∀p,H p=none→Q (.ref p) (bc H p (yF p a))
def xY:xg X "dict.values" wY:=by
 intro pins s σ H x vs v us Q I rx rv h;obtain⟨a,kvs,rfl,rfl,rd,q⟩:=h;cases (show v= .ref a from rx);cases rv;obtain⟨z,hd,xs,pr,o,es,ep,ho,ex,dt,he,nd⟩:=pe I.hok rd;have ty:s.TypeIs (.ref a) "dict" :=⟨o,ho,ex.1⟩;refine wpAny_call_entry PySem.F.slot_dict_values ty PySem.F.entry_dict_values ?_ (PySem.F.args_dict_values_1 _);show wpAny (model X.prog X.w) X.A.in1 (do let d ←Builtin.Dict.noArgs "values" {pos:=[.ref a]};Builtin.Dict.showsAll d;let v ←newFields "dict_values" [.ref d];ret v) _ _ s
 refine Zx ?_;unfold Builtin.Dict.noArgs;refine Zx ?_;unfold Builtin.Dict.notOrdered;rw[Yo (by decide)];refine Zx (wpAny_typeOf ty ?_);rw[Ym (by decide)];refine Zq (Zx ?_);unfold Builtin.Dict.nameIsSure;rw[Ym (by simp)];refine Zq (Zx ?_);show wpAny _ _ (pure (Value.ref a)) _ _ s;refine Zq (Zq (Zx ?_));unfold Builtin.Dict.showsAll;rw[Ym (by rw[hd];exact Bool.false_ne_true)];refine Zq (Zx ?_);unfold newFields;refine wpAny_newObj_type (Zq ⟨_,rfl,.ref s.heap.objs.size,_,?_,rfl,q _ (I.hok.fresh (le_refl _))⟩) (by size_fits);exact I.laid (t':=s.toks) (λb o e=>Heap.get?_push_of_some _ e) (le_refl _) ⟨⟨_,Heap.get?_push_size _ rfl,rfl,rfl⟩,⟨_,Heap.get?_push_size _ rfl⟩,λh1 h2 ⟨o,e,c,d⟩ k=>⟨o,k _ e,c,d⟩⟩
def Hh {P:Zv}{w:Zk}{H:Hp}{kvs:List (List bL×V)}{xs:List (List bL×Addr×Value)}{es:Array DictEntry}{ns:Z1}(pr:Paired (λ(p:List bL×V) (q:List bL×Addr×Value)=>p.1=q.1∧H q.2.1=some (HO.tup (p.1.map kV))∧RelV p.2 q.2.2) kvs xs)(he:es.toList=xs.map (entryOfKey (tupleKind (bP P w))))(hn:kvs.map (·.2)=ns.map V.int):es.size=ns.length∧∀(i:Nat) (h:i<es.size),∃t,es[i].val= .int (ns.getD i 0) t:=by
 obtain⟨hl,at'⟩:=Paired.at2 pr;have hsz:es.size=kvs.length:=by rw[←length_toList,he,length_map,hl]
 have hln:kvs.length=ns.length:=by have:=congrArg List.length hn;rwa[length_map,length_map]at this
 refine⟨by omega,λi h=>?_⟩;have h1:i<kvs.length:=by omega
 have h3:i<xs.length:=by omega
 have e1:es[i]=entryOfKey (tupleKind (bP P w)) xs[i]:=by
  have:es.toList[i]?=some (entryOfKey (tupleKind (bP P w)) xs[i]):=by rw[he,getElem?_map,gd h3];rfl
  rw[getElem?_toList,getElem?_eq_getElem h]at this;exact Option.some.inj this
 have e2:kvs[i].2= .int (ns.getD i 0):=by
  have:(kvs.map (·.2))[i]?=(ns.map V.int)[i]?:=by rw[hn]
  rw[getElem?_map,getElem?_map,gd h1,gd (by omega:i<ns.length)]at this;have h4:=Option.some.inj this;rw[getD_eq_getElem?_getD,gd (by omega:i<ns.length)];exact h4
 have r:=(at' i h1 h3).2.2;rw[e2]at r;obtain⟨t,e⟩:=r;exact⟨t,by rw[e1];exact e⟩
def xl (hc:X.calm=true):eJ X (.builtin "max") (λxs H Q=>∃p a kvs ns,xs=[.ref p]∧H p=some (yF p a)∧Rd H a (.dT kvs)∧kvs.map (·.2)=ns.map V.int∧ns≠[]∧Q (.int (eS ns)) H):=by
 intro pins s σ H xs us Q I r h;obtain⟨p,a,kvs,ns,rfl,hp,rd,hn,hne,q⟩:=h;obtain⟨u,rfl,ru⟩:=jL r;cases (show u= .ref p from ru);obtain⟨hv,_,_⟩:=(show ObjOk X.prog X.w H s.heap p (yF p a) from I.hok p _ hp);obtain⟨z,hd,xs,pr,o,es,ep,ho,ex,dt,he,nd⟩:=pe I.hok rd;obtain⟨hsz,hat⟩:=Hh pr he hn;have rw0:RawD s.heap a es ep:=⟨o,ho,ex,dt⟩;have hal:a<s.heap.objs.size:=Yu ho;have hnl:0<ns.length:=length_pos_iff.mpr hne;have hai:a≠s.heap.objs.size:=ne_of_lt hal;refine call_max_walkS (yi hv rw0 ?_);refine⟨s.heap.objs.size,[s.heap.objs.size,a],[s.heap.objs.size],(· = ·),es.size,λi v=>∃t,v= .int (ns.getD i 0) t,λi s'=>s'.heap.IsValIter s.heap.objs.size a i es.size ep∧RawD s'.heap a es ep,λi j=>decide (ns.getD i 0>ns.getD j 0),rfl,?_,⟨⟨_,Heap.get?_push_size _ rfl,rfl,rfl⟩,⟨o,Heap.get?_push_of_some _ ho,ex,dt⟩⟩,λb hb=>?_,by omega,?_,λv s' hP mv=>?_⟩
 ·refine⟨λb hb=>mem_cons.mpr (.inl (mem_singleton.mp hb)),λ_=>rfl,λ_ _ _ h1 h2=>h1.trans h2,?_,?_,?_,?_⟩
  ·rintro i s1 h' tk ⟨⟨o1,e1,c1,d1⟩,⟨o2,e2,x2,d2⟩⟩ _ k;exact⟨⟨o1,k _ (by simp) _ e1,c1,d1⟩,⟨o2,k _ (by simp) _ e2,x2,d2⟩⟩
  ·rintro i s1 Q1 E1 hi ⟨v1,r1⟩ k;refine yj v1 r1 hi λh' v2 sb=>k _ _ (hat i hi) ⟨v2,?_⟩ ⟨λb o hb e=>(sb.2 b (by simpa using hb)).trans e,rfl,rfl,rfl,le_refl _⟩;obtain⟨o2,e2,x2,d2⟩:=r1;exact⟨o2,(sb.2 a hai).trans e2,x2,d2⟩
  ·rintro s1 Q1 E1 ⟨v1,r1⟩ k;exact Av (I.ok.hd hc) v1 r1 (le_refl _) λh' eb=>k _ ⟨λb o hb e=>eb b o (by simpa using hb) e,rfl,rfl,rfl,le_refl _⟩
  ·rintro i s1 Q1 E1 ⟨v1,r1⟩ k;exact wpAny_pyIter_valiter v1 k
 ·rcases mem_cons.mp hb with e|e
  ·rw[e];show s.heap.objs.size<(s.heap.push _).objs.size;rw[Heap.size_push];exact lt_succ_self _
  ·rw[mem_singleton.mp e];show a<(s.heap.push _).objs.size;rw[Heap.size_push];exact lt_succ_of_lt hal
 ·exact CmpOf.ints_gt (λi=>ns.getD i 0) λi v h=>h
 ·obtain⟨t,rfl⟩:=hP;obtain⟨h1,h2⟩:=argBest_gt (λi=>ns.getD i 0) (es.size-1);have hm:ns.getD (argBest (λi j=>decide (ns.getD i 0>ns.getD j 0)) (es.size-1)) 0=eS ns:=by
   obtain⟨m1,m2⟩:=dl hne;refine le_antisymm (m2 _ (getD_mem (by omega))) ?_;obtain⟨j,hj,ej⟩:=mem_getD m1;rw[←ej];exact h2 j (by omega)
  rw[hm];have I':Inv X pins σ H s':=by
   have:=I.kept (t':=s'.toks) (h':=s'.heap) λb o e=>mv.heap b o (by simpa using ne_of_lt (Yu e)) (Heap.get?_push_of_some _ e);obtain⟨hp',gs,dr,tk,os⟩:=s';have e1:=mv.gens;have e2:=mv.drawn;have e3:=mv.os;dsimp only at e1 e2 e3;subst e1 e2 e3;exact this
  exact⟨.int (eS ns),H,I',⟨t,rfl⟩,q⟩
def oR:D→Res D
 |.fdc _ l=>(match allInts l with|some (a::ns)=>.ok (.int (eS (a::ns)))|_=>.bad)
 |_=>.bad
def HX (r:V→List V→Hp→VK→Prop)(to:TE):TE:=λσ H Q=>to σ H λx H1=>(∃a kvs,x= .ref a∧Rd H1 a (.dT kvs))∧r x [] H1 Q
def E8 {to:TE}{apos cpos:Ys}{id:String}{r:V→List V→Hp→VK→Prop}(slot:Slot "dict" name id)(hty:typeOf (.builtin id)=pure (.type "method_descriptor"))(hm:xg X id r)(ho:PE X o to)(hbase:attributeBase o name X.env (eval o X.env)=eval o X.env:=by rfl) (hline:(apos.endLine==cpos.line)=true:=by rfl):PE X (.Call (.Attribute o name apos) [] [] cpos) (HX r to):=by
 intro pins s σ H Q I h;refine wpAny_Call_method0_late hbase hline (aV (ho pins s σ H _ I h) λv s1 ⟨x,H1,I1,r1,⟨a,kvs,e,rd⟩,q1⟩=>?_);subst e;have r1':=r1;cases r1';obtain⟨z,hd,xs,pr,ob,es,ep,hob,ex,dt,he,nd⟩:=pe I1.hok rd;exact⟨"dict",id,PySem.F.plainAttrs_dict,slot,hty,⟨ob,hob,ex.1⟩,λa e2=>by cases e2;exact⟨ob,hob,ex.2.1⟩,Calls.callWith_builtin rfl (PySem.evalArgs_none (hm pins s1 σ H1 _ [] _ [] Q I1 r1 .nil q1))⟩
def Cl {p apos cpos pos:Ys}{f:Z7}(hm:X.mg "max" =none)(h:PD X E o f)(hc:X.calm=true:=by rfl)(hg:Gl X "max" :=by rfl)(hbase:attributeBase o "values" X.env (eval o X.env)=eval o X.env:=by rfl) (hline:(apos.endLine==cpos.line)=true:=by rfl)(hs:starEach [.Call (.Attribute o "values" apos) [] [] cpos] X.env=(false,eval (.Call (.Attribute o "values" apos) [] [] cpos) X.env)::starEach [] X.env:=by rfl) :
  PD X E (.Call (.Name "max" p) [.Call (.Attribute o "values" apos) [] [] cpos] [] pos) (λρ=>(f ρ).bind oR):=by
 intro pins s σ G H ρ I hsm hro ho;have he:=oW (pos:=pos) (p:=p) (xl hc) hg hm yK (bQ (E8 (apos:=apos) (cpos:=cpos) (r:=wY) PySem.F.slot_dict_values PySem.F.type_dict_values xY (dM h) hbase hline) df hs) (by decide) (by decide) hs rfl;refine aV (he pins s σ H (λv H'=>∃d G',(f ρ).bind oR= .ok d∧Ext G H G' H'∧Rep X.K G' d v) I ?_) λu s' hZ193=>(by obtain⟨v,H',I',r,d,G',e,xx,rp⟩:=hZ193;exact⟨d,e,v,G',H',I',r,xx,rp⟩);refine⟨G,ρ,hsm,hro,ho.fst,λd e v G1 H1 x1 p1=>?_⟩;have kk:=ho.snd e x1.hh;cases d with
 |fdc ks l=>
  unfold oR at kk;dsimp only at kk;cases q:allInts l with
  |none=>rw[q]at kk;exact kk.elim
  |some ns=>
   rw[q]at kk;cases ns with
   |nil=>exact kk.elim
   |cons a ns=>
    have el:=fY q;subst el;rw[rep_fdc]at p1;obtain⟨b,o,N,rfl,rd,hk,rl⟩:=p1;have ex:=rl.ints;have rdH:Rd H1 b (.dT N):=x1.gh.rd (.inr ⟨o,rd⟩);refine⟨⟨b,N,rfl,rdH⟩,b,N,rfl,rfl,rdH,λpp hp=>?_⟩;have x2:=x1.trans (Ext.new x1.gh hp (yF pp b));refine⟨pp,b,N,a::ns,rfl,au,?_,ex,List.cons_ne_nil _ _,_,_,aq e (by unfold oR;dsimp only;rw[q]),x2,rep_int.mpr rfl⟩;exact x2.gh.rd (.inr ⟨o,(Ext.new x1.gh hp (yF pp b)).gg _ _ rd⟩)
 |_=>exact kk.elim
end
section
variable{prog:Zv}{w:Zk}{A:Zg}{E:Z6}{s:Shared}
end
section
variable{X:Cx}{E:XK}{μ:Zz}{r:Nat}
def Fl {f g:Z7}(ha:PD X E a f)(hb:PD X E b g):PN X E 1 (.BinOp a .Add b pos) (ae f g l7):=by
 refine .tn (GQ (pos:=pos) zQ (dM ha) (dM hb)) λσ G H ρ Q hs hro ho k=>⟨G,ρ,hs,hro,ho.fst,λd e1 v G1 H1 x1 p1=>⟨G1,ρ,x1.gh,hro.mono x1.gg,(ho.snd e1 x1.hh).fst,λd2 e2 v2 G2 H2 x2 p2=>?_⟩⟩;have kk:=(ho.snd e1 x1.hh).snd e2 x2.hh;have e0:ae f g l7 ρ=l7 d d2:=by unfold ae;rw[e1,az,e2,az]
 unfold l7 at kk;split at kk
 ·rename_i la lb;rw[rep_lst]at p1 p2;obtain⟨p,xs,rfl,l1,r1⟩:=p1;obtain⟨q,ys,rfl,l2,r2⟩:=p2;by_cases hz:aQ (la.length+lb.length)=true
  ·refine⟨p,q,xs,ys,rfl,rfl,x2.hh _ _ (x1.gh _ _ l1.h),x2.gh _ _ l2.h,by rw[←r1.length,←r2.length];exact bK hz,λt ht=>?_⟩;obtain⟨x,o,w⟩:=jC (x1.trans x2) ht ((r1.mono x2.gg).append r2);exact k _ (by rw[e0];unfold l7;exact Yo hz) _ _ _ _ x o w
  ·rw[Ym hz]at kk;exact kk.elim
 ·exact kk.elim
end
def Ik (K:Z8)(a:Z2)(n:Nat):It:=
 ⟨λi H=>∃xs x,gy K H a xs∧xs.length=n∧xs.reverse[i]?=some x,λi H x H'=>H'=H∧∀xs,gy K H a xs→xs.reverse[i]?=some x,λi H=>∃xs,gy K H a xs∧xs.length=n∧n≤i⟩
def AU {P:Zv}{w:Zk}{K:Z8}(a it:Z2)(n:Nat):Turn P w K tg (Ik K a n) [it] it (λi h=>h.IsRevIter it a (((n-i:Nat):Int)-1)) where
 mem:=by simp
 obj:=λi h q b hb=>by
  have e:b=it:=by simpa using hb
  subst e;obtain⟨o,e,c,d⟩:=q;exact⟨o,e,λv z=>by rw[d]at z;cases z⟩
 keep:=λi h h' q k=>q.at λo e=>k it (by simp) o e
 item:=by
  intro X hP hw hK hc i pins s σ H E I hf q hg;subst hP hw hK;obtain⟨xs,x,hq,hn,hx⟩:=hg;have hi:i<n:=by
   have:=(fR hx).1;rw[length_reverse]at this;omega
  obtain⟨its,rv,p,hz⟩:=I.list hq;rw[List.getElem?_reverse (by omega)]at hx;obtain⟨u,hu,ru⟩:=rv.get hx;obtain⟨f0,f1,f2,f3,f4,f5⟩:=hf it (by simp);have e0:((n-i:Nat):Int)-1=((xs.length-1-i:Nat):Int):=by omega
  have e1:((n-(i+1):Nat):Int)-1=((xs.length-1-i:Nat):Int)-1:=by omega
  rw[e0]at q;refine wpAny_pyNext_rev_item q p.isList (x:=u) (by simpa using hu) λh' st' sb=>?_;rw[←e1]at st';have I1:Inv X pins σ H {s with heap:=h'}:=I.turned (t':=s.toks) (λb o hb e=>(sb.2 b hb).trans e) f0 f1 f3 f4 f5
  obtain⟨o,e,c,d⟩:=id st';exact⟨u,rfl,tL (s:={s with heap:=h'}) e c d (by decide) ⟨x,H,I1,ru,⟨rfl,λys hy=>by rw[I.list_inj hy hq,List.getElem?_reverse (by omega)];exact hx⟩,st',λb hb=>(hf b hb).1⟩⟩
 done:=by
  intro X hP hw hK hc i pins s σ H E I hf q hg;subst hP hw hK;obtain⟨xs,hq,hn,hi⟩:=hg;obtain⟨f0,f1,f2,f3,f4,f5⟩:=hf it (by simp);have e0:((n-i:Nat):Int)-1= -1:=by omega
  rw[e0]at q;exact wpAny_pyNext_rev_end (I.ok.hd hc) q λh' eb=>⟨rfl,I.turned (t':=s.toks) (λb o hb e=>eb b o hb e) f0 f1 f3 f4 f5⟩
 self:=λ_ _ _ _ _ q h=>wpAny_pyIter_revIter q h
def C0 {K:Z8}{G:Hp}{xs:Zu}{ds:Zy}(sq:gy K G a xs)(rl:RepL K G ds xs):A5 K (Ik K a xs.length) ds.reverse G:=by
 intro G2 H2 g1 g2 i;have sq2:gy K H2 a xs:=g2.seq (g1.seq sq);refine⟨λd hd=>?_,λhl=>⟨xs,sq2,rfl,by rw[←rl.length,←length_reverse];exact hl⟩⟩;obtain⟨v,hv,rv⟩:=rl.reverse.get hd;refine⟨⟨xs,v,sq2,rfl,hv⟩,λy H' hZ194=>?_⟩;obtain⟨e,h⟩:=hZ194;subst e;have q:=h xs sq2;rw[hv]at q;cases q;exact⟨G2,.refl g2,rv.mono g1⟩
def Fs:D→Res (List D)
 |.lst l=>.ok l.reverse
 |_=>.bad
abbrev HU (f:Z7):DS→Res (List D):=λρ=>(f ρ).bind Fs
section
variable{X:Cx}{E:XK}{tg:Expr}
def Cs {f:Z7}(hm:X.mg "reversed" =none)(h:PD X E e f)(hg:Gl X "reversed" :=by rfl)(hs:starEach [e] X.env=[(false,eval e X.env)]:=by rfl):PI X tg (.Call (.Name "reversed" p) [e] [] pos) (tDI X.K E (λρ=>(f ρ).bind Fs)):=by
 intro pins s σ H R I hZ35;obtain⟨G,ρ,hsm,hro,ho,k⟩:=hZ35;have hpd:lU X E [e] (λρ=>(f ρ).bind λd=>.ok [d]):=aa h af hs;have hok:OkR E H ((f ρ).bind λd=>Res.ok [d]):=by
  have:=ho.fst;cases q:f ρ with
  |ok d=>trivial
  |exc c=>rw[q]at this;exact this
  |bad=>rw[q]at this;exact this
 refine Call_ (iK I hg hm boot_reversed (PyProof.Rows.callWith_type1 (aV (hpd pos pins s σ G H ρ I hsm hro hok) λus s1 hZ195=>?_) hs rfl));obtain⟨ds,g,vs,G1,H1,I1,r1,x1,rl⟩:=hZ195;cases q:f ρ with
 |ok d=>
  dsimp only at g;rw[q]at g;cases g;have kk:=ho.snd q x1.hh;cases d with
  |lst l=>
   obtain⟨v,r,rfl,rx,r0⟩:=rl.inv;rw[r0.inv0]at r1;rw[rep_lst]at rx;obtain⟨a,xs,rfl,sq,rx⟩:=rx;obtain⟨u,rfl,ru⟩:=jL r1;cases (show u= .ref a from ru);obtain⟨its,vs,pl,hz⟩:=I1.list (x1.gh.seq sq.sq);have e:((its.toArray.size:Nat):Int)-1=(((xs.length-0:Nat):Int)-1):=by rw[vs.length];simp
   refine call_reversed_list pl.isList ?_;rw[e];refine wpAny_pyIter_revIter (l:=a) (i:=((xs.length-0:Nat):Int)-1) ⟨_,Heap.get?_push_size _ rfl,rfl,rfl⟩ ?_;refine⟨s1.heap.objs.size,[s1.heap.objs.size],_,_,H1,rfl,I1.kept (t':=s1.toks) λb o e=>Heap.get?_push_of_some _ e,AU a _ xs.length,⟨_,Heap.get?_push_size _ rfl,rfl,rfl⟩,λb hb=>?_,k _ (aq q rfl) _ G1 H1 x1 (C0 sq.sq rx)⟩;have e:b=s1.heap.objs.size:=by simpa using hb
   subst e;exact I1.fpOk (le_refl _) (I1.hok.fresh (le_refl _))
  |_=>exact kk.elim
 |exc c=>dsimp only at g;rw[q]at g;cases g
 |bad=>dsimp only at g;rw[q]at g;cases g
end
def CM {P:Zv}{w:Zk}{es:Array DictEntry}{ep:Nat}(hd:(d==sysModules)=false):W.KdlSrc P w "dict" d d es.size (λi v=>∃h:i<es.size,v=es[i].key) (λh=>RawD h d es ep) where
 type:=λ_ r=>r.ty
 there:=λh hZ196=>(by obtain⟨o,e,_⟩:=hZ196;exact⟨Yu e,Yu e⟩)
 keep:=λh h' ⟨o,e,x,dt⟩ k=>⟨o,k d (.inl rfl) o e,x,dt⟩
 notList:=by decide
 notTuple:=by decide
 hint:=λ_ _ _ _ r hq=>W.kdl_hint_dict r.ty hq
 iter:=by
  intro A s hh r;have hne:d≠s.heap.objs.size:=by obtain⟨o,e,_⟩:=r;exact ne_of_lt (Yu e)
  refine⟨_,λi h=>h.IsKeyIter s.heap.objs.size d i es.size ep∧RawD h d es ep,λE Q hq=>um hd r hq,⟨λb hb=>mem_cons.mpr (.inl (mem_singleton.mp hb)),?_,?_,?_,?_⟩,⟨_,Heap.get?_push_size _ rfl,rfl,rfl⟩,?_⟩
  ·rintro i h h' ⟨⟨o1,e1,c1,d1⟩,⟨o2,e2,x2,d2⟩⟩ k;exact⟨⟨o1,k _ (by simp) _ e1,c1,d1⟩,⟨o2,k _ (by simp) _ e2,x2,d2⟩⟩
  ·rintro i s1 Q1 E1 hi ⟨v1,r1⟩ k;refine uo v1 r1 hi λh' v2 sb=>k _ h' s1.toks ⟨hi,rfl⟩ ⟨v2,?_⟩ λb o hb e=>(sb.2 b (by simpa using hb)).trans e;obtain⟨o2,e2,x2,d2⟩:=r1;exact⟨o2,(sb.2 d hne).trans e2,x2,d2⟩
  ·rintro s1 Q1 E1 ⟨v1,r1⟩ k;exact wZ hh v1 r1 (le_refl _) λh' eb=>k h' s1.toks λb o hb e=>eb b o (by simpa using hb) e
  ·rintro i s1 Q1 E1 ⟨v1,r1⟩ k;exact wpAny_pyIter_keyiter v1 k
  ·obtain⟨o,e,x,dt⟩:=r;exact⟨o,Heap.get?_push_of_some _ e,x,dt⟩
section
variable{X:Cx}{E:XK}
theorem qR:∀(bs:List Addr),Vals (bs.map V.ref) (bs.map Value.ref)
 | []=>.nil
 |_::bs=>.cons rfl (qR bs)
def uP (hc:X.calm=true):eJ X (.type "list") (λxs H Q=>∃a kvs,xs=[.ref a]∧Rd H a (.dT kvs)∧∀bs:List Addr,bs.length=kvs.length→(∀(i:Nat) k b,(kvs.map (·.1))[i]?=some k→bs[i]?=some b→H b=some (.tup (k.map kV)))→∀q,H q=none→Q (.ref q) (bc H q (.lst (bs.map V.ref)))):=by
 intro pins s σ H xs us Q I r h;obtain⟨a,kvs,rfl,rd,q⟩:=h;obtain⟨u,rfl,ru⟩:=jL r;cases (show u= .ref a from ru);obtain⟨z,hd,xs,pr,o,es,ep,ho,ex,dt,he,nd⟩:=pe I.hok rd;obtain⟨hl,at'⟩:=Paired.at2 pr;have hsz:es.size=kvs.length:=by rw[←length_toList,he,length_map,hl]
 have hk:∀(i:Nat) (h:i<es.size) (h3:i<xs.length),es[i].key= .ref xs[i].2.1:=λi h h3=>by
  have:es.toList[i]?=some (entryOfKey (tupleKind (bP X.prog X.w)) xs[i]):=by rw[he,getElem?_map,gd h3];rfl
  rw[getElem?_toList,getElem?_eq_getElem h]at this;rw[Option.some.inj this];rfl
 refine W.kdl_call (CM (d:=a) (es:=es) (ep:=ep) hd) (I.ok.hd hc) ⟨o,ho,ex,dt⟩ (by omega) λh' tk g c' hkk hD hI=>?_;have ea:g.toList=(xs.map (·.2.1)).map Value.ref:=by
  obtain⟨a1,a2⟩:=hI;apply ext_getElem?;intro i;by_cases hi:i<es.size
  ·have hi':i<g.size:=by omega
   have h3:i<xs.length:=by omega
   obtain⟨_,e⟩:=a2 i g[i] (getElem?_eq_getElem hi');rw[getElem?_toList,getElem?_eq_getElem hi',e,hk i hi h3,getElem?_map,getElem?_map,gd h3];rfl
  ·rw[getElem?_eq_none (by rw[length_toList];omega),getElem?_eq_none (by rw[length_map,length_map];omega)]
 refine⟨.ref s.heap.objs.size,_,I.laid (t':=tk) (h':=h') (o:=.lst ((xs.map (·.2.1)).map V.ref)) hkk (le_refl _) ⟨by rw[length_map,length_map];omega,g.toList,c',by rw[ea];exact qR _,by rw[hD]⟩,rfl,q _ (by rw[length_map];omega) (λi k b h1 h2=>?_) _ (I.hok.fresh (le_refl _))⟩;rw[getElem?_map]at h1 h2;have h4:i<kvs.length:=by
  by_cases h:i<kvs.length
  ·exact h
  ·rw[getElem?_eq_none (by omega)]at h1;cases h1
 rw[gd h4]at h1;rw[gd (by omega:i<xs.length)]at h2;cases h1;cases h2;exact(at' i h4 (by omega)).2.1
theorem zc {K:Z8}{H:Hp}:∀(ks:List (List bL)) (bs:Zt) (G:Hp),Same G H→bs.length=ks.length→(∀(i:Nat) k b,ks[i]?=some k→bs[i]?=some b→H b=some (.tup (k.map kV)))→∃G2,Ext G H G2 H∧RepL K G2 (ks.map pQ) (bs.map V.ref)
 | [],[],G,g,_,_=>⟨G,.refl g,.nil⟩
 |k::ks,b::bs,G,g,hl,h=>by
  have hb:=h 0 k b rfl rfl;have gg:Same G (bc G b (.tup (k.map kV))):=λc u e=>by
   by_cases hc:c=b
   ·subst hc;have:=g _ _ e;rw[hb]at this;cases this;exact au
   ·rw[am hc];exact e
  have x:Ext G H (bc G b (.tup (k.map kV))) H:=by
   refine⟨.refl _,gg,λc u e=>?_,λc u e=>?_⟩
   ·by_cases hc:c=b
    ·subst hc;rw[au]at e;rw[←e];exact hb
    ·rw[am hc]at e;exact g c u e
   ·by_cases hc:c=b
    ·subst hc;rw[au]at e;cases e;exact .inr (.inr ⟨k,rfl⟩)
    ·rw[am hc]at e;exact .inl e
  obtain⟨G2,x2,rl⟩:=zc ks bs _ x.gh (by simpa using hl) λi k b h1 h2=>h (i+1) k b h1 h2;exact⟨G2,x.trans x2,.cons (rep_tup.mpr ⟨b,_,rfl,.of (x2.gg _ _ au),ph k⟩) rl⟩
 | [],_::_,_,_,hl,_=>by simp at hl
 |_::_,[],_,_,hl,_=>by simp at hl
def cT:List D→Res D
 | [.dct ks _]=>.ok (.lst (ks.map pQ))
 | [.fdc ks _]=>.ok (.lst (ks.map pQ))
 |_=>.bad
def ug {p pos:Ys}{f:Z7}(hm:X.mg "list" =none)(h:PD X E e f)(hc:X.calm=true:=by rfl)(hg:Gl X "list" :=by rfl)(he:zQ2 X e []:=by rfl) :
  PN X E 1 (.Call (.Name "list" p) [e] [] pos) (bb (λρ=>(f ρ).bind λd=>.ok [d]) cT):=by
 have hpd:lU X E [e] (λρ=>(f ρ).bind λd=>.ok [d]):=aa h af he;refine .tn (eh (pos:=pos) (p:=p) (uP hc) hg hm jP (jd hpd) (by decide) (by decide) he rfl) λσ G H ρ Q hs hro ho k=>⟨G,ρ,hs,hro,ho.fst,λds e1 vs G1 H1 x1 p1=>?_⟩;have kk:=ho.snd e1 x1.hh;have e0:bb (λρ=>(f ρ).bind λd=>.ok [d]) cT ρ=cT ds:=by show ((f ρ).bind λd=>Res.ok [d]).bind cT=_;rw[e1];rfl
 have main:∀a N,Rd H1 a (.dT N)→cT ds= .ok (.lst ((N.map (·.1)).map pQ))→∀bs:List Addr,bs.length=N.length→(∀(i:Nat) k b,(N.map (·.1))[i]?=some k→bs[i]?=some b→H1 b=some (.tup (k.map kV)))→∀q,H1 q=none→Q (.ref q) (bc H1 q (.lst (bs.map V.ref))):=λa N rd el bs hl hb q hq=>by
  obtain⟨G2,x2,rl⟩:=zc (K:=X.K) (N.map (·.1)) bs G1 x1.gh (by rw[length_map];exact hl) hb;obtain⟨x,o,w⟩:=jC (x1.trans x2) hq rl;exact k _ (e0.trans el) _ _ _ _ x o w
 unfold cT at kk;split at kk
 ·rename_i ks l;obtain⟨v,r,rfl,rx,r0⟩:=p1.inv;rw[r0.inv0];rw[rep_dct]at rx;obtain⟨a,N,rfl,rd,hk,_⟩:=rx;exact⟨a,N,rfl,x1.gh.rd rd,main a N (x1.gh.rd rd) (by unfold cT;rw[hk])⟩
 ·rename_i ks l;obtain⟨v,r,rfl,rx,r0⟩:=p1.inv;rw[r0.inv0];rw[rep_fdc]at rx;obtain⟨a,o,N,rfl,rd,hk,_⟩:=rx;exact⟨a,N,rfl,x1.gh.rd (.inr ⟨o,rd⟩),main a N (x1.gh.rd (.inr ⟨o,rd⟩)) (by unfold cT;rw[hk])⟩
 ·exact kk.elim
end
def j_ {N P:Zw}{sc:Yz}(a:sc.kind= .function:=by rfl)(b:sc.isCoroutine=false:=by rfl)(c:sc.isGenerator=false:=by rfl)(d:N.Nodup:=by decide +kernel)(e:N.take P.length=P:=by rfl)(f:∀x∈P,sc.names.lookup x=some .local∨sc.names.lookup x=some .cell:=by decide +kernel)(g:∀y∈sc.names,y.2≠ .free:=by decide +kernel):FnScope N P sc:=⟨a,b,c,d,e,f,g⟩
end L2
set_option maxHeartbeats 4000000
namespace K07
open PySem L2
def top (i:Nat):Stmt:=PySem.Challenge.pw_haltline_k07_latest_tables.main.body.getD i (.Pass ⟨0,0,0,0⟩)
structure Ad where
 HE:Addr
 ST:Addr
 TS:Addr
 BO:Addr
 BB:Addr
structure Kit (K:Z8)(Y:Ad):Prop where
 i0:W.kitOne K (.ref Y.ST) (.ref Y.ST)=some true
 i1:W.kitOne K (.ref Y.ST) (.ref Y.TS)=some false
 i2:W.kitOne K (.ref Y.ST) (.type "ValueError")=some true
 i3:W.kitOne K (.ref Y.ST) (.ref Y.BO)=some false
 i4:W.kitOne K (.ref Y.ST) (.ref Y.BB)=some false
 i5:W.kitOne K (.ref Y.TS) (.ref Y.ST)=some false
 i6:W.kitOne K (.ref Y.TS) (.ref Y.TS)=some true
 i7:W.kitOne K (.ref Y.TS) (.type "ValueError")=some true
 i8:W.kitOne K (.ref Y.TS) (.ref Y.BO)=some false
 i9:W.kitOne K (.ref Y.TS) (.ref Y.BB)=some false
structure Txt (K:Z8)(mg:Z4)(CL:Z2)(Y:Ad):Prop where
 b_len:mg "len" =none
 b_list:mg "list" =none
 b_range:mg "range" =none
 b_min:mg "min" =none
 b_max:mg "max" =none
 b_tuple:mg "tuple" =none
 b_sorted:mg "sorted" =none
 b_enumerate:mg "enumerate" =none
 b_zip:mg "zip" =none
 b_isinstance:mg "isinstance" =none
 b_int:mg "int" =none
 b_bool:mg "bool" =none
 b_ValueError:mg "ValueError" =none
 b_reversed:mg "reversed" =none
 mS:∃t,mg "MOST_STRETCHES" =some (.int 5 t)
 mR:∃t,mg "MOST_RUN" =some (.int 20 t)
 mC:∃t,mg "MOST_CLEAR" =some (.int 5 t)
 mT:∃t,mg "MOST_TRAINS" =some (.int 5 t)
 mY:∃t,mg "MOST_READY" =some (.int 60 t)
 gHE:mg "HaltError" =some (.ref Y.HE)
 xST:ExcC K mg "Sticks" Y.ST
 kST:ExcK K Y.ST
 gST:mg "Sticks" =some (.ref Y.ST)
 xTS:ExcC K mg "TooSoon" Y.TS
 kTS:ExcK K Y.TS
 gTS:mg "TooSoon" =some (.ref Y.TS)
 gBO:mg "BadOrders" =some (.ref Y.BO)
 gBB:mg "BadTable" =some (.ref Y.BB)
 hs:∀c∈[Y.ST,Y.TS],W.exmOne K (.ref c) (.ref Y.HE)=some true∧ExcK K c
 mgL:mg "Line" =some (.ref CL)
 cl:Cls K CL
 nM:NoAttr K CL "minutes"
 nG:NoAttr K CL "gap"
section
variable{P:Zv}{w:Zk}{K:Z8}{mg:Z4}{base:Y6}{CL:Z2}{Y:Ad}
seal L2.PD L2.lU L2.uI L2.PDW L2.FU L2.PN L2.PZ L2.lV L2.uL L2.Bc L2.Hv
abbrev iT:Stmt:=top 15
abbrev ij:List Str:=["runs","clear","run"]
@[irreducible] def fA (K:Z8)(CL:Z2)(Y:Ad):DS→Out:=(av (dX (jB (iE (kI 1) (c1 (ac 0) bj) (kI 5) uK uK)) bad1 nxt)
  (av (b9 (sL (ac 0)) (aS 2) (dX (jB (iE (kI 1) (ac 2) (kI 20) uK uK)) bad1 nxt))
  (dX (jB (iE (kI 0) (ac 1) (kI 5) uK uK)) bad1 nxt)))
def bO (K:Z8)(CL:Z2)(Y:Ad):List D→Res D:=iZ 2 ij (fA K CL Y)
def sc_check_line:FnScope ij ["runs","clear"] (aj iT):=j_
def iB (T:Txt K mg CL Y)(S:Sta K mg "check_line" iT ["runs","clear"]):Cal P w K mg base "check_line" 1 ["runs","clear"] (freshSp K 0 (bO K CL Y)):=by
 refine S.cal (k:=0) (r:=0) (F:=fA K CL Y) sc_check_line [] (by decide) rfl λf cdv A outer s H E hr=>?_;unfold fA;exact(ai (bD (cR (fV iY iY ag (bp T.b_len (dv 0)) (t_ T.mS))) (ak cZ) a8)
   (ai (bA (j:=2) Zb rfl sc_check_line.nd rfl (.inl rfl) rfl (vO (bv (dv 0)))
    (ak (bD (cR (fV iY iY ag (dv 2) (t_ T.mR))) (ak cZ) a8)))
   (ak (bD (cR (fV iY iY ag (dv 1) (t_ T.mC))) (ak cZ) a8))))
abbrev vB:Stmt:=jV (top 14) 0
abbrev vC:Stmt:=jV (top 14) 1
abbrev sF:Stmt:=jV (top 14) 2
def g0 (CL:Z2):List D→Res D
 | [d]=>(li CL "minutes" d).bind λx=>cD [x]
 |_=>.bad
def kM (CL:Z2):List D→Res D
 | [d]=>li CL "gap" d
 |_=>.bad
def kh (K:Z8)(CL:Z2)(Y:Ad):List D→Res D
 | [.lst l,.int c]=>(bO K CL Y [.lst l,.int c]).bind λ_=>.ok (.ins CL ["minutes","gap"] [.tup l,.int c])
 |_=>.bad
def zH:DH CL (kh K CL Y):=by
 intro ds d h;unfold kh at h;split at h
 ·rename_i l c;cases q:bO K CL Y [.lst l,.int c] with
  |ok x=>rw[q]at h;cases h;exact⟨_,_,rfl⟩
  |exc x=>rw[q]at h;cases h
  |bad=>rw[q]at h;cases h
 ·cases h
def qB {E:XK}{H:Hp}{ds:Zy}(h:OkR E H (kh K CL Y ds)):∃l c,ds=[.lst l,.int c]:=by
 unfold kh at h;split at h
 ·exact⟨_,_,rfl⟩
 ·exact h.elim
def BW (v u:V):iN "gap" u (iN "minutes" v [])=([("minutes",v),("gap",u)]:List (Str×V)):=by
 show (if ("minutes" :Str)= "gap" then [(("minutes" :Str),u)] else (("minutes" :Str),v)::iN "gap" u [])=([("minutes",v),("gap",u)]:List (Str×V))
 rw[Ym (by decide +kernel)];rfl
def CT:FnScope ["self","runs","clear"] ["self","runs","clear"] (aj vB):=j_
def Cf {fd:Y7}(F:Fun K "__init__" "Line.__init__" vB f fd)(T:Txt K mg CL Y)(iB:Cal P w K mg base "check_line" 1 ["runs","clear"] (freshSp K 0 (bO K CL Y))):FnOk P w K mg base (CXF P w) 2 f fd ["self","runs","clear"] (rG K CL (kh K CL Y)):=by
 refine F.okF CT (λvs H Q E h=>?_) (λcdv A outer s H vs Q E hr h=>?_)
 ·obtain⟨p,dx,rest,ds,G,rfl,_,_,_,rl,ho,_⟩:=h;obtain⟨l,c,rfl⟩:=qB ho;have:=rl.length;simp only[length_cons,length_nil]at this ⊢;omega
 ·obtain⟨p,dx,rest,ds,G,rfl,hp,hs,gp,rl,ho,k⟩:=h;obtain⟨l,c,rfl⟩:=qB ho
  ·obtain⟨v1,r1,rfl,p1,rl⟩:=rl.inv;obtain⟨v2,r2,rfl,p2,rl⟩:=rl.inv;cases rl.inv0;have ho':OkR E H ((bO K CL Y [.lst l,.int c]).bind λ_=>.ok (D.ins CL ["minutes","gap"] [.tup l,.int c])):=ho;refine⟨_,uk (fK (dM (E:=E) (aO iB hr (aa (dv 1) (aa (dv 2) af)))))
    (uk (Aq (pv 0) (dM (E:=E) (zV T.b_tuple (dv 1))) rfl) (wW (Aq (pv 0) (pv 2) rfl))),?_⟩
   have ro:Ro K G (gF ["self","runs","clear"] [.ref p,v1,v2]) [none,some (.lst l),some (.int c)]:=Ro.skip (Ro.cons p1 (Ro.cons p2 Ro.nil));refine⟨G,_,hs,ro,ho'.fst,λd ed v G1 H1 x1 rp1=>?_⟩;refine⟨G1,_,x1.gh,ro.mono x1.gg,trivial,λd2 ed2 u G2 H2 x2 rp2=>?_⟩;have ed3:d2= .tup l:=by cases ed2;rfl
   subst ed3;have x:=x1.trans x2;have h2p:H2 p=some (.ins CL dx []):=x.hh _ _ hp;have g2p:G2 p=none:=by
    cases q:G2 p with
    |none=>rfl
    |some o=>
     rcases x.nw p o q with z|z|⟨ks,z⟩
     ·rw[gp]at z;cases z
     ·rw[hp]at z;cases z
     ·have h3:=x.gh p o q;rw[h2p]at h3;cases h3;cases z
   refine⟨_,rfl,p,CL,dx,[],rfl,h2p,T.cl,T.nM,(by show 0<1000;decide),_,rfl,_,rfl,p,CL,dx,_,rfl,au,T.cl,T.nG,(by show 1<1000;decide),?_⟩;refine k ["minutes","gap"] [.tup l,.int c] ?_ [("minutes",u),("gap",v2)] G2 _ rfl (.cons rp2 (.cons (p2.mono x.gg) .nil)) (by rw[au,BW]) (λb o e hb=>?_) x.gg (λb o e=>?_) x.nw g2p
   ·show (bO K CL Y [.lst l,.int c]).bind _=_;have:bO K CL Y [.lst l,.int c]= .ok d:=ed;rw[this];rfl
   ·rw[am hb,am hb];exact x.hh b o e
   ·have hb:b≠p:=λz=>by subst z;rw[g2p]at e;cases e
    rw[am hb,am hb];exact x.gh b o e
def CU:FnScope ["self"] ["self"] (aj vC):=j_
def Ch {fd:Y7}(F:Fun K "runs" "Line.runs" vC f fd)(T:Txt K mg CL Y):FnOk P w K mg base (CXF P w) 1 f fd ["self"] (pureSp K (g0 CL)):=by
 refine F.pure CU (λds h=>?_) (λcdv A outer s H E hr=>?_)
 ·unfold g0 at h;split at h
  ·rfl
  ·exact absurd rfl h
 ·refine⟨_,wV (Am (mm iD vY rfl T.b_list jP (aa (zR (dv 0) T.cl T.nM) af))),?_⟩;intro ds h
  match ds,h with
  | [d],h=>
   show ee ((((li CL "minutes" d).bind _).bind _).out _)=(li CL "minutes" d).bind _;cases li CL "minutes" d with
   |ok x=>
    show ee ((cD [x]).out Out.rt)=cD [x];cases cD [x] <;> rfl
   |_=>rfl
  | [],h=>exact absurd rfl h
  |_::_::_,h=>exact absurd rfl h
def AI:FnScope ["self"] ["self"] (aj sF):=j_
def zO {fd:Y7}(F:Fun K "clear" "Line.clear" sF f fd)(T:Txt K mg CL Y):FnOk P w K mg base (CXF P w) 1 f fd ["self"] (pureSp K (kM CL)):=by
 refine F.pure AI (λds h=>?_) (λcdv A outer s H E hr=>?_)
 ·unfold kM at h;split at h
  ·rfl
  ·exact absurd rfl h
 ·refine⟨_,wV (Am (zR (dv 0) T.cl T.nG)),?_⟩;intro ds h
  match ds,h with
  | [d],h=>
   show ee ((li CL "gap" d).out _)=li CL "gap" d;cases li CL "gap" d <;> rfl
  | [],h=>exact absurd rfl h
  |_::_::_,h=>exact absurd rfl h
abbrev iQ:Stmt:=top 34
abbrev ie:List Str:=["script","k","many","cell","stir"]
@[irreducible] def fu (K:Z8)(CL:Z2)(Y:Ad):DS→Out:=(av (aF 3 (kI 7))
  (av (dX (cG (ae (c1 (ac 0) bj) (kI 0) yx)) (aF 3 (ae (ac 0) (ae (ac 1) (c1 (ac 0) bj) oS) aH)) nxt)
  (av (aF 4 (ae (ae (ae (ae (ac 3) (kI 48271) gk) (ae (ae (ac 1) (kI 1) aW) (kI 7919) gk) aW) (c1 (ac 0) bj) aW) (kI 2147483647) oS))
  (av (aF 4 (ae (ae (ae (ae (ac 4) (ac 4) gk) (ae (ac 1) (kI 16807) gk) aW) (kI 11) aW) (kI 2147483647) oS))
  (bR (ae (ae (ae (ae (ac 4) (kI 48271) gk) (kI 2147483647) oS) (kI 16) wf) (ac 2) oS))))))
def al (K:Z8)(CL:Z2)(Y:Ad):List D→Res D:=iZ 3 ie (fu K CL Y)
def sc__law_drawn:FnScope ie ["script","k","many"] (aj iQ):=j_
def aB (T:Txt K mg CL Y)(S:Sta K mg "_law_drawn" iQ ["script","k","many"]):Cal P w K mg base "_law_drawn" 1 ["script","k","many"] (freshSp K 0 (al K CL Y)):=by
 refine S.cal (k:=0) (r:=0) (F:=fu K CL Y) sc__law_drawn [] (by decide) rfl λf cdv A outer s H E hr=>?_;unfold fu;exact(ai (ax (i:=3) sc__law_drawn.nd rfl (.inl rfl) (a7 (PN.of ag)))
   (ai (bD (aR tm (bp T.b_len (dv 0)) ag (bo _)) (ak (ax (i:=3) sc__law_drawn.nd rfl (.inl rfl) (a7 (PN.of (ay (dv 0) (ar kG (dv 1) (bp T.b_len (dv 0)))))))) a8)
   (ai (ax (i:=4) sc__law_drawn.nd rfl (.inl rfl) (a7 (PN.of (ar kG (ar aE (ar aE (ar cP (dv 3) ag) (ar cP (ar aE (dv 1) ag) ag)) (bp T.b_len (dv 0))) ag))))
   (ai (ax (i:=4) sc__law_drawn.nd rfl (.inl rfl) (a7 (PN.of (ar kG (ar aE (ar aE (ar cP (dv 4) (dv 4)) (ar cP (dv 1) ag)) ag) ag))))
   (ak (ba (a7 (PN.of (ar kG (ar Br (ar kG (ar cP (dv 4) ag) ag) ag) (dv 2))))))))))
abbrev iS:Stmt:=top 35
abbrev ii:List Str:=["found"]
@[irreducible] def fy (K:Z8)(CL:Z2)(Y:Ad):DS→Out:=(bR (DM (λρ=>((ac 0) ρ).bind (eO K (cV (.ty "int")))) (EQ (λρ=>((ac 0) ρ).bind (eO K (cV (.ty "bool")))))))
def dI (K:Z8)(CL:Z2)(Y:Ad):List D→Res D:=iZ 1 ii (fy K CL Y)
def pW:FnScope ii ["found"] (aj iS):=j_
def iA (T:Txt K mg CL Y)(S:Sta K mg "_law_whole" iS ["found"]):Cal P w K mg base "_law_whole" 1 ["found"] (freshSp K 0 (dI K CL Y)):=by
 refine S.cal (k:=0) (r:=0) (F:=fy K CL Y) pW [] (by decide) rfl λf cdv A outer s H E hr=>?_;unfold fy;exact(ak (ba (a7 (PN.of (E0 (lx T.b_isinstance (dv 0) (sf rfl T.b_int DP rfl)) (E4 (E3 (lx T.b_isinstance (dv 0) (sf rfl T.b_bool Bj rfl)))))))))
abbrev kQ:Stmt:=top 36
abbrev kr:List Str:=["found","due","k"]
@[irreducible] def hX (K:Z8)(CL:Z2)(Y:Ad):DS→Out:=(av (dX (FO (jB (cG (λρ=>((ac 0) ρ).bind (eO K (cV (.ty "list")))))) (cG (ae (c1 (ac 0) bj) (c1 (ac 1) bj) lX))) (bR (kB false)) nxt)
  (av (b9 (sR1 (pC (c1 (ac 1) bj) pN)) (aS 2) (dX (FO (jB (cG (bb (pC (ae (ac 0) (ac 2) aH) pN) (dI K CL Y)))) (cG (ae (ae (ac 0) (ac 2) aH) (ae (ac 1) (ac 2) aH) lX))) (bR (kB false)) nxt))
  (bR (kB true))))
def d8 (K:Z8)(CL:Z2)(Y:Ad):List D→Res D:=iZ 2 kr (hX K CL Y)
def sc__law_row:FnScope kr ["found","due"] (aj kQ):=j_
def ky (T:Txt K mg CL Y)(S:Sta K mg "_law_row" kQ ["found","due"])(iA:Cal P w K mg base "_law_whole" 1 ["found"] (freshSp K 0 (dI K CL Y))):Cal P w K mg base "_law_row" 2 ["found","due"] (freshSp K 0 (d8 K CL Y)):=by
 refine S.cal (k:=1) (r:=0) (F:=hX K CL Y) sc__law_row [] (by decide) rfl λf cdv A outer s H E hr=>?_;unfold hX;exact(ai (bD (PDW.pt (se (cR (iM (lx T.b_isinstance (dv 0) (Ac T.b_list jP)))) (nI (aR (gU hr.units) (bp T.b_len (dv 0)) (bp T.b_len (dv 1)) (bo _))))) (ak (ba (a7 (PN.of ck)))) a8)
   (ai (bA (j:=2) Zb rfl sc__law_row.nd rfl (.inl rfl) rfl (du rfl T.b_range (aa (bp T.b_len (dv 1)) af))
    (ak (bD (PDW.pt (se (cR (iM (aO iA hr (aa (ay (dv 0) (dv 2)) af)))) (nI (aR (gU hr.units) (ay (dv 0) (dv 2)) (ay (dv 1) (dv 2)) (bo _))))) (ak (ba (a7 (PN.of ck)))) a8)))
   (ak (ba (a7 (PN.of ck))))))
abbrev jG:Stmt:=top 37
abbrev jg:List Str:=["found","due","k"]
@[irreducible] def gz (K:Z8)(CL:Z2)(Y:Ad):DS→Out:=(av (dX (FO (jB (cG (λρ=>((ac 0) ρ).bind (eO K (cV (.ty "list")))))) (cG (ae (c1 (ac 0) bj) (c1 (ac 1) bj) lX))) (bR (kB false)) nxt)
  (av (b9 (sR1 (pC (c1 (ac 1) bj) pN)) (aS 2) (dX (jB (cG (bb (pC (ae (ac 0) (ac 2) aH) (pC (ae (ac 1) (ac 2) aH) pN)) (d8 K CL Y)))) (bR (kB false)) nxt))
  (bR (kB true))))
def eP (K:Z8)(CL:Z2)(Y:Ad):List D→Res D:=iZ 2 jg (gz K CL Y)
def sc__law_rows:FnScope jg ["found","due"] (aj jG):=j_
def jj (T:Txt K mg CL Y)(S:Sta K mg "_law_rows" jG ["found","due"])(ky:Cal P w K mg base "_law_row" 2 ["found","due"] (freshSp K 0 (d8 K CL Y))):Cal P w K mg base "_law_rows" 3 ["found","due"] (freshSp K 0 (eP K CL Y)):=by
 refine S.cal (k:=2) (r:=0) (F:=gz K CL Y) sc__law_rows [] (by decide) rfl λf cdv A outer s H E hr=>?_;unfold gz;exact(ai (bD (PDW.pt (se (cR (iM (lx T.b_isinstance (dv 0) (Ac T.b_list jP)))) (nI (aR (gU hr.units) (bp T.b_len (dv 0)) (bp T.b_len (dv 1)) (bo _))))) (ak (ba (a7 (PN.of ck)))) a8)
   (ai (bA (j:=2) Zb rfl sc__law_rows.nd rfl (.inl rfl) rfl (du rfl T.b_range (aa (bp T.b_len (dv 1)) af))
    (ak (bD (cR (iM (aO ky hr (aa (ay (dv 0) (dv 2)) (aa (ay (dv 1) (dv 2)) af))))) (ak (ba (a7 (PN.of ck)))) a8)))
   (ak (ba (a7 (PN.of ck))))))
abbrev dQ:Stmt:=top 38
abbrev dC:List Str:=["script","base","many","runs"]
@[irreducible] def dz (K:Z8)(CL:Z2)(Y:Ad):DS→Out:=(av (aF 2 (ae (kI 1) (bb (pC (ac 0) (pC (ac 1) (pC (kI 5) pN))) (al K CL Y)) aW))
  (av (aF 3 (aU (sR1 (pC (ac 2) pN)) [none,some 0,some 1] (aS 0) yes (ae (kI 1) (bb (pC (ac 1) (pC (ae (ae (ac 2) (kI 2) aW) (ac 0) aW) (pC (ae (cU (pC (kI 4) (pC (kI 20) pN))) (bb (pC (ac 1) (pC (ae (ac 2) (kI 1) aW) (pC (kI 2) pN))) (al K CL Y)) aH) pN))) (al K CL Y)) aW)))
  (bR (cA (pC (ac 3) (pC (bb (pC (ac 0) (pC (ae (ac 1) (kI 8) aW) (pC (kI 6) pN))) (al K CL Y)) pN))))))
def cJ (K:Z8)(CL:Z2)(Y:Ad):List D→Res D:=iZ 2 dC (dz K CL Y)
def sc__law_line_by:FnScope dC ["script","base"] (aj dQ):=j_
def fZ (T:Txt K mg CL Y)(S:Sta K mg "_law_line_by" dQ ["script","base"])(aB:Cal P w K mg base "_law_drawn" 1 ["script","k","many"] (freshSp K 0 (al K CL Y))):Cal P w K mg base "_law_line_by" 2 ["script","base"] (freshSp K 0 (cJ K CL Y)):=by
 refine S.cal (k:=1) (r:=0) (F:=dz K CL Y) sc__law_line_by [] (by decide) rfl λf cdv A outer s H E hr=>?_;unfold dz;exact(ai (ax (i:=2) sc__law_line_by.nd rfl (.inl rfl) (a7 (PN.of (ar aE ag (aO aB hr (aa (dv 0) (aa (dv 1) (aa ag af))))))))
   (ai (Dw (Ap sc__law_line_by.nd (i:=3) rfl rfl rfl (a_ (N:=["k","script","base"]) (caps:=[none,some 0,some 1]) (aj dQ) dC rfl rfl (by decide +kernel)) (j:=0) rfl rfl (.inl rfl) (cO rfl T.b_range (aa (dv 2) af)) (λ_ _ _ _=>bu) (λ_ _ _ _=>(PN.of (ar aE ag (aO aB hr (aa (dv 1) (aa (ar aE (ar aE (dv 2) ag) (dv 0)) (aa (ay (ef (aa ag (aa ag af))) (aO aB hr (aa (dv 1) (aa (ar aE (dv 2) ag) (aa ag af))) cN)) af))) cN))))) rfl)
   (ak (ba (a7 (PN.of (cm (aa (dv 3) (aa (aO aB hr (aa (dv 0) (aa (ar aE (dv 1) ag) (aa ag af)))) af)))))))))
abbrev eA:Stmt:=top 39
abbrev cf:List Str:=["script","base","stretches","most","trains","k","start","goal"]
abbrev a9:List Nat:=[0,0,0,0,1,0,0,0]
@[irreducible] def bT (K:Z8)(CL:Z2)(Y:Ad):DS→Out:=(av (aF 4 (bz a9 (cU pN)))
  (av (b9 (sR1 (pC (ae (kI 1) (bb (pC (ac 0) (pC (ac 1) (pC (ac 3) pN))) (al K CL Y)) aW) pN)) (aS 5) (av (aF 6 (bz a9 (bb (pC (ac 0) (pC (ae (ae (ac 1) (kI 1) aW) (ae (kI 5) (ac 5) gk) aW) (pC (ae (ac 2) (kI 1) aW) pN))) (al K CL Y))))
  (av (aF 7 (bz a9 (ae (ae (ae (ac 6) (kI 1) aW) (bb (pC (ac 0) (pC (ae (ae (ac 1) (kI 2) aW) (ae (kI 5) (ac 5) gk) aW) (pC (ac 2) pN))) (al K CL Y)) aW) (ae (ac 2) (kI 1) aW) oS)))
  (av (dX (cG (ae (bb (pC (ac 0) (pC (ae (ae (ac 1) (kI 3) aW) (ae (kI 5) (ac 5) gk) aW) (pC (kI 3) pN))) (al K CL Y)) (kI 1) Bt)) (av (aF 6 (bz a9 (ae (bb (pC (ac 0) (pC (ae (ae (ac 1) (kI 4) aW) (ae (kI 5) (ac 5) gk) aW) (pC (kI 2) pN))) (al K CL Y)) (ac 2) gk)))
  (aF 7 (bz a9 (ae (ac 2) (ac 6) fN)))) nxt)
  (m6 4 (bz a9 (cA (pC (ac 6) (pC (ac 7) (pC (bb (pC (ac 0) (pC (ae (ae (ac 1) (kI 5) aW) (ae (kI 5) (ac 5) gk) aW) (pC (ae (cU (pC (kI 1) (pC (kI 9) (pC (kI 61) pN)))) (bb (pC (ac 0) (pC (ae (ac 1) (kI 40) aW) (pC (kI 3) pN))) (al K CL Y)) aH) pN))) (al K CL Y)) pN))))))))))
  (bR (ac 4))))
def bU (K:Z8)(CL:Z2)(Y:Ad):List D→Res D:=iZ 4 cf (bT K CL Y)
def sc__law_trains_by:FnScope cf ["script","base","stretches","most"] (aj eA):=j_
def dZ (T:Txt K mg CL Y)(S:Sta K mg "_law_trains_by" eA ["script","base","stretches","most"])(aB:Cal P w K mg base "_law_drawn" 1 ["script","k","many"] (freshSp K 0 (al K CL Y))):Cal P w K mg base "_law_trains_by" 2 ["script","base","stretches","most"] (freshSp K 1 (bU K CL Y)):=by
 refine S.cal (k:=1) (r:=1) (F:=bT K CL Y) sc__law_trains_by a9 (by decide) rfl λf cdv A outer s H E hr=>?_;unfold bT;exact(ai (ax (i:=4) sc__law_trains_by.nd rfl (.inl rfl) (ao (oZ af)))
   (ai (bA (j:=5) Zb rfl sc__law_trains_by.nd rfl (.inl rfl) rfl (du rfl T.b_range (aa (ar aE ag (aO aB hr (aa (dv 0) (aa (dv 1) (aa (dv 3) af))))) af))
    (ai (ax (i:=6) sc__law_trains_by.nd rfl (.inl rfl) (ao (PN.of (aO aB hr (aa (dv 0) (aa (ar aE (ar aE (dv 1) ag) (ar cP ag (dv 5))) (aa (ar aE (dv 2) ag) af)))))))
   (ai (ax (i:=7) sc__law_trains_by.nd rfl (.inl rfl) (ao (PN.of (ar kG (ar aE (ar aE (dv 6) ag) (aO aB hr (aa (dv 0) (aa (ar aE (ar aE (dv 1) ag) (ar cP ag (dv 5))) (aa (dv 2) af))))) (ar aE (dv 2) ag)))))
   (ai (bD (aR (vZ hr.units) (aO aB hr (aa (dv 0) (aa (ar aE (ar aE (dv 1) ag) (ar cP ag (dv 5))) (aa ag af)))) ag (bo _)) (ai (ax (i:=6) sc__law_trains_by.nd rfl (.inl rfl) (ao (PN.of (ar cP (aO aB hr (aa (dv 0) (aa (ar aE (ar aE (dv 1) ag) (ar cP ag (dv 5))) (aa ag af)))) (dv 2)))))
   (ak (ax (i:=7) sc__law_trains_by.nd rfl (.inl rfl) (ao (PN.of (ar ff (dv 2) (dv 6))))))) a8)
   (ak (my (j:=4) (n:=0) rfl rfl (.inl rfl) (ao (PN.of (cm (aa (dv 6) (aa (dv 7) (aa (aO aB hr (aa (dv 0) (aa (ar aE (ar aE (dv 1) ag) (ar cP ag (dv 5))) (aa (ay (ef (aa ag (aa ag (aa ag af)))) (aO aB hr (aa (dv 0) (aa (ar aE (dv 1) ag) (aa ag af))))) af)))) af))))))))))))
   (ak (gE (i:=4) rfl rfl (.inl rfl)))))
abbrev gr:Stmt:=top 40
abbrev fX:List Str:=["train"]
@[irreducible] def hZ (K:Z8)(CL:Z2)(Y:Ad):DS→Out:=(av (dX (cG (ae (ae (ac 0) (kI 0) aH) (ae (ac 0) (kI 1) aH) zG)) (bR (aU (sR2 (pC (ae (ac 0) (kI 0) aH) (pC (ae (ac 0) (kI 1) aH) pN))) [none] (aS 0) yes (ac 0))) nxt)
  (bR (ae (aU (sR2 (pC (ae (ac 0) (kI 1) aH) (pC (ae (ac 0) (kI 0) aH) pN))) [none] (aS 0) yes (ac 0)) (nG (kI 1)) ur)))
def aI (K:Z8)(CL:Z2)(Y:Ad):List D→Res D:=iZ 1 fX (hZ K CL Y)
def uv:FnScope fX ["train"] (aj gr):=j_
def bd (T:Txt K mg CL Y)(S:Sta K mg "_law_way" gr ["train"]):Cal P w K mg base "_law_way" 1 ["train"] (freshSp K 0 (aI K CL Y)):=by
 refine S.cal (k:=0) (r:=0) (F:=hZ K CL Y) uv [] (by decide) rfl λf cdv A outer s H E hr=>?_;unfold hZ;exact(ai (bD (aR qh (ay (dv 0) ag) (ay (dv 0) ag) (bo _)) (ak (ba (a7 (PN.of (PN.pd (bI (j:=0) rfl (a_ (N:=["k"]) (caps:=[none]) (aj gr) fX rfl rfl (by decide +kernel)) rfl rfl (.inl rfl) (oX rfl T.b_range (aa (ay (dv 0) ag) (aa (ay (dv 0) ag) af))) (λ_ _ _ _=>bu) (λ_ _ _ _=>(PN.of (dv 0))))))))) a8)
   (ak (ba (a7 (PN.of (PN.pd (Fm (PN.pd (bI (j:=0) rfl (a_ (N:=["k"]) (caps:=[none]) (aj gr) fX rfl rfl (by decide +kernel)) rfl rfl (.inl rfl) (oX rfl T.b_range (aa (ay (dv 0) ag) (aa (ay (dv 0) ag) af))) (λ_ _ _ _=>bu) (λ_ _ _ _=>(PN.of (dv 0))))) (mn ag))))))))
abbrev fM:Stmt:=top 41
abbrev fF:List Str:=["stretches","trains"]
@[irreducible] def fw (K:Z8)(CL:Z2)(Y:Ad):DS→Out:=(bR (aU (sR1 (pC (ac 0) pN)) [none,some 1] (aS 0) yes (aU (sR1 (pC (c1 (ac 1) bj) pN)) [none,some 0,some 1] (aS 0) (cG (ae (ac 1) (bb (pC (ae (ac 2) (ac 0) aH) pN) (aI K CL Y)) (pG false))) (ac 0))))
def cu (K:Z8)(CL:Z2)(Y:Ad):List D→Res D:=iZ 2 fF (fw K CL Y)
def pV:FnScope fF ["stretches","trains"] (aj fM):=j_
def iz (T:Txt K mg CL Y)(S:Sta K mg "_law_users" fM ["stretches","trains"])(bd:Cal P w K mg base "_law_way" 1 ["train"] (freshSp K 0 (aI K CL Y))):Cal P w K mg base "_law_users" 2 ["stretches","trains"] (freshSp K 0 (cu K CL Y)):=by
 refine S.cal (k:=1) (r:=0) (F:=fw K CL Y) pV [] (by decide) rfl λf cdv A outer s H E hr=>?_;unfold fw;exact(ak (ba (a7 (PN.of (PN.pd (bI (j:=0) rfl (a_ (N:=["stretch","trains"]) (caps:=[none,some 1]) (aj fM) fF rfl rfl (by decide +kernel)) rfl rfl (.inr rfl) (cO rfl T.b_range (aa (dv 0) af)) (λ_ _ _ _=>bu) (λ_ _ _ _=>(PN.of (PN.pd (bI (j:=0) rfl (k8 (N:=["k","stretch","trains"]) (caps:=[none,some 0,some 1]) (by decide +kernel)) rfl rfl (.inl rfl) (cO rfl T.b_range (aa (bp T.b_len (dv 1)) af)) (λ_ _ _ _=>jE (aR (yP hr.units) (dv 1) (aO bd hr (aa (ay (dv 2) (dv 0)) af) cN) (by rfl))) (λ_ _ _ _=>(PN.of (dv 0)))))))))))))
abbrev bF:Stmt:=top 42
abbrev bi:List Str:=["script","base","runs","gap","trains","mode","orders","stretch","left","row","ranks"]
abbrev aN:List Nat:=[0,0,0,0,0,0,2,0,1,1,0]
@[irreducible] def ce (K:Z8)(CL:Z2)(Y:Ad):DS→Out:=(av (aF 5 (bz aN (bb (pC (ac 0) (pC (ac 1) (pC (kI 3) pN))) (al K CL Y))))
  (av (dX (cG (ae (ac 5) (kI 0) Bt)) (av (aF 6 (bz aN (cU pN)))
  (av (b9 (sR1 (pC (c1 (ac 2) bj) pN)) (aS 7) (av (aF 8 (bz aN (bb (u9 (ae (bb (pC (c1 (ac 2) bj) (pC (ac 4) pN)) (cu K CL Y)) (ac 7) aH)) cD)))
  (av (aF 9 (bz aN (cU pN)))
  (av (cv (cG (ae (c1 (ac 8) bj) (kI 0) yx)) (ir 9 8 (bb (pC (ac 0) (pC (ae (ae (ae (ac 1) (kI 1) aW) (ae (kI 6) (ac 7) gk) aW) (c1 (ac 9) bj) aW) (pC (c1 (ac 8) bj) pN))) (al K CL Y))) 6)
  (nW 6 9)))))
  (bR (ac 6)))) nxt)
  (av (aF 10 (bz aN (aU (sE (pC (ac 4) pN)) [none,none,some 5] (iu 0 1) yes (cA (pC (ae (ae (ac 1) (kI 2) aH) (ae (ac 2) (kI 1) fN) gk) (pC (ac 0) pN))))))
  (av (aF 10 (bz aN (aU (sR1 (pC (c1 (ac 4) bj) pN)) [none,some 0,some 10,some 1] (aS 0) yes (cA (pC (ae (ae (ae (ac 2) (ac 0) aH) (kI 0) aH) (bb (pC (ac 1) (pC (ae (ae (ac 3) (kI 40) aW) (ac 0) aW) (pC (kI 9) pN))) (al K CL Y)) aW) (pC (ac 0) pN))))))
  (av (aF 9 (bz aN (aU (sL (c1 (ac 10) iW)) [none] (aS 0) yes (ae (ac 0) (kI 1) aH))))
  (bR (gN 2 (aU (sR1 (pC (c1 (ac 2) bj) pN)) [none,some 9,some 4] (aS 0) yes (aU (sL (ac 1)) [none,some 0,some 2] (aS 0) (cG (ae (ac 1) (bb (pC (ae (ac 2) (ac 0) aH) pN) (aI K CL Y)) (pG false))) (ac 0))))))))))
def bn (K:Z8)(CL:Z2)(Y:Ad):List D→Res D:=iZ 5 bi (ce K CL Y)
def sc__law_orders_by:FnScope bi ["script","base","runs","gap","trains"] (aj bF):=j_
def dY (T:Txt K mg CL Y)(S:Sta K mg "_law_orders_by" bF ["script","base","runs","gap","trains"])(aB:Cal P w K mg base "_law_drawn" 1 ["script","k","many"] (freshSp K 0 (al K CL Y)))(iz:Cal P w K mg base "_law_users" 2 ["stretches","trains"] (freshSp K 0 (cu K CL Y)))(bd:Cal P w K mg base "_law_way" 1 ["train"] (freshSp K 0 (aI K CL Y))):Cal P w K mg base "_law_orders_by" 3 ["script","base","runs","gap","trains"] (freshSp K 2 (bn K CL Y)):=by
 refine S.cal (k:=2) (r:=2) (F:=ce K CL Y) sc__law_orders_by aN (by decide) rfl λf cdv A outer s H E hr=>?_;unfold ce;exact(ai (ax (i:=5) sc__law_orders_by.nd rfl (.inr rfl) (ao (PN.of (aO aB hr (aa (dv 0) (aa (dv 1) (aa ag af)))))))
   (ai (bD (aR (vZ hr.units) (dv 5) ag (bo _)) (ai (ax (i:=6) sc__law_orders_by.nd rfl (.inl rfl) (ao (wS sr)))
   (ai (bA (j:=7) Zb rfl sc__law_orders_by.nd rfl (.inl rfl) rfl (du rfl T.b_range (aa (bp T.b_len (dv 2)) af))
    (ai (ax (i:=8) sc__law_orders_by.nd rfl (.inl rfl) (ao (wU (ay (aO iz hr (aa (bp T.b_len (dv 2)) (aa (dv 4) af))) (dv 7)) rfl T.b_list)))
   (ai (ax (i:=9) sc__law_orders_by.nd rfl (.inr rfl) (ao (oZ af)))
   (ai (oY 6 Zb (aR tm (bp T.b_len (dv 8)) ag (bo _)) (ak (yb (j:=9) (i:=8) (by decide) rfl rfl rfl rfl (.inr (.inl rfl)) (.inl rfl) (aO aB hr (aa (dv 0) (aa (ar aE (ar aE (ar aE (dv 1) ag) (ar cP ag (dv 7))) (bp T.b_len (dv 9))) (aa (bp T.b_len (dv 8)) af)))))))
   (ak (Ah (n:=1) (j:=6) (i:=9) (by decide) rfl rfl rfl rfl (.inl rfl) (.inr (.inl rfl))))))))
   (ak (gE (i:=6) rfl rfl (.inl rfl))))) a8)
   (ai (ax (i:=10) sc__law_orders_by.nd rfl (.inr rfl) (ao (PN.of (PN.pd (uf (j:=0) (l:=1) rfl (a_ (N:=["k","train","mode"]) (caps:=[none,none,some 5]) (aj bF) bi rfl rfl (by decide +kernel)) rfl rfl rfl rfl (.inl rfl) (.inl rfl) (hV rfl T.b_enumerate (aa (dv 4) af)) (λ_ _ _ _=>bu) (λ_ _ _ _=>(PN.of (cm (aa (ar cP (ay (dv 1) ag) (ar ff (dv 2) ag)) (aa (dv 0) af))))))))))
   (ai (ax (i:=10) sc__law_orders_by.nd rfl (.inr rfl) (ao (PN.of (PN.pd (bI (j:=0) rfl (a_ (N:=["k","script","ranks","base"]) (caps:=[none,some 0,some 10,some 1]) (aj bF) bi rfl rfl (by decide +kernel)) rfl rfl (.inl rfl) (cO rfl T.b_range (aa (bp T.b_len (dv 4)) af)) (λ_ _ _ _=>bu) (λ_ _ _ _=>(PN.of (cm (aa (ar aE (ay (ay (dv 2) (dv 0)) ag) (aO aB hr (aa (dv 1) (aa (ar aE (ar aE (dv 3) ag) (dv 0)) (aa ag af))) cN)) (aa (dv 0) af))))))))))
   (ai (ax (i:=9) sc__law_orders_by.nd rfl (.inr rfl) (ao (bI (j:=0) rfl (a_ (N:=["pair"]) (caps:=[none]) (aj bF) bi rfl rfl (by decide +kernel)) rfl rfl (.inl rfl) (bv (PN.pd (Al T.b_sorted (dv 10)))) (λ_ _ _ _=>bu) (λ_ _ _ _=>(PN.of (ay (dv 0) ag))))))
   (ak (ba (cS (bI (j:=0) rfl (a_ (N:=["stretch","row","trains"]) (caps:=[none,some 9,some 4]) (aj bF) bi rfl rfl (by decide +kernel)) rfl rfl (.inr rfl) (cO rfl T.b_range (aa (bp T.b_len (dv 2)) af)) (λ_ _ _ _=>bu) (λ_ _ _ _=>(bI (j:=0) rfl (k8 (N:=["k","stretch","trains"]) (caps:=[none,some 0,some 2]) (by decide +kernel)) rfl rfl (.inl rfl) (bv (dv 1)) (λ_ _ _ _=>jE (aR (yP hr.units) (dv 1) (aO bd hr (aa (ay (dv 2) (dv 0)) af) cN) (by rfl))) (λ_ _ _ _=>(PN.of (dv 0))))))))))))))
abbrev iR:Stmt:=top 43
abbrev ig:List Str:=["trains","orders","visit","mode","at","found","row","place"]
abbrev bq:List Nat:=[0,0,0,0,0,1,0,0]
@[irreducible] def fx (K:Z8)(CL:Z2)(Y:Ad):DS→Out:=(av (aF 3 (bz bq (bb (pC (ae (ac 0) (ae (ac 2) (kI 0) aH) aH) pN) (aI K CL Y))))
  (av (aF 4 (bz bq (ae (ac 3) (ae (ac 2) (kI 1) aH) m7)))
  (av (aF 5 (bz bq (cU pN)))
  (av (dX (cG (ae (ac 4) (kI 0) yx)) (m6 5 (bz bq (cA (pC (ae (ac 2) (kI 0) aH) (pC (ae (ac 3) (ae (ac 4) (kI 1) fN) aH) pN))))) nxt)
  (av (aF 6 (bz bq (ae (ac 1) (ae (ac 2) (kI 1) aH) aH)))
  (av (aF 7 (bz bq (ae (ac 6) (ae (ac 2) (kI 0) aH) m7)))
  (av (dX (cG (ae (ac 7) (kI 0) yx)) (m6 5 (bz bq (cA (pC (ae (ac 6) (ae (ac 7) (kI 1) fN) aH) (pC (ae (ac 2) (kI 1) aH) pN))))) nxt)
  (bR (ac 5)))))))))
def br (K:Z8)(CL:Z2)(Y:Ad):List D→Res D:=iZ 3 ig (fx K CL Y)
def sc__law_waits:FnScope ig ["trains","orders","visit"] (aj iR):=j_
def dH (T:Txt K mg CL Y)(S:Sta K mg "_law_waits" iR ["trains","orders","visit"])(bd:Cal P w K mg base "_law_way" 1 ["train"] (freshSp K 0 (aI K CL Y))):Cal P w K mg base "_law_waits" 2 ["trains","orders","visit"] (freshSp K 1 (br K CL Y)):=by
 refine S.cal (k:=1) (r:=1) (F:=fx K CL Y) sc__law_waits bq (by decide) rfl λf cdv A outer s H E hr=>?_;unfold fx;exact(ai (ax (i:=3) sc__law_waits.nd rfl (.inl rfl) (ao (PN.of (aO bd hr (aa (ay (dv 0) (ay (dv 2) ag)) af)))))
   (ai (ax (i:=4) sc__law_waits.nd rfl (.inl rfl) (ao (PN.of (ua hr.units (dv 3) (ay (dv 2) ag) (t7 cW GH rJ)))))
   (ai (ax (i:=5) sc__law_waits.nd rfl (.inl rfl) (ao (oZ af)))
   (ai (bD (aR tm (dv 4) ag (bo _)) (ak (my (j:=5) (n:=0) rfl rfl (.inl rfl) (ao (PN.of (cm (aa (ay (dv 2) ag) (aa (ay (dv 3) (ar ff (dv 4) ag)) af))))))) a8)
   (ai (ax (i:=6) sc__law_waits.nd rfl (.inl rfl) (ao (PN.of (ay (dv 1) (ay (dv 2) ag)))))
   (ai (ax (i:=7) sc__law_waits.nd rfl (.inl rfl) (ao (PN.of (ua hr.units (dv 6) (ay (dv 2) ag) (t7 cW GH rJ)))))
   (ai (bD (aR tm (dv 7) ag (bo _)) (ak (my (j:=5) (n:=0) rfl rfl (.inl rfl) (ao (PN.of (cm (aa (ay (dv 6) (ar ff (dv 7) ag)) (aa (ay (dv 2) ag) af))))))) a8)
   (ak (gE (i:=5) rfl rfl (.inl rfl))))))))))
abbrev fL:Stmt:=top 44
abbrev fD:List Str:=["runs","gap","trains","orders","enters","k","stretch","lap","turned","visit","other","soonest"]
abbrev aC:List Nat:=[0,0,0,0,1,0,0,0,0,0,0,0]
@[irreducible] def fv (K:Z8)(CL:Z2)(Y:Ad):DS→Out:=(av (aF 4 (bz aC (λ_=>Res.ok (.dct [] []))))
  (av (b9 (sR1 (pC (c1 (ac 2) bj) pN)) (aS 5) (b9 (nE aC (sL (bb (pC (ae (ac 2) (ac 5) aH) pN) (aI K CL Y)))) (aS 6) (cH 4 (cA (pC (ac 5) (pC (ac 6) pN))) (bz aC (ae (ae (ac 2) (ac 5) aH) (kI 2) aH)))))
  (av (b9 (sR1 (pC (ae (c1 (ac 4) rY) (kI 1) aW) pN)) (aS 7) (av (aF 8 (bz aC (kB false)))
  (av (b9 (sL (gN 1 (bb (u9 (ac 4)) cT))) (aS 9) (b9 (nE aC (sL (bb (pC (ac 2) (pC (ac 3) (pC (ac 9) pN))) (br K CL Y)))) (aS 10) (av (aF 11 (gN 0 (ae (ae (ac 4) (ac 10) aT) (ae (ac 0) (ae (ac 10) (kI 1) aH) aH) aW)))
  (av (dX (cG (ae (ae (ac 10) (kI 0) aH) (ae (ac 9) (kI 0) aH) lX)) (aF 11 (bz aC (ae (ac 11) (ac 1) aW))) nxt)
  (dX (cG (ae (ae (ac 4) (ac 9) aT) (ac 11) zG)) (av (cH 4 (ac 9) (bz aC (ac 11)))
  (aF 8 (bz aC (kB true)))) nxt)))))
  (dX (jB (cG (ac 8))) (bR (gN 2 (aU (sR1 (pC (c1 (ac 2) bj) pN)) [none,some 4,some 2] (aS 0) yes (aU (sL (bb (pC (ae (ac 2) (ac 0) aH) pN) (aI K CL Y))) [none,some 1,some 0] (aS 0) yes (ae (ac 1) (cA (pC (ac 2) (pC (ac 0) pN))) aT))))) nxt))))
  (bR (bz aC (gN 1 (gN 0 kN)))))))
def b8 (K:Z8)(CL:Z2)(Y:Ad):List D→Res D:=iZ 4 fD (fv K CL Y)
def sc__law_least:FnScope fD ["runs","gap","trains","orders"] (aj fL):=j_
def iw (T:Txt K mg CL Y)(S:Sta K mg "_law_least" fL ["runs","gap","trains","orders"])(dH:Cal P w K mg base "_law_waits" 2 ["trains","orders","visit"] (freshSp K 1 (br K CL Y)))(bd:Cal P w K mg base "_law_way" 1 ["train"] (freshSp K 0 (aI K CL Y))):Cal P w K mg base "_law_least" 3 ["runs","gap","trains","orders"] (freshSp K 2 (b8 K CL Y)):=by
 refine S.cal (k:=2) (r:=2) (F:=fv K CL Y) sc__law_least aC (by decide) rfl λf cdv A outer s H E h=>?_;unfold fv;exact(ai (ax (i:=4) sc__law_least.nd rfl (.inr rfl) (ao j6))
   (ai (bA (j:=5) Zb rfl sc__law_least.nd rfl (.inl rfl) rfl (du rfl T.b_range (aa (bp T.b_len (dv 2)) af))
    (ak (bA (j:=6) Zb rfl sc__law_least.nd rfl (.inl rfl) rfl (cw (bv (aO bd h (aa (ay (dv 2) (dv 5)) af))))
    (ak (fJ (j:=4) (n:=0) h.units rfl rfl (.inr (.inl rfl)) (cm (aa (dv 5) (aa (dv 6) af))) (ao (PN.of (ay (ay (dv 2) (dv 5)) ag))))))))
   (ai (bA (j:=7) Zb rfl sc__law_least.nd rfl (.inl rfl) rfl (du rfl T.b_range (aa (ar aE (wF T.b_len (dv 4)) ag) af))
    (ai (ax (i:=8) sc__law_least.nd rfl (.inl rfl) (ao (PN.of ck)))
   (ai (bA (j:=9) Zb rfl sc__law_least.nd rfl (.inl rfl) rfl (xb (PZ.zero (cS (ug T.b_list (dv 4)))))
    (ak (bA (j:=10) Zb rfl sc__law_least.nd rfl (.inl rfl) rfl (cw (bv (aO dH h (aa (dv 2) (aa (dv 3) (aa (dv 9) af))))))
    (ai (ax (i:=11) sc__law_least.nd rfl (.inl rfl) (cS (PN.of (ar aE (cE h.units (dv 4) (dv 10)) (ay (dv 0) (ay (dv 10) ag))))))
   (ai (bD (aR (gU h.units) (ay (dv 10) ag) (ay (dv 9) ag) (bo _)) (ak (ax (i:=11) sc__law_least.nd rfl (.inl rfl) (ao (PN.of (ar aE (dv 11) (dv 1)))))) a8)
   (ak (bD (aR qh (cE h.units (dv 4) (dv 9)) (dv 11) (bo _)) (ai (fJ (j:=4) (n:=0) h.units rfl rfl (.inr (.inl rfl)) (dv 9) (ao (PN.of (dv 11))))
   (ak (ax (i:=8) sc__law_least.nd rfl (.inl rfl) (ao (PN.of ck))))) a8)))))))
   (ak (bD (cR (iM (dv 8))) (ak (ba (cS (bI (j:=0) rfl (a_ (N:=["k","enters","trains"]) (caps:=[none,some 4,some 2]) (aj fL) fD rfl rfl (by decide +kernel)) rfl rfl (.inr rfl) (cO rfl T.b_range (aa (bp T.b_len (dv 2)) af)) (λ_ _ _ _=>bu) (λ_ _ _ _=>(bI (j:=0) rfl (k8 (N:=["stretch","enters","k"]) (caps:=[none,some 1,some 0]) (by decide +kernel)) rfl rfl (.inl rfl) (bv (aO bd h (aa (ay (dv 2) (dv 0)) af) cN)) (λ_ _ _ _=>bu) (λ_ _ _ _=>(PN.of (cE h.units (dv 1) (cm (aa (dv 2) (aa (dv 0) af)))))))))))) a8)))))
   (ak (ba (ao (PN.up (PN.up (PN.of mq)))))))))
abbrev eI:Stmt:=top 46
abbrev eD:List Str:=["runs","gap","trains","orders","limit","enters","k","stretch","turned","visit","other","soonest"]
abbrev aA:List Nat:=[0,0,0,0,0,1,0,0,0,0,0,0]
@[irreducible] def eB (K:Z8)(CL:Z2)(Y:Ad):DS→Out:=(av (aF 5 (bz aA (λ_=>Res.ok (.dct [] []))))
  (av (b9 (sR1 (pC (c1 (ac 2) bj) pN)) (aS 6) (b9 (nE aA (sL (bb (pC (ae (ac 2) (ac 6) aH) pN) (aI K CL Y)))) (aS 7) (cH 5 (cA (pC (ac 6) (pC (ac 7) pN))) (bz aA (ae (ac 4) (ae (ac 0) (ac 7) aH) fN)))))
  (av (aF 8 (bz aA (kB true)))
  (av (cv (cG (ac 8)) (av (aF 8 (bz aA (kB false)))
  (b9 (sL (gN 1 (bb (u9 (ac 5)) cT))) (aS 9) (b9 (nE aA (sL (bb (pC (ac 2) (pC (ac 3) (pC (ac 9) pN))) (br K CL Y)))) (aS 10) (av (aF 11 (gN 0 (ae (ae (ac 5) (ac 9) aT) (ae (ac 0) (ae (ac 10) (kI 1) aH) aH) fN)))
  (av (dX (cG (ae (ae (ac 10) (kI 0) aH) (ae (ac 9) (kI 0) aH) lX)) (aF 11 (bz aA (ae (ac 11) (ac 1) fN))) nxt)
  (dX (cG (ae (ae (ac 5) (ac 10) aT) (ac 11) yx)) (av (cH 5 (ac 10) (bz aA (ac 11)))
  (aF 8 (bz aA (kB true)))) nxt)))))) 60)
  (bR (gN 2 (aU (sR1 (pC (c1 (ac 2) bj) pN)) [none,some 5,some 2] (aS 0) yes (aU (sL (bb (pC (ae (ac 2) (ac 0) aH) pN) (aI K CL Y))) [none,some 1,some 0] (aS 0) yes (ae (ac 1) (cA (pC (ac 2) (pC (ac 0) pN))) aT)))))))))
def cy (K:Z8)(CL:Z2)(Y:Ad):List D→Res D:=iZ 5 eD (eB K CL Y)
def sc__law_latest:FnScope eD ["runs","gap","trains","orders","limit"] (aj eI):=j_
def gI (T:Txt K mg CL Y)(S:Sta K mg "_law_latest" eI ["runs","gap","trains","orders","limit"])(dH:Cal P w K mg base "_law_waits" 2 ["trains","orders","visit"] (freshSp K 1 (br K CL Y)))(bd:Cal P w K mg base "_law_way" 1 ["train"] (freshSp K 0 (aI K CL Y))):Cal P w K mg base "_law_latest" 3 ["runs","gap","trains","orders","limit"] (freshSp K 2 (cy K CL Y)):=by
 refine S.cal (k:=2) (r:=2) (F:=eB K CL Y) sc__law_latest aA (by decide) rfl λf cdv A outer s H E h=>?_;unfold eB;exact(ai (ax (i:=5) sc__law_latest.nd rfl (.inr rfl) (ao j6))
   (ai (bA (j:=6) Zb rfl sc__law_latest.nd rfl (.inl rfl) rfl (du rfl T.b_range (aa (bp T.b_len (dv 2)) af))
    (ak (bA (j:=7) Zb rfl sc__law_latest.nd rfl (.inl rfl) rfl (cw (bv (aO bd h (aa (ay (dv 2) (dv 6)) af))))
    (ak (fJ (j:=5) (n:=0) h.units rfl rfl (.inr (.inl rfl)) (cm (aa (dv 6) (aa (dv 7) af))) (ao (PN.of (ar ff (dv 4) (ay (dv 0) (dv 7))))))))))
   (ai (ax (i:=8) sc__law_latest.nd rfl (.inl rfl) (ao (PN.of ck)))
   (ai (oY 60 Zb (iM (dv 8)) (ai (ax (i:=8) sc__law_latest.nd rfl (.inl rfl) (ao (PN.of ck)))
   (ak (bA (j:=9) Zb rfl sc__law_latest.nd rfl (.inl rfl) rfl (xb (PZ.zero (cS (ug T.b_list (dv 5)))))
    (ak (bA (j:=10) Zb rfl sc__law_latest.nd rfl (.inl rfl) rfl (cw (bv (aO dH h (aa (dv 2) (aa (dv 3) (aa (dv 9) af))))))
    (ai (ax (i:=11) sc__law_latest.nd rfl (.inl rfl) (cS (PN.of (ar ff (cE h.units (dv 5) (dv 9)) (ay (dv 0) (ay (dv 10) ag))))))
   (ai (bD (aR (gU h.units) (ay (dv 10) ag) (ay (dv 9) ag) (bo _)) (ak (ax (i:=11) sc__law_latest.nd rfl (.inl rfl) (ao (PN.of (ar ff (dv 11) (dv 1)))))) a8)
   (ak (bD (aR tm (cE h.units (dv 5) (dv 10)) (dv 11) (bo _)) (ai (fJ (j:=5) (n:=0) h.units rfl rfl (.inr (.inl rfl)) (dv 10) (ao (PN.of (dv 11))))
   (ak (ax (i:=8) sc__law_latest.nd rfl (.inl rfl) (ao (PN.of ck))))) a8))))))))))
   (ak (ba (cS (bI (j:=0) rfl (a_ (N:=["k","enters","trains"]) (caps:=[none,some 5,some 2]) (aj eI) eD rfl rfl (by decide +kernel)) rfl rfl (.inr rfl) (cO rfl T.b_range (aa (bp T.b_len (dv 2)) af)) (λ_ _ _ _=>bu) (λ_ _ _ _=>(bI (j:=0) rfl (k8 (N:=["stretch","enters","k"]) (caps:=[none,some 1,some 0]) (by decide +kernel)) rfl rfl (.inl rfl) (bv (aO bd h (aa (ay (dv 2) (dv 0)) af) cN)) (λ_ _ _ _=>bu) (λ_ _ _ _=>(PN.of (cE h.units (dv 1) (cm (aa (dv 2) (aa (dv 0) af))))))))))))))))
abbrev gQ:Stmt:=top 17
abbrev gH:List Str:=["line","train","last_halt","halt","ready"]
@[irreducible] def eC (K:Z8)(CL:Z2)(Y:Ad):DS→Out:=(av (dX (cG (ae (c1 (ac 1) bj) (kI 3) lX)) bad1 nxt)
  (av (aF 2 (c1 (ki CL "runs" (ac 0) (g0 CL)) bj))
  (av (b9 (sT (FP (ac 1) oN (oI (kI 2)))) (aS 3) (dX (jB (iE (kI 0) (ac 3) (ac 2) uK uK)) bad1 nxt))
  (av (dX (cG (ae (ae (ac 1) (kI 0) aH) (ae (ac 1) (kI 1) aH) Bt)) bad1 nxt)
  (av (aF 4 (ae (ac 1) (kI 2) aH))
  (dX (jB (iE (kI 0) (ac 4) (kI 60) uK uK)) bad1 nxt))))))
def cz (K:Z8)(CL:Z2)(Y:Ad):List D→Res D:=iZ 2 gH (eC K CL Y)
def sc_check_train:FnScope gH ["line","train"] (aj gQ):=j_
def gJ (T:Txt K mg CL Y)(S:Sta K mg "check_train" gQ ["line","train"])(c_runs:CalM P w K mg base CL "runs" 1 (g0 CL)):Cal P w K mg base "check_train" 2 ["line","train"] (freshSp K 0 (cz K CL Y)):=by
 refine S.cal (k:=1) (r:=0) (F:=eC K CL Y) sc_check_train [] (by decide) rfl λf cdv A outer s H E hr=>?_;unfold eC;exact(ai (bD (aR (gU hr.units) (bp T.b_len (dv 1)) ag (bo _)) (ak cZ) a8)
   (ai (ax (i:=2) sc_check_train.nd rfl (.inl rfl) (a7 (PN.of (bp T.b_len (ub c_runs hr (dv 0))))))
   (ai (bA (j:=3) Zb rfl sc_check_train.nd rfl (.inl rfl) rfl (vO (Ct (oT (dv 1) oU (oV ag))))
    (ak (bD (cR (fV iY iY ag (dv 3) (dv 2))) (ak cZ) a8)))
   (ai (bD (aR (vZ hr.units) (ay (dv 1) ag) (ay (dv 1) ag) (bo _)) (ak cZ) a8)
   (ai (ax (i:=4) sc_check_train.nd rfl (.inl rfl) (a7 (PN.of (ay (dv 1) ag))))
   (ak (bD (cR (fV iY iY ag (dv 4) (t_ T.mY))) (ak cZ) a8)))))))
abbrev AH:Stmt:=top 16
abbrev yD:List Str:=["line","train","start","end"]
@[irreducible] def vS (K:Z8)(CL:Z2)(Y:Ad):DS→Out:=(av (we (bb (pC (ac 0) (pC (ac 1) pN)) (cz K CL Y)))
  (av (aF 2 (ae (ac 1) (kI 0) aH))
  (av (aF 3 (ae (ac 1) (kI 1) aH))
  (av (dX (cG (ae (ac 2) (ac 3) zG)) (bR (bb (pC (ac 2) (pC (ac 3) pN)) qz)) nxt)
  (bR (bb (pC (ae (ac 2) (kI 1) fN) (pC (ae (ac 3) (kI 1) fN) (pC (nG (kI 1)) pN))) qA))))))
def tU (K:Z8)(CL:Z2)(Y:Ad):List D→Res D:=iZ 2 yD (vS K CL Y)
def sc_way:FnScope yD ["line","train"] (aj AH):=j_
def yM (T:Txt K mg CL Y)(S:Sta K mg "way" AH ["line","train"])(gJ:Cal P w K mg base "check_train" 2 ["line","train"] (freshSp K 0 (cz K CL Y))):Cal P w K mg base "way" 3 ["line","train"] (freshSp K 0 (tU K CL Y)):=by
 refine S.cal (k:=2) (r:=0) (F:=vS K CL Y) sc_way [] (by decide) rfl λf cdv A outer s H E hr=>?_;unfold vS;exact(ai (wR (aO gJ hr (aa (dv 0) (aa (dv 1) af))))
   (ai (ax (i:=2) sc_way.nd rfl (.inl rfl) (a7 (PN.of (ay (dv 1) ag))))
   (ai (ax (i:=3) sc_way.nd rfl (.inl rfl) (a7 (PN.of (ay (dv 1) ag))))
   (ai (bD (aR qh (dv 2) (dv 3) (bo _)) (ak (ba (a7 (PN.of (vp rfl rfl T.b_list rfl T.b_range (aa (dv 2) (aa (dv 3) af))))))) a8)
   (ak (ba (a7 (PN.of (vq rfl rfl T.b_list rfl T.b_range (aa (ar ff (dv 2) ag) (aa (ar ff (dv 3) ag) (aa (mn ag) af))))))))))))
abbrev sG:Stmt:=top 18
abbrev qU:List Str:=["line","trains"]
@[irreducible] def qT (K:Z8)(CL:Z2)(Y:Ad):DS→Out:=(av (dX (jB (iE (kI 1) (c1 (ac 1) bj) (kI 5) uK uK)) bad1 nxt)
  (bR (aU (sL (ac 1)) [none,some 0] (aS 0) yes (bb (pC (ac 1) (pC (ac 0) pN)) (tU K CL Y)))))
def mi (K:Z8)(CL:Z2)(Y:Ad):List D→Res D:=iZ 2 qU (qT K CL Y)
def CV:FnScope qU ["line","trains"] (aj sG):=j_
def uO (T:Txt K mg CL Y)(S:Sta K mg "ways" sG ["line","trains"])(yM:Cal P w K mg base "way" 3 ["line","train"] (freshSp K 0 (tU K CL Y))):Cal P w K mg base "ways" 4 ["line","trains"] (freshSp K 0 (mi K CL Y)):=by
 refine S.cal (k:=3) (r:=0) (F:=qT K CL Y) CV [] (by decide) rfl λf cdv A outer s H E hr=>?_;unfold qT;exact(ai (bD (cR (fV iY iY ag (bp T.b_len (dv 1)) (t_ T.mT))) (ak cZ) a8)
   (ak (ba (a7 (PN.of (PN.pd (bI (j:=0) rfl (a_ (N:=["train","line"]) (caps:=[none,some 0]) (aj sG) qU rfl rfl (by decide +kernel)) rfl rfl (.inl rfl) (bv (dv 1)) (λ_ _ _ _=>bu) (λ_ _ _ _=>(PN.of (aO yM hr (aa (dv 1) (aa (dv 0) af)) cN))))))))))
abbrev dR:Stmt:=top 21
abbrev dF:List Str:=["stretches","paths","orders","stretch","order","going"]
@[irreducible] def dA (K:Z8)(CL:Z2)(Y:Ad):DS→Out:=(av (dX (cG (ae (c1 (ac 2) bj) (ac 0) lX)) bad1 nxt)
  (b9 (sE (pC (ac 2) pN)) (iu 3 4) (av (aF 5 (aU (sE (pC (ac 1) pN)) [none,none,some 3] (iu 0 1) (cG (ae (ac 2) (ac 1) (pG false))) (ac 0)))
  (dX (cG (ae (c1 (ac 4) mF) (ac 5) lX)) bad1 nxt))))
def ci (K:Z8)(CL:Z2)(Y:Ad):List D→Res D:=iZ 3 dF (dA K CL Y)
def sc_check_orders:FnScope dF ["stretches","paths","orders"] (aj dR):=j_
def f6 (T:Txt K mg CL Y)(S:Sta K mg "check_orders" dR ["stretches","paths","orders"]):Cal P w K mg base "check_orders" 1 ["stretches","paths","orders"] (freshSp K 0 (ci K CL Y)):=by
 refine S.cal (k:=0) (r:=0) (F:=dA K CL Y) sc_check_orders [] (by decide) rfl λf cdv A outer s H E hr=>?_;unfold dA;exact(ai (bD (aR (gU hr.units) (bp T.b_len (dv 2)) (dv 0) (bo _)) (ak cZ) a8)
   (ak (lB (j:=3) (k:=4) Zb rfl sc_check_orders.nd rfl rfl (.inr rfl) (.inl rfl) rfl rfl (vO (hV rfl T.b_enumerate (aa (dv 2) af)))
    (ai (Dw (Ao sc_check_orders.nd (i:=5) rfl rfl rfl (a_ (N:=["train","path","stretch"]) (caps:=[none,none,some 3]) (aj dR) dF rfl rfl (by decide +kernel)) (j:=0) (l:=1) rfl rfl rfl rfl (.inl rfl) (.inl rfl) (hV rfl T.b_enumerate (aa (dv 1) af)) (λ_ _ _ _=>jE (aR (yP hr.units) (dv 2) (dv 1) (by rfl))) (λ_ _ _ _=>(PN.of (dv 0)))) rfl)
   (ak (bD (aR (gU hr.units) (Ak T.b_sorted (dv 4)) (dv 5) (bo _)) (ak cZ) a8))))))
abbrev kR:Stmt:=top 20
abbrev ku:List Str:=["line","paths","orders","runs","gap","waits","train","path","stretch","ahead","behind","order"]
abbrev bx:List Nat:=[0,0,0,0,0,2,0,0,0,0,0,0]
@[irreducible] def ia (K:Z8)(CL:Z2)(Y:Ad):DS→Out:=(av (aF 3 (bz bx (ki CL "runs" (ac 0) (g0 CL))))
  (av (aF 4 (bz bx (ki CL "clear" (ac 0) (kM CL))))
  (av (we (bb (pC (c1 (ac 3) bj) (pC (ac 1) (pC (ac 2) pN))) (ci K CL Y)))
  (av (aF 5 (bz bx (λ_=>Res.ok (.dct [] []))))
  (av (b9 (nE bx (sE (pC (ac 1) pN))) (iu 6 7) (av (b9 (nE bx (sL (ac 7))) (aS 8) (cH 5 (cA (pC (ac 6) (pC (ac 8) pN))) (bz bx (cU pN))))
  (b9 (nE bx (sZ (pC (ac 7) (pC (FP (ac 7) (oI (kI 1)) oN) pN)))) (iu 9 10) (qW 5 1 (Bg 5 0 (sN 5) (cA (pC (ac 6) (pC (ac 10) pN)))) (bz bx (cA (pC (cA (pC (ac 6) (pC (ac 9) pN))) (pC (ae (ac 3) (ac 9) aH) pN))))))))
  (av (b9 (nE bx (sE (pC (ac 2) pN))) (iu 8 11) (b9 (nE bx (sZ (pC (ac 11) (pC (FP (ac 11) (oI (kI 1)) oN) pN)))) (iu 9 10) (qW 5 1 (Bg 5 0 (sN 5) (cA (pC (ac 10) (pC (ac 8) pN)))) (bz bx (cA (pC (cA (pC (ac 9) (pC (ac 8) pN))) (pC (ae (ae (ac 3) (ac 8) aH) (ac 4) aW) pN)))))))
  (bR (ac 5))))))))
def gi (K:Z8)(CL:Z2)(Y:Ad):List D→Res D:=iZ 3 ku (ia K CL Y)
def sc_waits_of:FnScope ku ["line","paths","orders"] (aj kR):=j_
def kA (T:Txt K mg CL Y)(S:Sta K mg "waits_of" kR ["line","paths","orders"])(f6:Cal P w K mg base "check_orders" 1 ["stretches","paths","orders"] (freshSp K 0 (ci K CL Y)))(c_runs:CalM P w K mg base CL "runs" 1 (g0 CL))(c_clear:CalM P w K mg base CL "clear" 1 (kM CL)):Cal P w K mg base "waits_of" 2 ["line","paths","orders"] (freshSp K 2 (gi K CL Y)):=by
 refine S.cal (k:=1) (r:=2) (F:=ia K CL Y) sc_waits_of bx (by decide) rfl λf cdv A outer s H E hr=>?_;unfold ia;exact(ai (ax (i:=3) sc_waits_of.nd rfl (.inl rfl) (ao (PN.of (ub c_runs hr (dv 0)))))
   (ai (ax (i:=4) sc_waits_of.nd rfl (.inl rfl) (ao (PN.of (ub c_clear hr (dv 0)))))
   (ai (wR (aO f6 hr (aa (bp T.b_len (dv 3)) (aa (dv 1) (aa (dv 2) af)))))
   (ai (ax (i:=5) sc_waits_of.nd rfl (.inl rfl) (ao j6))
   (ai (lB (j:=6) (k:=7) Zb rfl sc_waits_of.nd rfl rfl (.inl rfl) (.inl rfl) rfl rfl (cw (hV rfl T.b_enumerate (aa (dv 1) af)))
    (ai (bA (j:=8) Zb rfl sc_waits_of.nd rfl (.inl rfl) rfl (cw (bv (dv 7)))
    (ak (fJ (j:=5) (n:=1) hr.units rfl rfl (.inl rfl) (cm (aa (dv 6) (aa (dv 8) af))) (ao (oZ af)))))
   (ak (lB (j:=9) (k:=10) Zb rfl sc_waits_of.nd rfl rfl (.inl rfl) (.inl rfl) rfl rfl (cw (wM rfl T.b_zip (aa (dv 7) (aa (oT (dv 7) (oV ag) oU) af))))
    (ak (wQ (n:=1) (m:=0) rfl (Db (n:=0) (m:=1) hr.units rfl (nY (j:=5) rfl (.inl rfl)) (cm (aa (dv 6) (aa (dv 10) af)))) (ao (PN.of (cm (aa (cm (aa (dv 6) (aa (dv 9) af))) (aa (ay (dv 3) (dv 9)) af))))) (zN (r9 (ja (r9 (ja cW (ja cW t8))) (ja (t7 cW cW rJ) t8))))))))))
   (ai (lB (j:=8) (k:=11) Zb rfl sc_waits_of.nd rfl rfl (.inl rfl) (.inl rfl) rfl rfl (cw (hV rfl T.b_enumerate (aa (dv 2) af)))
    (ak (lB (j:=9) (k:=10) Zb rfl sc_waits_of.nd rfl rfl (.inl rfl) (.inl rfl) rfl rfl (cw (wM rfl T.b_zip (aa (dv 11) (aa (oT (dv 11) (oV ag) oU) af))))
    (ak (wQ (n:=1) (m:=0) rfl (Db (n:=0) (m:=1) hr.units rfl (nY (j:=5) rfl (.inl rfl)) (cm (aa (dv 10) (aa (dv 8) af)))) (ao (PN.of (cm (aa (cm (aa (dv 9) (aa (dv 8) af))) (aa (ar aE (ay (dv 3) (dv 8)) (dv 4)) af))))) (zN (r9 (ja (r9 (ja cW (ja cW t8))) (ja (t7 (t7 cW cW rJ) cW Bd) t8)))))))))
   (ak (gE (i:=5) rfl rfl (.inl rfl)))))))))
abbrev j9:Stmt:=top 24
abbrev jO:List Str:=["waits","turn","visit"]
@[irreducible] def jM (K:Z8)(CL:Z2)(Y:Ad):DS→Out:=(bR (aU (sL (ae (ac 0) (ac 2) aT)) [none,some 1] (aS 0) (cG (ae (ae (ac 0) (kI 0) aH) (ac 1) (pG true))) (ae (ac 0) (kI 0) aH)))
def fT (K:Z8)(CL:Z2)(Y:Ad):List D→Res D:=iZ 3 jO (jM K CL Y)
def vE:FnScope jO ["waits","turn","visit"] (aj j9):=j_
def lZ (T:Txt K mg CL Y)(S:Sta K mg "held_by" j9 ["waits","turn","visit"]):Cal P w K mg base "held_by" 1 ["waits","turn","visit"] (freshSp K 1 (fT K CL Y)):=by
 refine S.cal (k:=0) (r:=1) (F:=jM K CL Y) vE [] (by decide) rfl λf cdv A outer s H E hr=>?_;unfold jM;exact(ak (ba (a7 (bI (j:=0) rfl (a_ (N:=["wait","turn"]) (caps:=[none,some 1]) (aj j9) jO rfl rfl (by decide +kernel)) rfl rfl (.inl rfl) (bv (cE hr.units (dv 0) (dv 2))) (λ_ _ _ _=>jE (aR (tq hr.units) (ay (dv 0) ag) (dv 1) (by rfl))) (λ_ _ _ _=>(PN.of (ay (dv 0) ag)))))))
abbrev nO:Stmt:=top 23
abbrev nq:List Str:=["waits","turn"]
@[irreducible] def nk (K:Z8)(CL:Z2)(Y:Ad):DS→Out:=(bR (aU (sD (ac 0)) [none,some 1,some 0] (aS 0) (Be (cG (ae (ac 0) (ac 1) (pG true))) (jB (tR (bb (pC (ac 2) (pC (ac 1) (pC (ac 0) pN))) (fT K CL Y))))) (ac 0)))
def gC (K:Z8)(CL:Z2)(Y:Ad):List D→Res D:=iZ 2 nq (nk K CL Y)
def AJ:FnScope nq ["waits","turn"] (aj nO):=j_
def nu (T:Txt K mg CL Y)(S:Sta K mg "freed" nO ["waits","turn"])(lZ:Cal P w K mg base "held_by" 1 ["waits","turn","visit"] (freshSp K 1 (fT K CL Y))):Cal P w K mg base "freed" 2 ["waits","turn"] (freshSp K 1 (gC K CL Y)):=by
 refine S.cal (k:=1) (r:=1) (F:=nk K CL Y) AJ [] (by decide) rfl λf cdv A outer s H E hr=>?_;unfold nk;exact(ak (ba (a7 (bI (j:=0) rfl (a_ (N:=["visit","turn","waits"]) (caps:=[none,some 1,some 0]) (aj nO) nq rfl rfl (by decide +kernel)) rfl rfl (.inl rfl) (uc (dv 0)) (λ_ _ _ _=>jE (PDW.pt (Cn (aR (tq hr.units) (dv 0) (dv 1) (by rfl)) (zX (cR (wI (aO lZ hr (aa (dv 2) (aa (dv 1) (aa (dv 0) af))) cN))))))) (λ_ _ _ _=>(PN.of (dv 0)))))))
abbrev mD:Stmt:=top 22
abbrev lY:List Str:=["waits","turn","free"]
abbrev gj:List Nat:=[0,1,0]
@[irreducible] def jN (K:Z8)(CL:Z2)(Y:Ad):DS→Out:=(av (aF 1 (bz gj (cU pN)))
  (av (aF 2 (gN 1 (bb (pC (ac 0) (pC (ac 1) pN)) (gC K CL Y))))
  (av (cv (tR (ac 2)) (av (rq 1 0 (sN 1) (bz gj (ac 2)))
  (aF 2 (gN 1 (bb (pC (ac 0) (pC (ac 1) pN)) (gC K CL Y))))) 40)
  (bR (ac 1)))))
def fU (K:Z8)(CL:Z2)(Y:Ad):List D→Res D:=iZ 1 lY (jN K CL Y)
def sc_in_turn:FnScope lY ["waits"] (aj mD):=j_
def l0 (T:Txt K mg CL Y)(S:Sta K mg "in_turn" mD ["waits"])(nu:Cal P w K mg base "freed" 2 ["waits","turn"] (freshSp K 1 (gC K CL Y))):Cal P w K mg base "in_turn" 3 ["waits"] (freshSp K 1 (fU K CL Y)):=by
 refine S.cal (k:=2) (r:=1) (F:=jN K CL Y) sc_in_turn gj (by decide) rfl λf cdv A outer s H E hr=>?_;unfold jN;exact(ai (ax (i:=1) sc_in_turn.nd rfl (.inl rfl) (ao (oZ af)))
   (ai (ax (i:=2) sc_in_turn.nd rfl (.inl rfl) (PZ.zero (cS (km (n:=1) nu hr (aa (dv 0) (aa (dv 1) af))))))
   (ai (oY 40 Zb (wI (dv 2)) (ai (Cz (n:=0) rfl (nY (j:=1) rfl (.inl rfl)) (ao (PN.of (dv 2))) (zN cW))
   (ak (ax (i:=2) sc_in_turn.nd rfl (.inl rfl) (PZ.zero (cS (km (n:=1) nu hr (aa (dv 0) (aa (dv 1) af)))))))))
   (ak (gE (i:=1) rfl rfl (.inl rfl))))))
abbrev dS:Stmt:=top 28
abbrev dG:List Str:=["trains","waits","turn","enters","visit","ready"]
abbrev dc:List Nat:=[0,0,0,1,0,0]
@[irreducible] def dB (K:Z8)(CL:Z2)(Y:Ad):DS→Out:=(av (aF 3 (bz dc (λ_=>Res.ok (.dct [] []))))
  (av (b9 (nE dc (sL (ac 2))) (aS 4) (av (aF 5 (bz dc (ae (ae (ac 0) (ae (ac 4) (kI 0) aH) aH) (kI 2) aH)))
  (cH 3 (ac 4) (gN 0 (c1 (ae (cU (pC (ac 5) pN)) (aU (sL (ae (ac 1) (ac 4) aT)) [none,some 3] (aS 0) yes (ae (ae (ac 1) (ae (ac 0) (kI 0) aH) aT) (ae (ac 0) (kI 1) aH) aW)) aW) mj)))))
  (bR (ac 3))))
def cM (K:Z8)(CL:Z2)(Y:Ad):List D→Res D:=iZ 3 dG (dB K CL Y)
def sc_least_enters:FnScope dG ["trains","waits","turn"] (aj dS):=j_
def f7 (T:Txt K mg CL Y)(S:Sta K mg "least_enters" dS ["trains","waits","turn"]):Cal P w K mg base "least_enters" 1 ["trains","waits","turn"] (freshSp K 1 (cM K CL Y)):=by
 refine S.cal (k:=0) (r:=1) (F:=dB K CL Y) sc_least_enters dc (by decide) rfl λf cdv A outer s H E hr=>?_;unfold dB;exact(ai (ax (i:=3) sc_least_enters.nd rfl (.inr rfl) (ao j6))
   (ai (bA (j:=4) Zb rfl sc_least_enters.nd rfl (.inl rfl) rfl (cw (bv (dv 2)))
    (ai (ax (i:=5) sc_least_enters.nd rfl (.inl rfl) (ao (PN.of (ay (ay (dv 0) (ay (dv 4) ag)) ag))))
   (ak (fJ (j:=3) (n:=0) hr.units rfl rfl (.inr (.inl rfl)) (dv 4) (cS (PN.of (wH T.b_max (ar aE (ef (aa (dv 5) af)) (PN.pd (bI (j:=0) rfl (a_ (N:=["wait","enters"]) (caps:=[none,some 3]) (aj dS) dG rfl rfl (by decide +kernel)) rfl rfl (.inl rfl) (bv (cE hr.units (dv 1) (dv 4))) (λ_ _ _ _=>bu) (λ_ _ _ _=>(PN.of (ar aE (cE hr.units (dv 1) (ay (dv 0) ag)) (ay (dv 0) ag))))))))))))))
   (ak (gE (i:=3) rfl rfl (.inr (.inl rfl))))))
abbrev fm:Stmt:=top 29
abbrev eZ:List Str:=["line","waits","turn","limit","runs","enters","visit","wait"]
abbrev aZ:List Nat:=[0,0,0,0,0,1,0,0]
@[irreducible] def c_ (K:Z8)(CL:Z2)(Y:Ad):DS→Out:=(av (aF 4 (bz aZ (ki CL "runs" (ac 0) (g0 CL))))
  (av (aF 5 (bz aZ (λ_=>Res.ok (.dct [] []))))
  (av (b9 (nE aZ (sL (ac 2))) (aS 6) (cH 5 (ac 6) (bz aZ (ae (ac 3) (ae (ac 4) (ae (ac 6) (kI 1) aH) aH) fN))))
  (av (b9 (nE aZ (HU (ac 2))) (aS 6) (b9 (nE aZ (sL (ae (ac 1) (ac 6) aT))) (aS 7) (cH 5 (ae (ac 7) (kI 0) aH) (gN 0 (bb (pC (ae (ac 5) (ae (ac 7) (kI 0) aH) aT) (pC (ae (ae (ac 5) (ac 6) aT) (ae (ac 7) (kI 1) aH) fN) pN)) qD)))))
  (bR (ac 5))))))
def b0 (K:Z8)(CL:Z2)(Y:Ad):List D→Res D:=iZ 4 eZ (c_ K CL Y)
def sc_latest_enters:FnScope eZ ["line","waits","turn","limit"] (aj fm):=j_
def e7 (T:Txt K mg CL Y)(S:Sta K mg "latest_enters" fm ["line","waits","turn","limit"])(c_runs:CalM P w K mg base CL "runs" 1 (g0 CL)):Cal P w K mg base "latest_enters" 2 ["line","waits","turn","limit"] (freshSp K 1 (b0 K CL Y)):=by
 refine S.cal (k:=1) (r:=1) (F:=c_ K CL Y) sc_latest_enters aZ (by decide) rfl λf cdv A outer s H E hr=>?_;unfold c_;exact(ai (ax (i:=4) sc_latest_enters.nd rfl (.inl rfl) (ao (PN.of (ub c_runs hr (dv 0)))))
   (ai (ax (i:=5) sc_latest_enters.nd rfl (.inl rfl) (ao j6))
   (ai (bA (j:=6) Zb rfl sc_latest_enters.nd rfl (.inl rfl) rfl (cw (bv (dv 2)))
    (ak (fJ (j:=5) (n:=0) hr.units rfl rfl (.inl rfl) (dv 6) (ao (PN.of (ar ff (dv 3) (ay (dv 4) (ay (dv 6) ag))))))))
   (ai (bA (j:=6) Zb rfl sc_latest_enters.nd rfl (.inl rfl) rfl (cw (Cs T.b_reversed (dv 2)))
    (ak (bA (j:=7) Zb rfl sc_latest_enters.nd rfl (.inl rfl) rfl (cw (bv (cE hr.units (dv 1) (dv 6))))
    (ak (fJ (j:=5) (n:=0) hr.units rfl rfl (.inl rfl) (ay (dv 7) ag) (cS (PN.of (Cm T.b_min (aa (cE hr.units (dv 5) (ay (dv 7) ag)) (aa (ar ff (cE hr.units (dv 5) (dv 6)) (ay (dv 7) ag)) af))))))))))
   (ak (gE (i:=5) rfl rfl (.inl rfl)))))))
abbrev lK:Stmt:=top 32
abbrev kY:List Str:=["train","path","enters"]
@[irreducible] def kX (K:Z8)(CL:Z2)(Y:Ad):DS→Out:=(bR (aU (sL (ac 1)) [none,some 2,some 0] (aS 0) yes (ae (ac 1) (cA (pC (ac 2) (pC (ac 0) pN))) aT)))
def g_ (K:Z8)(CL:Z2)(Y:Ad):List D→Res D:=iZ 3 kY (kX K CL Y)
def yk:FnScope kY ["train","path","enters"] (aj lK):=j_
def n_ (T:Txt K mg CL Y)(S:Sta K mg "row_of" lK ["train","path","enters"]):Cal P w K mg base "row_of" 1 ["train","path","enters"] (freshSp K 1 (g_ K CL Y)):=by
 refine S.cal (k:=0) (r:=1) (F:=kX K CL Y) yk [] (by decide) rfl λf cdv A outer s H E hr=>?_;unfold kX;exact(ak (ba (a7 (bI (j:=0) rfl (a_ (N:=["stretch","enters","train"]) (caps:=[none,some 2,some 0]) (aj lK) kY rfl rfl (by decide +kernel)) rfl rfl (.inl rfl) (bv (dv 1)) (λ_ _ _ _=>bu) (λ_ _ _ _=>(PN.of (cE hr.units (dv 1) (cm (aa (dv 2) (aa (dv 0) af))))))))))
abbrev iU:Stmt:=top 31
abbrev ik:List Str:=["paths","enters"]
@[irreducible] def h_ (K:Z8)(CL:Z2)(Y:Ad):DS→Out:=(bR (aU (sE (pC (ac 0) pN)) [none,none,some 1] (iu 0 1) yes (bb (pC (ac 0) (pC (ac 1) (pC (ac 2) pN))) (g_ K CL Y))))
def d9 (K:Z8)(CL:Z2)(Y:Ad):List D→Res D:=iZ 2 ik (h_ K CL Y)
def uw:FnScope ik ["paths","enters"] (aj iU):=j_
def kz (T:Txt K mg CL Y)(S:Sta K mg "table_of" iU ["paths","enters"])(n_:Cal P w K mg base "row_of" 1 ["train","path","enters"] (freshSp K 1 (g_ K CL Y))):Cal P w K mg base "table_of" 2 ["paths","enters"] (freshSp K 2 (d9 K CL Y)):=by
 refine S.cal (k:=1) (r:=2) (F:=h_ K CL Y) uw [] (by decide) rfl λf cdv A outer s H E hr=>?_;unfold h_;exact(ak (ba (a7 (uf (j:=0) (l:=1) rfl (a_ (N:=["train","path","enters"]) (caps:=[none,none,some 1]) (aj iU) ik rfl rfl (by decide +kernel)) rfl rfl rfl rfl (.inl rfl) (.inl rfl) (hV rfl T.b_enumerate (aa (dv 0) af)) (λ_ _ _ _=>bu) (λ_ _ _ _=>(km (n:=1) n_ hr (aa (dv 0) (aa (dv 1) (aa (dv 2) af))) cN))))))
abbrev iV:Stmt:=top 27
abbrev il:List Str:=["waits","turn"]
@[irreducible] def fB (K:Z8)(CL:Z2)(Y:Ad):DS→Out:=(av (aF 1 (bb (pC (ac 0) pN) (fU K CL Y)))
  (av (dX (cG (ae (c1 (ac 1) bj) (c1 (ac 0) rY) zG)) (cX Y.ST λ_=>true) nxt)
  (bR (ac 1))))
def dJ (K:Z8)(CL:Z2)(Y:Ad):List D→Res D:=iZ 1 il (fB K CL Y)
def sc_whole_turn:FnScope il ["waits"] (aj iV):=j_
def iC (T:Txt K mg CL Y)(S:Sta K mg "whole_turn" iV ["waits"])(l0:Cal P w K mg base "in_turn" 3 ["waits"] (freshSp K 1 (fU K CL Y))):Cal P w K mg base "whole_turn" 4 ["waits"] (freshSp K 0 (dJ K CL Y)):=by
 refine S.cal (k:=3) (r:=0) (F:=fB K CL Y) sc_whole_turn [] (by decide) rfl λf cdv A outer s H E hr=>?_;unfold fB;exact(ai (ax (i:=1) sc_whole_turn.nd rfl (.inl rfl) (a7 (PN.of (aO l0 hr (aa (dv 0) af)))))
   (ai (bD (aR qh (bp T.b_len (dv 1)) (wF T.b_len (dv 0)) (bo _)) (ak (ue (GW T.xST))) a8)
   (ak (ba (a7 (PN.of (dv 1)))))))
abbrev jI:Stmt:=top 30
abbrev jh:List Str:=["line","enters","runs","leaves","visit"]
abbrev dL:List Nat:=[0,0,0,1,0]
@[irreducible] def gA (K:Z8)(CL:Z2)(Y:Ad):DS→Out:=(av (aF 2 (bz dL (ki CL "runs" (ac 0) (g0 CL))))
  (av (aF 3 (bz dL (λ_=>Res.ok (.dct [] []))))
  (av (b9 (nE dL (sD (ac 1))) (aS 4) (cH 3 (ac 4) (bz dL (ae (ae (ac 1) (ac 4) aT) (ae (ac 2) (ae (ac 4) (kI 1) aH) aH) aW))))
  (bR (ac 3)))))
def eQ (K:Z8)(CL:Z2)(Y:Ad):List D→Res D:=iZ 2 jh (gA K CL Y)
def sc_leaves_of:FnScope jh ["line","enters"] (aj jI):=j_
def jl (T:Txt K mg CL Y)(S:Sta K mg "leaves_of" jI ["line","enters"])(c_runs:CalM P w K mg base CL "runs" 1 (g0 CL)):Cal P w K mg base "leaves_of" 2 ["line","enters"] (freshSp K 1 (eQ K CL Y)):=by
 refine S.cal (k:=1) (r:=1) (F:=gA K CL Y) sc_leaves_of dL (by decide) rfl λf cdv A outer s H E hr=>?_;unfold gA;exact(ai (ax (i:=2) sc_leaves_of.nd rfl (.inl rfl) (ao (PN.of (ub c_runs hr (dv 0)))))
   (ai (ax (i:=3) sc_leaves_of.nd rfl (.inl rfl) (ao j6))
   (ai (bA (j:=4) Zb rfl sc_leaves_of.nd rfl (.inl rfl) rfl (cw (uc (dv 1)))
    (ak (fJ (j:=3) (n:=0) hr.units rfl rfl (.inl rfl) (dv 4) (ao (PN.of (ar aE (cE hr.units (dv 1) (dv 4)) (ay (dv 2) (ay (dv 4) ag))))))))
   (ak (gE (i:=3) rfl rfl (.inl rfl))))))
abbrev pq:Stmt:=top 26
abbrev nS:List Str:=["line","trains","orders","limit","paths","waits","turn","leaves","arrival"]
@[irreducible] def jf (K:Z8)(CL:Z2)(Y:Ad):DS→Out:=(av (aF 4 (bb (pC (ac 0) (pC (ac 1) pN)) (mi K CL Y)))
  (av (aF 5 (BY (bb (pC (ac 0) (pC (ac 4) (pC (ac 2) pN))) (gi K CL Y))))
  (av (aF 6 (bb (pC (ac 5) pN) (dJ K CL Y)))
  (av (aF 7 (BY (bb (pC (ac 0) (pC (BY (bb (pC (ac 1) (pC (ac 5) (pC (ac 6) pN))) (cM K CL Y))) pN)) (eQ K CL Y))))
  (av (aF 8 (λρ=>((ac 7) ρ).bind oR))
  (av (dX (cG (ae (ac 3) (ac 8) zG)) (cX Y.TS (λρ=>A7 8 ρ&&A7 3 ρ)) nxt)
  (bR (bb (pC (ac 4) (pC (BY (bb (pC (ac 0) (pC (ac 5) (pC (ac 6) (pC (ac 3) pN)))) (b0 K CL Y))) pN)) (d9 K CL Y)))))))))
def cL (K:Z8)(CL:Z2)(Y:Ad):List D→Res D:=iZ 4 nS (jf K CL Y)
def sc_latest:FnScope nS ["line","trains","orders","limit"] (aj pq):=j_
def nZ (T:Txt K mg CL Y)(S:Sta K mg "latest" pq ["line","trains","orders","limit"])(e7:Cal P w K mg base "latest_enters" 2 ["line","waits","turn","limit"] (freshSp K 1 (b0 K CL Y)))(f7:Cal P w K mg base "least_enters" 1 ["trains","waits","turn"] (freshSp K 1 (cM K CL Y)))(jl:Cal P w K mg base "leaves_of" 2 ["line","enters"] (freshSp K 1 (eQ K CL Y)))(kz:Cal P w K mg base "table_of" 2 ["paths","enters"] (freshSp K 2 (d9 K CL Y)))(kA:Cal P w K mg base "waits_of" 2 ["line","paths","orders"] (freshSp K 2 (gi K CL Y)))(uO:Cal P w K mg base "ways" 4 ["line","trains"] (freshSp K 0 (mi K CL Y)))(iC:Cal P w K mg base "whole_turn" 4 ["waits"] (freshSp K 0 (dJ K CL Y))):Cal P w K mg base "latest" 5 ["line","trains","orders","limit"] (freshSp K 2 (cL K CL Y)):=by
 refine S.cal (k:=4) (r:=2) (F:=jf K CL Y) sc_latest [] (by decide) rfl λf cdv A outer s H E h=>?_;unfold jf;exact(ai (ax (i:=4) sc_latest.nd rfl (.inl rfl) (a7 (PN.of (aO uO h (aa (dv 0) (aa (dv 1) af))))))
   (ai (ax (i:=5) sc_latest.nd rfl (.inl rfl) (a7 (PN.of (PN.pdF (km (n:=2) kA h (aa (dv 0) (aa (dv 4) (aa (dv 2) af))))))))
   (ai (ax (i:=6) sc_latest.nd rfl (.inl rfl) (a7 (PN.of (aO iC h (aa (dv 5) af)))))
   (ai (ax (i:=7) sc_latest.nd rfl (.inl rfl) (a7 (PN.of (PN.pdF (km (n:=1) jl h (aa (dv 0) (aa (PN.pdF (km (n:=1) f7 h (aa (dv 1) (aa (dv 5) (aa (dv 6) af))))) af)))))))
   (ai (ax (i:=8) sc_latest.nd rfl (.inl rfl) (a7 (PN.of (Cl T.b_max (dv 7)))))
   (ai (bD (aR qh (dv 3) (dv 8) (bo _)) (ak (ue (GV T.xTS (ly Af (ly (Ae (pv 8)) (ly Af (ly (Ae (pv 3)) Cr)))) (λρ=>A7 8 ρ&&A7 3 ρ) (λσ G H ρ _ h hk=>by
    simp only[and_eq_true]at hk;obtain⟨h8,h3⟩:=hk;exact⟨trivial,Ds h h8,trivial,Ds h h3,trivial⟩)))) a8)
   (ak (ba (a7 (km (n:=2) kz h (aa (dv 4) (aa (PN.pdF (km (n:=1) e7 h (aa (dv 0) (aa (dv 5) (aa (dv 6) (aa (dv 3) af)))))) af))))))))))))
abbrev jH:Stmt:=top 45
abbrev gB:List Str:=["line","trains","orders","limit","found","e","marks"]
abbrev fI:List Nat:=[0,0,0,0,2,0,0]
@[irreducible] def eK (K:Z8)(CL:Z2)(Y:Ad):DS→Out:=(av (ka 5 [Y.ST,Y.TS] (aF 4 (gN 2 (bb (pC (ac 0) (pC (ac 1) (pC (ac 2) (pC (ac 3) pN)))) (cL K CL Y)))) (av (aF 6 (bz fI (cU (pC (λρ=>((ac 5) ρ).bind (eO K (cV (.ref Y.ST)))) (pC (λρ=>((ac 5) ρ).bind (eO K (cV (.ref Y.TS)))) (pC (λρ=>((ac 5) ρ).bind (eO K (cV (.ty "ValueError")))) (pC (λρ=>((ac 5) ρ).bind (eO K (cV (.ref Y.BO)))) pN)))))))
  (bR (bz fI (gN 2 (cA (pC (gN 0 kN) (pC (ae (ac 6) (cU (pC (λρ=>((ac 5) ρ).bind (eO K (cV (.ref Y.BB)))) pN)) l7) pN))))))))
  (bR (wE (ac 4) (bz fI (cU pN)))))
def cK (K:Z8)(CL:Z2)(Y:Ad):List D→Res D:=iZ 4 gB (eK K CL Y)
def sc__law_told:FnScope gB ["line","trains","orders","limit"] (aj jH):=j_
def jk (T:Txt K mg CL Y)(S:Sta K mg "_law_told" jH ["line","trains","orders","limit"])(nZ:Cal P w K mg base "latest" 5 ["line","trains","orders","limit"] (freshSp K 2 (cL K CL Y))):Cal P w K mg base "_law_told" 6 ["line","trains","orders","limit"] (freshSp K 3 (cK K CL Y)):=by
 refine S.cal (k:=5) (r:=3) (F:=eK K CL Y) sc__law_told fI (by decide) rfl λf cdv A outer s H E hr=>?_;unfold eK;exact(ai (Fk (i:=5) (cs:=[Y.ST,Y.TS]) sc__law_told.nd rfl rfl rfl T.gHE rfl rfl T.hs (CJ (i:=4) (dd:=0) sc__law_told.nd rfl rfl rfl nZ hr (λ_ _=>(aa (dv 0) (aa (dv 1) (aa (dv 2) (aa (dv 3) af))))) (ja cW (ja cW (ja cW (ja cW t8))))) (λ_ _=>(ai (ax (i:=6) sc__law_told.nd rfl (.inl rfl) (ao (PN.of (ef (aa (lx T.b_isinstance (dv 5) (si T.gST)) (aa (lx T.b_isinstance (dv 5) (si T.gTS)) (aa (lx T.b_isinstance (dv 5) (Ac T.b_ValueError F3)) (aa (lx T.b_isinstance (dv 5) (si T.gBO)) af))))))))
   (ak (ba (ao (PN.up (CF (n:=0) (uh (PN.up (PN.of mq)) (uh (Fl (dv 6) (ef (aa (lx T.b_isinstance (dv 5) (si T.gBB)) af))) sr))))))))))
   (ak (Aj (n:=1) (j:=4) rfl rfl (.inl rfl) (ao (wS sr)))))
abbrev ko:Stmt:=top 47
abbrev pZ:List Str:=["script","made","trains","orders","least","limit","last","handed","runs","line","lap","told","due","row"]
abbrev bG:List Nat:=[0,0,0,0,0,0,0,0,1,0,0,3,0,0]
@[irreducible] def vR (K:Z8)(CL:Z2)(Y:Ad):DS→Out:=(av (aF 1 (bz bG (bb (pC (ac 0) (pC (kI 0) pN)) (cJ K CL Y))))
  (av (aF 2 (bz bG (bb (pC (ac 0) (pC (kI 20) (pC (c1 (ae (ac 1) (kI 0) aH) bj) (pC (kI 5) pN)))) (bU K CL Y))))
  (av (aF 3 (bz bG (bb (pC (ac 0) (pC (kI 100) (pC (ae (ac 1) (kI 0) aH) (pC (ae (ac 1) (kI 1) aH) (pC (ac 2) pN))))) (bn K CL Y))))
  (av (aF 4 (bz bG (bb (pC (ae (ac 1) (kI 0) aH) (pC (ae (ac 1) (kI 1) aH) (pC (ac 2) (pC (ac 3) pN)))) (b8 K CL Y))))
  (av (aF 5 (bz bG (bb (pC (ac 0) (pC (kI 200) (pC (kI 400) pN))) (al K CL Y))))
  (av (aF 6 (bz bG (kI 0)))
  (av (dX (cG (ae (ac 4) kN qE)) (av (aF 6 (bz bG (c1 (aU (sR1 (pC (c1 (ac 2) bj) pN)) [none,some 4,some 1,some 2] (aS 0) yes (ae (ae (ae (ac 1) (ac 0) aH) (nG (kI 1)) aH) (ae (ae (ac 2) (kI 0) aH) (ae (bb (pC (ae (ac 3) (ac 0) aH) pN) (aI K CL Y)) (nG (kI 1)) aH) aH) aW)) mj)))
  (aF 5 (bz bG (ae (ac 6) (ae (cU (pC (ae (bb (pC (ac 0) (pC (kI 201) (pC (kI 9) pN))) (al K CL Y)) (kI 4) fN) (pC (bb (pC (ac 0) (pC (kI 201) (pC (kI 101) pN))) (al K CL Y)) (pC (kI 0) pN)))) (bb (pC (ac 0) (pC (kI 202) (pC (kI 3) pN))) (al K CL Y)) aH) aW)))) nxt)
  (av (dX (cG (ae (bb (pC (ac 0) (pC (kI 203) (pC (kI 9) pN))) (al K CL Y)) (kI 1) Bt)) (aF 5 (bz bG (ae (cU (pC (nG (kI 1)) (pC (ae (kI 10) (kI 9) yg) (pC (nG (ae (kI 10) (kI 9) yg)) pN)))) (bb (pC (ac 0) (pC (kI 204) (pC (kI 3) pN))) (al K CL Y)) aH))) nxt)
  (av (aF 7 (bz bG (cU (pC (c1 (ac 2) cD) (pC (aU (sL (ac 3)) [none] (aS 0) yes (c1 (ac 0) cD)) pN)))))
  (av (aF 8 (bz bG (bb (u9 (ae (ac 1) (kI 0) aH)) cD)))
  (av (aF 9 (gN 0 (bb (pC (ac 8) (pC (ae (ac 1) (kI 1) aH) pN)) (kh K CL Y))))
  (av (vF 8 (kI 0) (gN 0 (ae (ae (ae (ac 8) (kI 0) aH) (kI 20) oS) (kI 1) aW)))
  (av (vA 8 0 (sN 8))
  (av (b9 (sR1 (pC (kI 2) pN)) (aS 10) (av (aF 11 (bz bG (bb (pC (ac 9) (pC (ae (ac 7) (kI 0) aH) (pC (ae (ac 7) (kI 1) aH) (pC (ac 5) pN)))) (cK K CL Y))))
  (av (dX (cG (ae (ac 7) (cU (pC (ac 2) (pC (ac 3) pN))) lX)) (bR (bz bG (kB false))) nxt)
  (dX (cG (ae (ac 4) kN Ew)) (dX (cG (ae (ac 11) (cA (pC kN (pC (cU (pC (kB true) (pC (kB false) (pC (kB true) (pC (kB false) (pC (kB false) pN)))))) pN))) lX)) (bR (bz bG (kB false))) nxt) (dX (cG (ae (ac 5) (ac 6) zG)) (dX (cG (ae (ac 11) (cA (pC kN (pC (cU (pC (kB false) (pC (kB true) (pC (kB true) (pC (kB false) (pC (kB false) pN)))))) pN))) lX)) (bR (bz bG (kB false))) nxt) (av (aF 12 (bz bG (bb (pC (ae (ac 1) (kI 0) aH) (pC (ae (ac 1) (kI 1) aH) (pC (ac 2) (pC (ac 3) (pC (ac 5) pN))))) (cy K CL Y))))
  (av (dX (FO (cG (ae (ae (ac 11) (kI 1) aH) (cU pN) lX)) (jB (cG (bb (pC (ae (ac 11) (kI 0) aH) (pC (ac 12) pN)) (eP K CL Y))))) (bR (bz bG (kB false))) nxt)
  (av (jv 11 13 1 9 (xi 11 0 (sN 11) (kI 0)))
  (dX (cG (ae (ae (ac 11) (kI 0) aH) (aU (sL (ac 12)) [none] (aS 0) yes (ae (ac 0) (cU (pC (kI 9) pN)) aW)) lX)) (bR (bz bG (kB false))) nxt)))))))))
  (bR (bz bG (kB true)))))))))))))))))
def zI (K:Z8)(CL:Z2)(Y:Ad):List D→Res D:=iZ 1 pZ (vR K CL Y)
def sc_law:FnScope pZ ["script"] (aj ko):=j_
def F4 {fd:Y7}(T:Txt K mg CL Y)(Fn:Fun K "law" "law" ko f fd)(aB:Cal P w K mg base "_law_drawn" 1 ["script","k","many"] (freshSp K 0 (al K CL Y)))(gI:Cal P w K mg base "_law_latest" 3 ["runs","gap","trains","orders","limit"] (freshSp K 2 (cy K CL Y)))(iw:Cal P w K mg base "_law_least" 3 ["runs","gap","trains","orders"] (freshSp K 2 (b8 K CL Y)))(fZ:Cal P w K mg base "_law_line_by" 2 ["script","base"] (freshSp K 0 (cJ K CL Y)))(dY:Cal P w K mg base "_law_orders_by" 3 ["script","base","runs","gap","trains"] (freshSp K 2 (bn K CL Y)))(jj:Cal P w K mg base "_law_rows" 3 ["found","due"] (freshSp K 0 (eP K CL Y)))(jk:Cal P w K mg base "_law_told" 6 ["line","trains","orders","limit"] (freshSp K 3 (cK K CL Y)))(dZ:Cal P w K mg base "_law_trains_by" 2 ["script","base","stretches","most"] (freshSp K 1 (bU K CL Y)))(bd:Cal P w K mg base "_law_way" 1 ["train"] (freshSp K 0 (aI K CL Y)))(c_Line:CalI P w K mg base "Line" CL 2 ["self","runs","clear"] (kh K CL Y)):FnOk P w K mg base (CXF P w) 7 f fd ["script"] (freshSp K 0 (zI K CL Y)):=by
 refine Fn.freshM (k:=6) (r:=0) (F:=vR K CL Y) sc_law bG (by decide) rfl λcdv A outer s H E h=>?_;unfold vR;exact(ai (ax (i:=1) sc_law.nd rfl (.inr rfl) (ao (PN.of (aO fZ h (aa (dv 0) (aa ag af))))))
   (ai (ax (i:=2) sc_law.nd rfl (.inr rfl) (ao (PN.of (aO dZ h (aa (dv 0) (aa ag (aa (bp T.b_len (ay (dv 1) ag)) (aa ag af))))))))
   (ai (ax (i:=3) sc_law.nd rfl (.inl rfl) (ao (PN.of (aO dY h (aa (dv 0) (aa ag (aa (ay (dv 1) ag) (aa (ay (dv 1) ag) (aa (dv 2) af)))))))))
   (ai (ax (i:=4) sc_law.nd rfl (.inr rfl) (ao (PN.of (aO iw h (aa (ay (dv 1) ag) (aa (ay (dv 1) ag) (aa (dv 2) (aa (dv 3) af))))))))
   (ai (ax (i:=5) sc_law.nd rfl (.inl rfl) (ao (PN.of (aO aB h (aa (dv 0) (aa ag (aa ag af)))))))
   (ai (ax (i:=6) sc_law.nd rfl (.inl rfl) (ao (PN.of ag)))
   (ai (bD (aR Bs (dv 4) mq (bo _)) (ai (ax (i:=6) sc_law.nd rfl (.inl rfl) (ao (PN.of (wH T.b_max (PN.pd (bI (j:=0) rfl (a_ (N:=["k","least","made","trains"]) (caps:=[none,some 4,some 1,some 2]) (aj ko) pZ rfl rfl (by decide +kernel)) rfl rfl (.inl rfl) (cO rfl T.b_range (aa (bp T.b_len (dv 2)) af)) (λ_ _ _ _=>bu) (λ_ _ _ _=>(PN.of (ar aE (ay (ay (dv 1) (dv 0)) (mn ag)) (ay (ay (dv 2) ag) (ay (aO bd h (aa (ay (dv 3) (dv 0)) af) cN) (mn ag))))))))))))
   (ak (ax (i:=5) sc_law.nd rfl (.inl rfl) (ao (PN.of (ar aE (dv 6) (ay (ef (aa (ar ff (aO aB h (aa (dv 0) (aa ag (aa ag af)))) ag) (aa (aO aB h (aa (dv 0) (aa ag (aa ag af)))) (aa ag af)))) (aO aB h (aa (dv 0) (aa ag (aa ag af))))))))))) a8)
   (ai (bD (aR (vZ h.units) (aO aB h (aa (dv 0) (aa ag (aa ag af)))) ag (bo _)) (ak (ax (i:=5) sc_law.nd rfl (.inl rfl) (ao (PN.of (ay (ef (aa (mn ag) (aa (ar yQ ag ag) (aa (mn (ar yQ ag ag)) af)))) (aO aB h (aa (dv 0) (aa ag (aa ag af))))))))) a8)
   (ai (ax (i:=7) sc_law.nd rfl (.inl rfl) (ao (PN.of (ef (aa (wG T.b_list (dv 2)) (aa (PN.pd (bI (j:=0) rfl (a_ (N:=["row"]) (caps:=[none]) (aj ko) pZ rfl rfl (by decide +kernel)) rfl rfl (.inl rfl) (bv (dv 3)) (λ_ _ _ _=>bu) (λ_ _ _ _=>(PN.of (wG T.b_list (dv 0)))))) af))))))
   (ai (ax (i:=8) sc_law.nd rfl (.inl rfl) (ao (wU (ay (dv 1) ag) rfl T.b_list)))
   (ai (ax (i:=9) sc_law.nd rfl (.inl rfl) (cS (PN.of (GO c_Line h (aa (dv 8) (aa (ay (dv 1) ag) af))))))
   (ai (CC (j:=8) (n:=0) rfl rfl (.inl rfl) ag (cS (PN.of (ar aE (ar kG (ay (dv 8) ag) ag) ag))))
   (ai (CA (n:=0) rfl (nY (j:=8) rfl (.inl rfl)))
   (ai (bA (j:=10) Zb rfl sc_law.nd rfl (.inl rfl) rfl (du rfl T.b_range (aa ag af))
    (ai (ax (i:=11) sc_law.nd rfl (.inl rfl) (ao (km (n:=3) jk h (aa (dv 9) (aa (ay (dv 7) ag) (aa (ay (dv 7) ag) (aa (dv 5) af)))))))
   (ai (bD (aR (gU h.units) (dv 7) (ef (aa (dv 2) (aa (dv 3) af))) (bo _)) (ak (ba (ao (PN.of ck)))) a8)
   (ak (bD (aR DY (dv 4) mq (bo _)) (ak (bD (aR (gU h.units) (dv 11) (cm (aa mq (aa (ef (aa ck (aa ck (aa ck (aa ck (aa ck af)))))) af))) (bo _)) (ak (ba (ao (PN.of ck)))) a8)) (ak (bD (aR qh (dv 5) (dv 6) (bo _)) (ak (bD (aR (gU h.units) (dv 11) (cm (aa mq (aa (ef (aa ck (aa ck (aa ck (aa ck (aa ck af)))))) af))) (bo _)) (ak (ba (ao (PN.of ck)))) a8)) (ai (ax (i:=12) sc_law.nd rfl (.inl rfl) (ao (PN.of (aO gI h (aa (ay (dv 1) ag) (aa (ay (dv 1) ag) (aa (dv 2) (aa (dv 3) (aa (dv 5) af)))))))))
   (ai (bD (PDW.pt (se (aR (gU h.units) (ay (dv 11) ag) (ef af) (bo _)) (nI (cR (iM (aO jj h (aa (ay (dv 11) ag) (aa (dv 12) af)))))))) (ak (ba (ao (PN.of ck)))) a8)
   (ai (yc (j:=11) (n:=1) (m:=0) (jr:=13) Zb rfl rfl (by decide) sc_law.nd rfl (.inl rfl) (.inl rfl) (FY (n:=0) (m:=2) rfl (nY (j:=11) rfl (.inl rfl)) ag))
   (ak (bD (aR (gU h.units) (ay (dv 11) ag) (PN.pd (bI (j:=0) rfl (a_ (N:=["row"]) (caps:=[none]) (aj ko) pZ rfl rfl (by decide +kernel)) rfl rfl (.inl rfl) (bv (dv 12)) (λ_ _ _ _=>bu) (λ_ _ _ _=>(PN.of (ar aE (dv 0) (ef (aa ag af))))))) (bo _)) (ak (ba (ao (PN.of ck)))) a8))))))))))))
   (ak (ba (ao (PN.of ck))))))))))))))))))
end
end K07
set_option maxHeartbeats 1000000
namespace K07
open PySem L2
section
variable{K:Z8}{CL:Z2}{Y:Ad}
def bM {ns:Z1}{k many:Int}(h0:0≤k)(h1:k<100000)(h2:0<many)(h3:many<100000):al K CL Y [.scr ns,.int k,.int many]= .ok (.int (drawn ns k many)):=by
 unfold al;refine(bN rfl).trans ?_;have e0:aM ie [D.scr ns,.int k,.int many]=[some (.scr ns),some (.int k),some (.int many),none,none]:=rfl;rw[e0];unfold fu;have st1:= @C3 ns k;by_cases hz:ns.length=0
 ·have hd:decide (0<(ns.length:Int))=false:=Zj (by omega);have hc7:cellOf ns k=7:=Yo hz;have e1:(7*48271+(k+1)*7919+(ns.length:Int)) % 2147483647=pB ns k:=by unfold pB;rw[hc7]
  simp (disch:=omega) only[aK,rh,hd,lh,rj,v8,e1];rfl
 ·have hd:decide (0<(ns.length:Int))=true:=Zo (by omega);have hix:=Bm (k:=k) hz;have e1:(cellOf ns k*48271+(k+1)*7919+(ns.length:Int)) % 2147483647=pB ns k:=rfl;simp (disch:=omega) only[aK,rh,hd,lh,rj,v8,Ec hix,e1];rfl
def GR {k:Int}(h:0≤k∧k<2):∃v:Int,(v=4∨v=20)∧aH (.lst [.int 4,.int 20]) (.int k)= .ok (.int v):=by
 rcases (show k=0∨k=1 by omega) with rfl|rfl
 ·exact⟨4,.inl rfl,tF⟩
 ·exact⟨20,.inr rfl,tG⟩
def GS {k:Int}(h:0≤k∧k<3):∃v:Int,1≤v∧v≤61∧aH (.lst [.int 1,.int 9,.int 61]) (.int k)= .ok (.int v):=by
 rcases (show k=0∨k=1∨k=2 by omega) with rfl|rfl|rfl
 ·exact⟨1,by omega,by omega,tF⟩
 ·exact⟨9,by omega,by omega,tG⟩
 ·exact⟨61,by omega,by omega,l8 (ji (by decide) rfl)⟩
structure GoodLine (rs:Z1)(g:Int):Prop where
 one:1≤rs.length
 few:rs.length≤5
 run:∀r∈rs,1≤r∧r≤20
 gap:0≤g∧g≤5
def xT {ns:Z1}{base:Int}(h0:0≤base)(h1:base<1000):∃rs g,GoodLine rs g∧cJ K CL Y [.scr ns,.int base]= .ok (.tup [.lst (rs.map D.int),.int g]):=by
 have b1:=cB (ns:=ns) (k:=base) (many:=5) (by omega);obtain⟨m,em⟩:∃m:Nat,1+drawn ns base 5=(m:Int):=⟨(1+drawn ns base 5).toNat,by omega⟩;obtain⟨v,hv,ev⟩:=GR (cB (ns:=ns) (k:=base+1) (many:=2) (by omega));refine⟨(List.range m).map λ(i:Nat)=>1+drawn ns (base+2+(i:Int)) v,drawn ns (base+8) 6,⟨by rw[length_map,length_range];omega,by rw[length_map,length_range];omega,λr hr=>?_,?_⟩,?_⟩
 ·obtain⟨i,_,rfl⟩:=mem_map.mp hr;have:=cB (ns:=ns) (k:=base+2+(i:Int)) (many:=v) (by omega);omega
 ·have:=cB (ns:=ns) (k:=base+8) (many:=6) (by omega);omega
 ·unfold cJ;refine(bN rfl).trans ?_;have e0:aM dC [D.scr ns,.int base]=[some (.scr ns),some (.int base),none,none]:=rfl;rw[e0];unfold dz;have d1:=bM (K:=K) (CL:=CL) (Y:=Y) (ns:=ns) (k:=base) (many:=5) (by omega) (by omega) (by omega) (by omega);have d2:=bM (K:=K) (CL:=CL) (Y:=Y) (ns:=ns) (k:=base+1) (many:=2) (by omega) (by omega) (by omega) (by omega);have d3:=bM (K:=K) (CL:=CL) (Y:=Y) (ns:=ns) (k:=base+8) (many:=6) (by omega) (by omega) (by omega) (by omega);simp only[aK,d1,em];rw[bB (xs:=List.range m) (c:=λ(i:Nat)=>D.int (i:Int)) (g:=λ(i:Nat)=>D.int (1+drawn ns (base+2+(i:Int)) v)) (by simp only[aK,cc (show m<1000000 by omega)]) (by rw[length_range];omega) (λi hi=>⟨_,rfl,?_⟩)]
  ·simp only[aK,d3,map_map];rfl
  ·have hi:=mem_range.mp hi;have d4:=bM (K:=K) (CL:=CL) (Y:=Y) (ns:=ns) (k:=base+2+(i:Int)) (many:=v) (by omega) (by omega) (by omega) (by omega);have ec:e_ [none,some 0,some 1] [some (D.scr ns),some (D.int base),some (D.int (m:Int)),none]=[none,some (.scr ns),some (.int base)]:=rfl;rw[ec];simp only[aK,d2,ev,d4]
end
set_option maxHeartbeats 1000000
section
variable{K:Z8}{CL:Z2}{Y:Ad}
abbrev Tr:=Nat×Nat×Int
def bE (t:Tr):D:=.tup [.int t.1,.int t.2.1,.int t.2.2]
structure Good (n:Nat)(t:Tr):Prop where
 a:t.1≤n
 b:t.2.1≤n
 ne:t.1≠t.2.1
 r:0≤t.2.2∧t.2.2≤60
def aG (t:Tr):List Nat:=if t.1<t.2.1 then (List.range (t.2.1-t.1)).map (t.1 + ·) else ((List.range (t.1-t.2.1)).map (t.2.1 + ·)).reverse
def aw (l:Zz):List D:=l.map λ(i:Nat)=>D.int (i:Int)
def fP {n:Nat}{t:Tr}(g:Good n t):∀s∈aG t,s<n:=by
 intro s hs;have:=g.a;have:=g.b;unfold aG at hs;split at hs
 ·obtain⟨i,hi,rfl⟩:=mem_map.mp hs;have:=mem_range.mp hi;omega
 ·obtain⟨i,hi,rfl⟩:=mem_map.mp (mem_reverse.mp hs);have:=mem_range.mp hi;omega
def iX {t:Tr}:(aG t).Nodup:=by
 have go:∀a n:Nat,((List.range n).map (a + ·)).Nodup:=λa n=>by
  refine List.Pairwise.map _ (λx y h=>?_) (nodup_range (n:=n));intro z;exact h (by omega)
 unfold aG;split
 ·exact go _ _
 ·exact(List.pairwise_reverse.mpr ((go _ _).imp λh z=>h z.symm))
def dU {n:Nat}{t:Tr}(g:Good n t):(aG t).length≤n:=by
 have:=g.a;have:=g.b;unfold aG;split
 ·rw[length_map,length_range];omega
 ·rw[length_reverse,length_map,length_range];omega
def uF {n:Nat}{t:Tr}(g:Good n t):0<(aG t).length:=by
 have:=g.a;have:=g.b;have:=g.ne;unfold aG;split
 ·rw[length_map,length_range];omega
 ·rw[length_reverse,length_map,length_range];omega
def lG {a b:Nat}:pi (a:Int) ((b:Int)-(a:Int)).toNat=aw ((List.range (b-a)).map (a + ·)):=by
 unfold pi aw;have e:((b:Int)-(a:Int)).toNat=b-a:=by omega
 rw[e,map_map];refine map_congr_left λi _=>?_;show D.int ((a:Int)+(i:Int))=D.int (((a+i:Nat)):Int);congr 1
def ut {a b:Nat}(h:b<a):sB ((a:Int)-1) (((a:Int)-1)-((b:Int)-1)).toNat=aw ((List.range (a-b)).map (b + ·)).reverse:=by
 have e:(((a:Int)-1)-((b:Int)-1)).toNat=a-b:=by omega
 unfold sB aw;rw[e];apply List.ext_getElem
 ·simp
 ·intro i h1 h2;simp only[length_map,length_range,length_reverse]at h1 h2;simp only[List.getElem_map,List.getElem_range,List.getElem_reverse,length_map,length_range];congr 1;omega
def fS {n:Nat}{t:Tr}(g:Good n t)(hn:n≤1000):aI K CL Y [bE t]= .ok (.lst (aw (aG t))):=by
 have ha:=g.a;have hb:=g.b;obtain⟨a,b,r⟩:=t;unfold aI;refine(bN rfl).trans ?_;have e0:aM fX [bE (a,b,r)]=[some (.tup [.int a,.int b,.int r])]:=rfl;rw[e0];unfold hZ;have cp:∀x y:Nat,x≤1000→y≤1000→∀ρ:DS,(sR2 (pC (kI x) (pC (kI y) pN))) ρ= .ok (aw ((List.range (y-x)).map (x + ·))):=λx y hx hy ρ=>by
  simp only[aK,rm (show -1000000≤(x:Int) by omega) (show (x:Int)<1000000 by omega) (show -1000000≤(y:Int) by omega) (show (y:Int)<1000000 by omega),lG]
 simp only[aK];dsimp only at ha hb;by_cases hab:a<b
 ·have e1:decide ((a:Int)<(b:Int))=true:=Zo (by omega);simp only[aK,e1];rw[bB (xs:=(List.range (b-a)).map (a + ·)) (c:=λ(i:Nat)=>D.int (i:Int)) (g:=λ(i:Nat)=>D.int (i:Int)) (by
   simp only[aK,rm (show -1000000≤(a:Int) by omega) (show (a:Int)<1000000 by omega) (show -1000000≤(b:Int) by omega) (show (b:Int)<1000000 by omega),lG];rfl) (by rw[length_map,length_range];omega) (λi hi=>⟨_,rfl,rfl⟩)]
  simp only[aK];unfold aG;rw[Yo (show (a,b,r).1<(a,b,r).2.1 from hab)];rfl
 ·have e1:decide ((a:Int)<(b:Int))=false:=Zj (by omega);simp only[aK,e1];rw[bB (xs:=(List.range (a-b)).map (b + ·)) (c:=λ(i:Nat)=>D.int (i:Int)) (g:=λ(i:Nat)=>D.int (i:Int)) (by
   simp only[aK,rm (show -1000000≤(b:Int) by omega) (show (b:Int)<1000000 by omega) (show -1000000≤(a:Int) by omega) (show (a:Int)<1000000 by omega),lG];rfl) (by rw[length_map,length_range];omega) (λi hi=>⟨_,rfl,rfl⟩)]
  simp only[aK];have e2:∀l:List D,ur (.lst l) (.int (-1))= .ok (.lst l.reverse):=λl=>by unfold ur;rfl
  simp only[aK,e2];unfold aG aw;rw[Ym (show ¬(a,b,r).1<(a,b,r).2.1 from hab),List.map_reverse]
def EL {n s d:Nat}(hs:s≤n)(hd:d<n):(s+1+d) % (n+1)≠s:=by
 by_cases h:s+1+d<n+1
 ·rw[Nat.mod_eq_of_lt h];omega
 ·have:(s+1+d) % (n+1)=s+1+d-(n+1):=by
   rw[Nat.mod_eq_sub_mod (by omega),Nat.mod_eq_of_lt (by omega)]
  omega
def kb {base:Int}{i:Nat}(c:Int)(h0:0≤base)(h1:base<1000)(hi:i<5)(hc:0≤c∧c≤40):0≤base+c+5*(i:Int)∧base+c+5*(i:Int)<2000:=by omega
def uB {ns:Z1}{base most:Int}{n:Nat}(h0:0≤base)(h1:base<1000)(hn:1≤n)(hn5:n≤5)(hm:1≤most)(hm5:most≤5) :
  ∃ts:List Tr,(ts.length:Int)=1+drawn ns base most∧(∀t∈ts,Good n t)∧bU K CL Y [.scr ns,.int base,.int n,.int most]= .ok (.lst (ts.map bE)):=by
 have b1:=cB (ns:=ns) (k:=base) (many:=most) (by omega);obtain⟨m,em⟩:∃m:Nat,1+drawn ns base most=(m:Int):=⟨(1+drawn ns base most).toNat,by omega⟩;have dr:∀k many:Int,0≤k→k<2000→0<many→many<1000→∃a:Nat,(a:Int)=drawn ns k many∧(a:Int)<many∧al K CL Y [.scr ns,.int k,.int many]= .ok (.int (a:Int)):=λk many k0 k1 m0 m1=>by
  have:=cB (ns:=ns) (k:=k) (many:=many) m0;refine⟨(drawn ns k many).toNat,by omega,by omega,?_⟩;rw[Int.toNat_of_nonneg this.1];exact bM k0 (by omega) m0 (by omega)
 suffices goal:∃d,bU K CL Y [.scr ns,.int base,.int n,.int most]= .ok d∧∃ts:List Tr,d= .lst (ts.map bE)∧ts.length=m∧∀t∈ts,Good n t by
  obtain⟨_,e,ts,rfl,hl,hg⟩:=goal;exact⟨ts,by omega,hg,e⟩
 have n1:0<(n:Int)+1:=by omega
 have n2:(n:Int)+1<1000:=by omega
 have n3:0<(n:Int):=by omega
 have n4:(n:Int)<1000:=by omega
 have b40:0≤base+40∧base+40<2000:=by omega
 unfold bU;rw [show iZ 4 cf (bT K CL Y) [D.scr ns,D.int base,D.int n,D.int most]=ee (bT K CL Y (aM cf [D.scr ns,D.int base,D.int n,D.int most])) from bN rfl];have e0:aM cf [D.scr ns,.int base,.int n,.int most]=[some (.scr ns),some (.int base),some (.int n),some (.int most),none,none,none,none]:=rfl;rw [e0];unfold bT;have d1:=bM (K:=K) (CL:=CL) (Y:=Y) (ns:=ns) (k:=base) (many:=most) (by omega) (by omega) (by omega) (by omega);simp only [aK,d1,em,cc (show m < 1000000 by omega)];refine xG (λrem ρ=>∃ ts:List Tr,ts.length+rem.length=m∧(∀ t∈ts,Good n t)∧∃ o5 o6 o7,ρ=[some (.scr ns),some (.int base),some (.int n),some (.int most),some (.lst (ts.map bE)),o5,o6,o7]∧∀ d∈rem,∃ i:Nat,i < m∧d= .int i)
  ⟨[],by simp,λ_ h=>(by cases h),none,none,none,rfl,λd hd=>?_⟩ (λd ds ρ ⟨ts,hl,hg,o5,o6,o7,e,hd⟩=>?_) (λR ⟨ts,hl,hg,o5,o6,o7,e,_⟩=>?_)
 ·obtain⟨i,hi,rfl⟩:=mem_map.mp hd;exact⟨i,mem_range.mp hi,rfl⟩
 ·subst e;obtain⟨i,hi,rfl⟩:=hd d (mem_cons_self ..);rw[length_cons]at hl;have j:i<5:=by omega
  obtain⟨s,_,hs,es⟩:=dr (base+1+5*(i:Int)) ((n:Int)+1) (kb 1 h0 h1 j (by decide)).1 (kb 1 h0 h1 j (by decide)).2 n1 n2;obtain⟨x,_,hx,ex⟩:=dr (base+2+5*(i:Int)) (n:Int) (kb 2 h0 h1 j (by decide)).1 (kb 2 h0 h1 j (by decide)).2 n3 n4;obtain⟨c,_,hc,ec⟩:=dr (base+3+5*(i:Int)) 3 (kb 3 h0 h1 j (by decide)).1 (kb 3 h0 h1 j (by decide)).2 (by decide) (by decide);obtain⟨y,_,hy,ey⟩:=dr (base+4+5*(i:Int)) 2 (kb 4 h0 h1 j (by decide)).1 (kb 4 h0 h1 j (by decide)).2 (by decide) (by decide);obtain⟨z,_,hz,ez⟩:=dr (base+40) 3 b40.1 b40.2 (by decide) (by decide);obtain⟨v,v0,v1,ev⟩:=GS (k:=(z:Int)) ⟨Int.natCast_nonneg z,hz⟩;obtain⟨r,_,hr,er⟩:=dr (base+5+5*(i:Int)) v (kb 5 h0 h1 j (by decide)).1 (kb 5 h0 h1 j (by decide)).2 v0 (Int.lt_of_le_of_lt v1 (by decide));have r60:0≤(r:Int)∧(r:Int)≤60:=⟨Int.natCast_nonneg r,by omega⟩;have sn:s≤n:=by omega
  have xn:x<n:=by omega
  have eg:((s:Int)+1+(x:Int)) % ((n:Int)+1)=(((s+1+x) % (n+1):Nat):Int):=by push_cast;rfl
  have g1:Good n (s,(s+1+x) % (n+1),(r:Int)):=⟨sn,Nat.le_of_lt_succ (Nat.mod_lt (s+1+x) (Nat.succ_pos n)),λh=>EL sn xn h.symm,r60⟩;have step:∀(a b:Nat) (o:Option D),Good n (a,b,(r:Int))→∃R,m6 4 (bz a9 (cA (pC (ac 6) (pC (ac 7) (pC (bb (pC (ac 0) (pC (ae (ae (ac 1) (kI 5) aW) (ae (kI 5) (ac 5) gk) aW) (pC (ae (cU (pC (kI 1) (pC (kI 9) (pC (kI 61) pN)))) (bb (pC (ac 0) (pC (ae (ac 1) (kI 40) aW) (pC (kI 3) pN))) (al K CL Y)) aH) pN))) (al K CL Y)) pN)))))
    [some (.scr ns),some (.int base),some (.int n),some (.int most),some (.lst (ts.map bE)),some (.int i),some (.int a),some (.int b)]= .nx R∧R=[some (.scr ns),some (.int base),some (.int n),some (.int most),some (.lst ((ts ++ [(a,b,(r:Int))]).map bE)),some (.int i),some (.int a),some (.int b)]:=λa b o g=>by
   refine⟨_,uV (l:=ts.map bE) (d:=bE (a,b,(r:Int))) rfl ?_ (by rw[length_map];omega),?_⟩
   ·simp (disch:=omega) only[aK,lg,ez,ev,er];rfl
   ·rw[map_append];rfl
  have hd':∀x∈ds,∃i:Nat,i<m∧x= .int i:=λx hx=>hd x (dk hx);have fin:∀(a b:Nat),Good n (a,b,(r:Int))→∃ts':List Tr,ts'.length+ds.length=m∧(∀t∈ts',Good n t)∧∃o5 o6 o7,[some (D.scr ns),some (.int base),some (.int n),some (.int most),some (.lst ((ts ++ [(a,b,(r:Int))]).map bE)),some (.int i),some (.int a),some (.int b)]=[some (.scr ns),some (.int base),some (.int n),some (.int most),some (.lst (ts'.map bE)),o5,o6,o7]∧∀d∈ds,∃i:Nat,i<m∧d= .int i:=λa b g=>
   ⟨ts ++ [(a,b,(r:Int))],by rw[length_append];simp;omega,λt ht=>by
    rcases mem_append.mp ht with h|h
    ·exact hg t h
    ·rw[mem_singleton.mp h];exact g,_,_,_,rfl,hd'⟩
  by_cases hc1:c=1
  ·have e1:((c:Int)==1)=true:=by rw[hc1];rfl
   have g2:Good n (y*n,n-y*n,(r:Int)):=by
    have:y=0∨y=1:=by omega
    rcases this with rfl|rfl
    ·exact⟨by simp,by simp,by simp;omega,r60⟩
    ·exact⟨by simp,by simp,by simp;omega,r60⟩
   have e2:(y:Int)*(n:Int)=((y*n:Nat):Int):=by push_cast;rfl
   have e3:(n:Int)-((y*n:Nat):Int)=((n-y*n:Nat):Int):=by have:=g2.a;dsimp only at this;omega
   obtain⟨R,h1,h2⟩:=step (y*n) (n-y*n) none g2;refine⟨_,R,rfl,?_,by rw[h2];exact fin _ _ g2⟩;simp (disch:=omega) only[aK,lg,es,ex,ec,ey,eg,e1,lh,e2,e3,rj];exact h1
  ·have e1:((c:Int)==1)=false:=beq_eq_false_iff_ne.mpr (by omega);obtain⟨R,h1,h2⟩:=step s ((s+1+x) % (n+1)) none g1;refine⟨_,R,rfl,?_,by rw[h2];exact fin _ _ g1⟩;simp (disch:=omega) only[aK,lg,es,ex,ec,eg,e1,rj];exact h1
 ·subst e;refine⟨_,rfl,ts,rfl,hl,hg⟩
end
set_option maxHeartbeats 1000000
section
variable{K:Z8}{CL:Z2}{Y:Ad}
def aY (CL:Z2)(rs:Z1)(g:Int):D:=.ins CL ["minutes","gap"] [.tup (rs.map D.int),.int g]
def j8 {rs:Z1}{g:Int}:g0 CL [aY CL rs g]= .ok (.lst (rs.map D.int)):=by
 unfold g0 aY li;dsimp only;rw[Yo rfl];rfl
def uS {rs:Z1}{g:Int}:kM CL [aY CL rs g]= .ok (.int g):=by
 unfold kM aY li;dsimp only;rw[Yo rfl];have:tK ["minutes","gap"] [.tup (rs.map D.int),.int g] "gap" =some (.int g):=by
  unfold tK;rw[Ym (by decide +kernel)];unfold tK;rw[Yo rfl]
 rw[this]
def zr {rs:Z1}{g:Int}(h:(["minutes","gap"]:List Str).contains m=false):mM CL m (aY CL rs g)=true:=by
 unfold mM aY;dsimp only;rw[h];simp
def Hl {rs:Z1}{g:Int}:mM CL "runs" (aY CL rs g)=true:=zr (by decide +kernel)
def IA {rs:Z1}{g:Int}:mM CL "clear" (aY CL rs g)=true:=zr (by decide +kernel)
def B1 {rs:Z1}{g:Int}(h:GoodLine rs g):kh K CL Y [.lst (rs.map D.int),.int g]= .ok (aY CL rs g):=by
 have e:bO K CL Y [.lst (rs.map D.int),.int g]= .ok .non:=by
  unfold bO;refine(bN rfl).trans ?_;have e0:aM ij [D.lst (rs.map D.int),.int g]=[some (.lst (rs.map D.int)),some (.int g),none]:=rfl;rw[e0];unfold fA;have h1:=h.one;have h2:=h.few;have h3:=h.gap;have q1:decide (1≤(rs.length:Int))=true:=Zo (by omega);have q2:decide ((rs.length:Int)≤5)=true:=Zo (by omega);simp only[aK,q1,q2];refine lj (λrem ρ=>(∀d∈rem,∃r:Int,(1≤r∧r≤20)∧d= .int r)∧∃o,ρ=[some (.lst (rs.map D.int)),some (.int g),o]) ⟨λd hd=>?_,none,rfl⟩ (λd ds ρ hZ199=>?_) (λρ' hZ200=>?_)
  ·obtain⟨r,hr,rfl⟩:=mem_map.mp hd;exact⟨r,h.run r hr,rfl⟩
  ·obtain⟨hd,o,e⟩:=hZ199;subst e;obtain⟨r,hr,rfl⟩:=hd d (mem_cons_self ..);refine⟨_,_,rfl,?_,λx hx=>hd x (dk hx),some (.int r),rfl⟩;have q3:decide (1≤r)=true:=Zo hr.1;have q4:decide (r≤20)=true:=Zo hr.2;simp only[aK,q3,q4]
  ·obtain⟨_,o,e⟩:=hZ200;subst e;have q3:decide (0≤g)=true:=Zo h3.1;have q4:decide (g≤5)=true:=Zo h3.2;simp only[aK,q3,q4]
 unfold kh;dsimp only;rw[e,az];rfl
def pM {rs:Z1}{g:Int}{t:Tr}(h:Good rs.length t):cz K CL Y [aY CL rs g,bE t]= .ok .non:=by
 obtain⟨a,b,r⟩:=t;have ha:=h.a;have hb:=h.b;have hr:=h.r;have hn:=h.ne;dsimp only at ha hb hr hn;unfold cz;refine(bN rfl).trans ?_;have e0:aM gH [aY CL rs g,bE (a,b,r)]=[some (aY CL rs g),some (.tup [.int a,.int b,.int r]),none,none,none]:=rfl;rw[e0];unfold eC;have e3:((3:Int)==3)=true:=rfl;simp only[aK,Hl,j8,e3];refine lj (λrem ρ=>(∀d∈rem,∃i:Nat,i≤rs.length∧d= .int i)∧∃o,ρ=[some (aY CL rs g),some (.tup [.int a,.int b,.int r]),some (.int rs.length),o,none]) ⟨λd hd=>?_,none,rfl⟩ (λd ds ρ hZ201=>?_) (λρ' hZ202=>?_)
 ·rcases mem_cons.mp hd with rfl|hd
  ·exact⟨a,ha,rfl⟩
  ·rw[mem_singleton.mp hd];exact⟨b,hb,rfl⟩
 ·obtain⟨hd,o,e⟩:=hZ201;subst e;obtain⟨i,hi,rfl⟩:=hd d (mem_cons_self ..);refine⟨_,_,rfl,?_,λx hx=>hd x (dk hx),some (.int i),rfl⟩;have q3:decide (0≤(i:Int))=true:=Zo (by omega);have q4:decide ((i:Int)≤(rs.length:Int))=true:=Zo (by omega);simp only[aK,q3,q4]
 ·obtain⟨_,o,e⟩:=hZ202;subst e;have q2:((a:Int)==(b:Int))=false:=beq_eq_false_iff_ne.mpr (by omega);have q3:decide (0≤r)=true:=Zo hr.1;have q4:decide (r≤60)=true:=Zo hr.2;simp only[aK,q2,q3,q4]
def FF {rs:Z1}{g:Int}{t:Tr}(h:Good rs.length t)(hn:rs.length≤1000):tU K CL Y [aY CL rs g,bE t]= .ok (.lst (aw (aG t))):=by
 have e1:=pM (K:=K) (CL:=CL) (Y:=Y) (g:=g) h;obtain⟨a,b,r⟩:=t;have ha:=h.a;have hb:=h.b;have hne:=h.ne;dsimp only at ha hb hne;unfold tU;refine(bN rfl).trans ?_;have e0:aM yD [aY CL rs g,bE (a,b,r)]=[some (aY CL rs g),some (.tup [.int a,.int b,.int r]),none,none]:=rfl;rw[e0];unfold vS;have e1':cz K CL Y [aY CL rs g,.tup [.int a,.int b,.int r]]= .ok .non:=e1;simp only[aK,e1'];by_cases hab:a<b
 ·have q1:decide ((a:Int)<(b:Int))=true:=Zo (by omega);have q2:qz [.int (a:Int),.int (b:Int)]= .ok (.lst (aw ((List.range (b-a)).map (a + ·)))):=by
   unfold qz;dsimp only;rw[Yo,lG];unfold jb;simp only[and_eq_true,decide_eq_true_eq];refine⟨⟨by omega,by omega⟩,cY (by omega)⟩
  simp only[aK,q1,q2];unfold aG;rw[Yo (show (a,b,r).1<(a,b,r).2.1 from hab)]
 ·have q1:decide ((a:Int)<(b:Int))=false:=Zj (by omega);have q2:qA [.int ((a:Int)-1),.int ((b:Int)-1),.int (-1)]= .ok (.lst (aw ((List.range (a-b)).map (b + ·)).reverse)):=by
   unfold qA;dsimp only;rw[Yo,ut (by omega)];unfold jb;simp only[and_eq_true,decide_eq_true_eq];refine⟨⟨⟨by omega,by omega⟩,cY (by omega)⟩,trivial⟩
  simp only[aK,q1,q2];unfold aG;rw[Ym (show ¬(a,b,r).1<(a,b,r).2.1 from hab)]
def C_ {rs:Z1}{g:Int}{ts:List Tr}(h:∀t∈ts,Good rs.length t)(hn:rs.length≤1000)(h1:1≤ts.length)(h2:ts.length≤5):mi K CL Y [aY CL rs g,.lst (ts.map bE)]= .ok (.lst (ts.map λt=>.lst (aw (aG t)))):=by
 unfold mi;refine(bN rfl).trans ?_;have e0:aM qU [aY CL rs g,.lst (ts.map bE)]=[some (aY CL rs g),some (.lst (ts.map bE))]:=rfl;rw[e0];unfold qT;have q1:decide (1≤(ts.length:Int))=true:=Zo (by omega);have q2:decide ((ts.length:Int)≤5)=true:=Zo (by omega);simp only[aK,q1,q2];rw[bB (xs:=ts) (c:=bE) (g:=λt=>.lst (aw (aG t))) rfl (by omega) (λt ht=>⟨_,rfl,?_⟩)]
 ·simp only[aK]
 ·have ec:e_ [none,some 0] [some (aY CL rs g),some (.lst (ts.map bE))]=[none,some (aY CL rs g)]:=rfl;rw[ec];simp only[aK,FF (K:=K) (CL:=CL) (Y:=Y) (g:=g) (h t ht) hn]
end
set_option maxHeartbeats 1000000
def yz (b:Int)(l:Z1):Int:=l.foldl max b
theorem jA:∀(l:Z1) (b:Int),(b≤yz b l∧∀e∈l,e≤yz b l)∧(yz b l=b∨yz b l∈l)
 | [],b=>⟨⟨Int.le_refl _,λ_ h=>by cases h⟩,.inl rfl⟩
 |a::l,b=>by
  obtain⟨⟨h1,h2⟩,h3⟩:=jA l (max b a);have e:yz b (a::l)=yz (max b a) l:=rfl;rw[e];refine⟨⟨by omega,λx hx=>?_⟩,?_⟩
  ·rcases mem_cons.mp hx with rfl|hx
   ·omega
   ·exact h2 x hx
  ·rcases h3 with h|h
   ·rcases (show max b a=b∨max b a=a by omega) with z|z
    ·exact .inl (h.trans z)
    ·exact .inr (by rw[h,z];exact mem_cons_self ..)
   ·exact .inr (dk h)
def EM {b v:Int}{l:Z1}(h1:b≤v)(h2:∀e∈l,e≤v)(h3:v=b∨v∈l):yz b l=v:=by
 obtain⟨⟨a1,a2⟩,a3⟩:=jA l b;have l1:yz b l≤v:=by
  rcases a3 with z|z
  ·omega
  ·exact h2 _ z
 have l2:v≤yz b l:=by
  rcases h3 with z|z
  ·omega
  ·exact a2 _ z
 omega
abbrev Pl:=List (List Int)
abbrev Q:=Tr×Nat
def mem_zip {α:Type}{l:List α}{q:α×Nat}:q∈l.zipIdx↔l[q.2]?=some q.1:=by
 rw[List.mem_zipIdx_iff_getElem?]
def getD_mem {α:Type}{l:List α}{i:Nat}{d:α}(h:i<l.length):l.getD i d∈l:=by
 rw[getD_eq_getElem?_getD,gd h];exact getElem_mem h
def sd {ts:List Tr}{f:Q→Bool}:(ts.zipIdx.filter f).Pairwise λa b=>a.2≠b.2:=by
 refine List.Pairwise.filter _ ?_;have:(ts.zipIdx.map Prod.snd).Nodup:=by rw[List.zipIdx_map_snd];exact List.nodup_range'
 exact pairwise_map.mp this
set_option maxHeartbeats 1000000
section
variable{K:Z8}{CL:Z2}{Y:Ad}
def aX (r:Z1):D:=.lst (r.map D.int)
def bH (t:Tr):D:=.lst (aw (aG t))
def rn {l:Zy}:FA (.lst l)= .ok (!l.isEmpty):=id rfl
structure Ctx (rs:Z1)(g:Int)(ts:List Tr):Prop where
 ln:GoodLine rs g
 tr:∀t∈ts,Good rs.length t
 few:ts.length≤5
 one:1≤ts.length
def Ctx.good {rs:Z1}{g:Int}{ts:List Tr}{q:Q}(C:Ctx rs g ts)(hq:q∈ts.zipIdx):Good rs.length q.1:=C.tr _ (mem_of_getElem? (mem_zip.mp hq))
def j7 {rs:Z1}{g:Int}(h:GoodLine rs g){s:Nat}(hs:s<rs.length):1≤rs.getD s 0∧rs.getD s 0≤20:=h.run _ (getD_mem hs)
def ww {w:Zz}{i:Nat}{v:Nat}(h:w[i]?=some v):aH (.lst (aw w)) (.int (i:Int))= .ok (.int (v:Int)):=cr h
def eE {α:Type}{l:List α}{i:Nat}{d:α}(h:i<l.length):l[i]?=some (l.getD i d):=by
 rw[getD_eq_getElem?_getD,gd h];rfl
end
set_option maxHeartbeats 1000000
section
variable{K:Z8}{CL:Z2}{Y:Ad}
end
set_option maxHeartbeats 1000000
def AB {r:Z1}:bW 1 (aX r)=true:=by
 unfold aX;exact mf λ_ _=>f_
abbrev Vt:=Nat×Nat
section
variable(vs:List Vt)(W:Vt→List (Vt×Int))(ready:Vt→Int)
def cx (turn:List Vt):List Vt:=vs.filter λv=> !turn.contains v&&((W v).all λu=>turn.contains u.1)
def fg:Nat→List Vt→List Vt
 |0,t=>t
 |n+1,t=>if cx vs W t=[] then t else fg n (t ++ cx vs W t)
structure Turn (t:List Vt):Prop where
 nd:t.Nodup
 sub:∀v∈t,v∈vs
 top:∀a v b,t=a ++ v::b→∀u∈W v,u.1∈a
def Dr (e:Vt→Int)(v:Vt):Vt→Int:=λx=>if x=v then yz (ready v) ((W v).map λu=>e u.1+u.2) else e x
def iL (t:List Vt):Vt→Int:=t.foldl (Dr W ready) (λ_=>0)
structure Sol (τ:Vt→Int):Prop where
 rd:∀v∈vs,ready v≤τ v
 wt:∀v∈vs,∀u∈W v,τ u.1+u.2≤τ v
end
def CY {α:Type}{P:List α→Prop}(h0:P [])(h1:∀t x,P t→P (t ++ [x]))(l:List α):P l:=by
 have h:∀r:List α,P r.reverse:=λr=>by
  induction r with
  |nil=>exact h0
  |cons x r ih=>rw[reverse_cons];exact h1 _ _ ih
 have:=h l.reverse;rwa[List.reverse_reverse]at this
theorem bX {α:Type}[DecidableEq α]:∀{t vs:List α},t.Nodup→(∀v∈t,v∈vs)→t.length≤vs.length
 | [],_,_,_=>zero_le _
 |a::t,vs,nd,h=>by
  obtain⟨n1,n2⟩:=nodup_cons.mp nd;have ha:=h a (mem_cons_self ..);have ih:=bX (vs:=vs.erase a) n2 λv hv=>(List.mem_erase_of_ne (λ(e:v=a)=>n1 (e ▸ hv))).mpr (h v (dk hv));rw[List.length_erase_of_mem ha]at ih;have:=List.length_pos_of_mem ha;rw[length_cons];omega
section
variable{vs:List Vt}{W:Vt→List (Vt×Int)}{ready:Vt→Int}
def mem_freed {t:List Vt}{v:Vt}:v∈cx vs W t↔v∈vs∧v∉t∧∀u∈W v,u.1∈t:=by
 unfold cx;rw[mem_filter,and_eq_true,all_eq_true];simp
def uC:Turn vs W [] where
 nd:=nodup_nil
 sub:=λv h=>nomatch h
 top:=λa v b e=>by cases a <;> cases e
def yo {α:Type}{t f a b:List α}{v:α}(e:t ++ f=a ++ v::b):(∃c,t=a ++ v::c)∨∃c,a=t ++ c∧f=c ++ v::b:=by
 rcases List.append_eq_append_iff.mp e with ⟨c,h1,h2⟩|⟨c,h1,h2⟩
 ·exact .inr ⟨c,h1,h2⟩
 ·cases c with
  |nil=>exact .inr ⟨[],by simpa using h1.symm,by simpa using h2.symm⟩
  |cons x c=>
   simp at h2;obtain⟨rfl,h3⟩:=h2;exact .inl ⟨c,h1⟩
def qP {t:List Vt}(hv:vs.Nodup)(h:Turn vs W t):Turn vs W (t ++ cx vs W t):=by
 refine⟨nodup_append.mpr ⟨h.nd,hv.filter _,λa ha b hb e=>?_⟩,λv m=>?_,λa v b e u hu=>?_⟩
 ·subst e;exact(mem_freed.mp hb).2.1 ha
 ·rcases mem_append.mp m with z|z
  ·exact h.sub v z
  ·exact(mem_freed.mp z).1
 ·rcases yo e with ⟨c,z⟩|⟨c,z1,z2⟩
  ·exact h.top a v c z u hu
  ·rw[z1];exact mem_append_left _ ((mem_freed.mp (by rw[z2];exact mem_append_right _ (mem_cons_self ..))).2.2 u hu)
theorem qm (hv:vs.Nodup):∀(n:Nat) (t:List Vt),Turn vs W t→vs.length<n+t.length→Turn vs W (fg vs W n t)∧cx vs W (fg vs W n t)=[]
 |0,t,h,hl=>by have:=bX h.nd h.sub;omega
 |n+1,t,h,hl=>by
  unfold fg;by_cases e:cx vs W t=[]
  ·rw[Yo e];exact⟨h,e⟩
  ·rw[Ym e];refine qm hv n _ (qP hv h) ?_;have:=length_pos_iff.mpr e;rw[length_append];omega
def Turn.pre {a b:List Vt}(h:Turn vs W (a ++ b)):Turn vs W a:=⟨(nodup_append.mp h.nd).1,λv m=>h.sub v (mem_append_left _ m),λx v y e u hu=>h.top x v (y ++ b) (by rw[e];simp) u hu⟩
def oH {t:List Vt}{v:Vt}:iL W ready (t ++ [v])=Dr W ready (iL W ready t) v:=by unfold iL;rw[List.foldl_append];rfl
def rS:∀{t:List Vt},Turn vs W t→∀v∈t,iL W ready t v=yz (ready v) ((W v).map λu=>iL W ready t u.1+u.2):=by
 intro t
 induction t using CY with
 |h0=>intro _ v m;cases m
 |h1 t x ih=>
  intro h v m;have hx:x∉t:=λz=>(nodup_append.mp h.nd).2.2 x z x (List.mem_singleton_self x) rfl;have wx:∀u∈W x,u.1∈t:=λu hu=>h.top t x [] rfl u hu;have same:∀y∈t,Dr W ready (iL W ready t) x y=iL W ready t y:=λy hy=>by unfold Dr;rw[Ym (λ(z:y=x)=>hx (z ▸ hy))]
  rw[oH];have key:∀y,(∀u∈W y,u.1∈t)→((W y).map λu=>Dr W ready (iL W ready t) x u.1+u.2)=(W y).map λu=>iL W ready t u.1+u.2:=λy hy=>map_congr_left λu hu=>by rw[same u.1 (hy u hu)]
  rcases mem_append.mp m with z|z
  ·rw[same v z,ih h.pre v z];obtain⟨a,b,e⟩:=List.append_of_mem z;rw[key v λu hu=>by rw[e];exact mem_append_left _ (h.pre.top a v b e u hu)]
  ·have e:=mem_singleton.mp z;subst e;rw[key v wx];unfold Dr;rw[Yo rfl]
def zD {t:List Vt}(h:Turn vs W t){v:Vt}(m:v∈t):ready v≤iL W ready t v:=by
 rw[rS h v m];exact(jA _ _).1.1
def zE {t:List Vt}(h:Turn vs W t){v:Vt}(m:v∈t){u:Vt×Int}(hu:u∈W v):iL W ready t u.1+u.2≤iL W ready t v:=by
 rw[rS h v m];exact(jA _ _).1.2 _ (List.mem_map_of_mem hu)
def qw {t:List Vt}(h:Turn vs W t){v:Vt}(m:v∈t):iL W ready t v=ready v∨∃u∈W v,iL W ready t v=iL W ready t u.1+u.2:=by
 rcases (jA ((W v).map λu=>iL W ready t u.1+u.2) (ready v)).2 with z|z
 ·exact .inl ((rS h v m).trans z)
 ·obtain⟨u,hu,e⟩:=mem_map.mp z;exact .inr ⟨u,hu,(rS h v m).trans e.symm⟩
def tJ {τ:Vt→Int}(s:Sol vs W ready τ)(h0:∀v∈vs,0≤ready v)(hw:∀v∈vs,∀u∈W v,1≤u.2∧u.1∈vs){t:List Vt}(he:cx vs W t=[]):∀v∈vs,v∈t:=by
 have go:∀n:Nat,∀v∈vs,(τ v).toNat≤n→v∈t:=by
  intro n
  induction n with
  |zero=>
   intro v j hn;apply Classical.byContradiction;intro nt;have:v∈cx vs W t:=mem_freed.mpr ⟨j,nt,λu hu=>by
    exfalso;have h1:=s.wt v j u hu;have h2:=hw v j u hu;have h3:=s.rd u.1 h2.2;have h4:=h0 u.1 h2.2;omega⟩
   rw[he]at this;cases this
  |succ n ih=>
   intro v j hn;apply Classical.byContradiction;intro nt;have:v∈cx vs W t:=mem_freed.mpr ⟨j,nt,λu hu=>by
    have h1:=s.wt v j u hu;have h2:=hw v j u hu;have h3:=s.rd u.1 h2.2;have h4:=h0 u.1 h2.2;exact ih u.1 h2.2 (by omega)⟩
   rw[he]at this;cases this
 exact λv j=>go _ v j (le_refl _)
end
set_option maxHeartbeats 1000000
def ah (ts:List Tr):List Vt:=ts.zipIdx.flatMap λq=>(aG q.1).map λs=>(q.2,s)
def mem_visits {ts:List Tr}{v:Vt}:v∈ah ts↔∃t,ts[v.1]?=some t∧v.2∈aG t:=by
 unfold ah;rw[mem_flatMap];constructor
 ·intro hZ36;obtain⟨q,hq,h⟩:=hZ36;obtain⟨s,hs,e⟩:=mem_map.mp h;subst e;exact⟨q.1,mem_zip.mp hq,hs⟩
 ·intro hZ37;obtain⟨t,ht,h⟩:=hZ37;exact⟨(t,v.1),mem_zip.mpr ht,mem_map.mpr ⟨v.2,h,rfl⟩⟩
def bt {ts:List Tr}:(ah ts).Nodup:=by
 unfold ah;have h1:ts.zipIdx.Pairwise λa b=>a.2≠b.2:=by
  have:=sd (ts:=ts) (f:=λ_=>true);rwa[List.filter_eq_self.mpr (λ_ _=>rfl)]at this
 rw[List.nodup_iff_pairwise_ne,List.pairwise_flatMap];refine⟨λq _=>?_,h1.imp λ{a b} hab x hx y hy e=>?_⟩
 ·rw[←List.nodup_iff_pairwise_ne];exact List.Pairwise.map _ (λa b (h:a≠b) e=>h (Prod.mk.inj e).2) (iX (t:=q.1))
 ·obtain⟨s,_,rfl⟩:=mem_map.mp hx;obtain⟨s',_,rfl⟩:=mem_map.mp hy;exact hab (Prod.mk.inj e).1
def wP (rs:Z1)(ts:List Tr)(v:Vt):List (Vt×Int):=match ts[v.1]? with
 |some t=>((aG t).zip (aG t).tail).filterMap λu=>if u.2=v.2 then some ((v.1,u.1),rs.getD u.1 0) else none
 |none=>[]
def wO (rs:Z1)(g:Int)(O:Zs)(v:Vt):List (Vt×Int):=((O.getD v.2 []).zip (O.getD v.2 []).tail).filterMap λu=>if u.2=v.1 then some ((u.1,v.2),rs.getD v.2 0+g) else none
def dq (rs:Z1)(g:Int)(ts:List Tr)(O:Zs)(v:Vt):List (Vt×Int):=wP rs ts v ++ wO rs g O v
def gq (ts:List Tr)(v:Vt):Int:=match ts[v.1]? with|some t=>t.2.2|none=>0
def vg {rs:Z1}{ts:List Tr}{v:Vt}{t:Tr}(ht:ts[v.1]?=some t){u:Vt×Int}:u∈wP rs ts v↔∃a,(a,v.2)∈(aG t).zip (aG t).tail∧u=((v.1,a),rs.getD a 0):=by
 unfold wP;rw[ht];dsimp only;rw[mem_filterMap];constructor
 ·intro hZ38;obtain⟨x,hx,e⟩:=hZ38;by_cases z:x.2=v.2
  ·rw[Yo z]at e;cases e;exact⟨x.1,by rw[←z];exact hx,rfl⟩
  ·rw[Ym z]at e;cases e
 ·intro hZ39;obtain⟨a,ha,e⟩:=hZ39;exact⟨(a,v.2),ha,by rw[Yo rfl,e]⟩
def mem_wO {rs:Z1}{g:Int}{O:Zs}{v:Vt}{u:Vt×Int}:u∈wO rs g O v↔∃a,(a,v.1)∈(O.getD v.2 []).zip (O.getD v.2 []).tail∧u=((a,v.2),rs.getD v.2 0+g):=by
 unfold wO;rw[mem_filterMap];constructor
 ·intro hZ40;obtain⟨x,hx,e⟩:=hZ40;by_cases z:x.2=v.1
  ·rw[Yo z]at e;cases e;exact⟨x.1,by rw[←z];exact hx,rfl⟩
  ·rw[Ym z]at e;cases e
 ·intro hZ41;obtain⟨a,ha,e⟩:=hZ41;exact⟨(a,v.1),ha,by rw[Yo rfl,e]⟩
structure Ords (n:Nat)(ts:List Tr)(O:Zs):Prop where
 len:O.length=n
 nd:∀s,(O.getD s []).Nodup
 mem:∀s k,s<n→(k∈O.getD s []↔(k,s)∈ah ts)
def fQ {α:Type}{l:List α}{u:α×α}(h:u∈l.zip l.tail):u.1∈l∧u.2∈l:=⟨(of_mem_zip h).1,List.mem_of_mem_tail (of_mem_zip h).2⟩
def mJ {rs:Z1}{g:Int}{ts:List Tr}{O:Zs}(C:Ctx rs g ts)(H:Ords rs.length ts O):∀v∈ah ts,∀u∈dq rs g ts O v,1≤u.2∧u.1∈ah ts:=by
 intro v hv u hu;obtain⟨t,ht,hs⟩:=mem_visits.mp hv;have hg:Good rs.length t:=C.tr t (mem_of_getElem? ht)
 rcases mem_append.mp hu with z|z
 ·obtain⟨a,ha,e⟩:=(vg ht).mp z;subst e;have ha':=(fQ ha).1;exact⟨(j7 C.ln (fP hg a ha')).1,mem_visits.mpr ⟨t,ht,ha'⟩⟩
 ·obtain⟨a,ha,e⟩:=mem_wO.mp z;subst e;have hlt:=fP hg v.2 hs;have h1:=(j7 C.ln hlt).1;have h2:=C.ln.gap.1;exact⟨by show 1≤rs.getD v.2 0+g;omega,(H.mem v.2 a hlt).mp (fQ ha).1⟩
def Iw {w:Zz}{n:Nat}:plL n (aw w)=true:=nJ w λ_ _=>gl
def lc {a b:Nat}:cn (.int (a:Int)) (.int (b:Int))=decide (a=b):=by
 unfold cn;by_cases h:a=b
 ·subst h;simp
 ·rw[Zj h];simp;omega
def Iu {w:Zz}{s:Nat}:pG false (.int (s:Int)) (.lst (aw w))= .ok (.bl (decide (s∈w))):=by
 unfold pG;dsimp only;rw[Yo ⟨Iw,gl⟩];congr 2;unfold aw;rw[Ym Bool.false_ne_true,any_map];by_cases h:s∈w
 ·rw[Zo h,List.any_eq_true];exact⟨s,h,by show cn _ _=true;rw[lc];simp⟩
 ·rw[Zj h,List.any_eq_false];intro x hx;show ¬cn _ _=true;rw[lc];simp;exact λz=>h (z ▸ hx)
def Go {w:Zz}{s:Nat}(hl:w.length≤1000)(h:s∈w):∃i,w[i]?=some s∧m7 (.lst (aw w)) (.int (s:Int))= .ok (.int (i:Nat)):=by
 have e:zp (aw w) (.int (s:Int))=w.findIdx? λx=>decide (x=s):=by
  unfold zp aw;rw[List.findIdx?_map];congr 1;funext x;exact lc
 cases q:w.findIdx? λx=>decide (x=s) with
 |none=>
  rw[List.findIdx?_eq_none_iff]at q;have:=q s h;simp at this
 |some i=>
  obtain⟨h1,h2,_⟩:=List.findIdx?_eq_some_iff_getElem.mp q;refine⟨i,by rw[gd h1,Zm h2],?_⟩;unfold m7;dsimp only;rw[Yo ⟨Iw,gl,by unfold aw;rw[length_map];exact Zo (by omega)⟩,e,q]
def aJ (O:Zs):D:=.lst (O.map λo=>.lst (aw o))
def tf {l:Zy}:kS (some 1) none (.lst l)= .ok (.lst l.tail):=by
 show Res.ok (D.lst ((l.drop (HT.dg l.length 0 (some 1))).take (HT.dg l.length l.length none-HT.dg l.length 0 (some 1))))=_;have e1:HT.dg l.length 0 (some 1)=min 1 l.length:=HT.CS l.length 0 1;have e2:HT.dg l.length l.length none=l.length:=rfl;rw[e1,e2];cases l with
 |nil=>rfl
 |cons a l=>
  have:min 1 (a::l).length=1:=by rw[length_cons];omega
  rw[this,length_cons];show Res.ok (D.lst (l.take (l.length+1-1)))=_;rw[Nat.add_sub_cancel,take_length];rfl
set_option maxHeartbeats 1000000
def fj (v:Vt):List bL:=[.inl (v.1:Int),.inl (v.2:Int)]
def vD (v:Vt):D:=.tup [.int (v.1:Int),.int (v.2:Int)]
def wD (u:Vt×Int):D:=.tup [vD u.1,.int u.2]
def lW (W:Vt→List (Vt×Int))(v:Vt):D:=.lst ((W v).map wD)
def dW (vs:List Vt)(W:Vt→List (Vt×Int)):D:=.dct (vs.map fj) (vs.map (lW W))
def fW (vs:List Vt)(W:Vt→List (Vt×Int)):D:=.fdc (vs.map fj) (vs.map (lW W))
def rK {a b:Vt}(h:fj a=fj b):a=b:=by
 unfold fj at h;injection h with h1 h2
 injection h1 with h1
 injection h2 with h2
 injection h2 with h2
 exact Prod.ext (by omega) (by omega)
def fk {v:Vt}:gY [.int (v.1:Int),.int (v.2:Int)]=some (fj v):=rfl
def zw {vs:List Vt}{v:Vt}(h:v∉vs):cI (vs.map fj) (fj v)=none:=by
 unfold cI;rw[List.findIdx?_eq_none_iff];intro k hk;obtain⟨u,hu,rfl⟩:=mem_map.mp hk;exact Zj λz=>h (rK z ▸ hu)
def qq {vs:List Vt}{v:Vt}(h:v∈vs):∃m,cI (vs.map fj) (fj v)=some m∧vs[m]?=some v:=by
 cases q:cI (vs.map fj) (fj v) with
 |none=>
  unfold cI at q;rw[List.findIdx?_eq_none_iff]at q;have:=q (fj v) (List.mem_map_of_mem h);simp at this
 |some m=>
  refine⟨m,rfl,?_⟩;unfold cI at q;obtain⟨h1,h2,_⟩:=List.findIdx?_eq_some_iff_getElem.mp q;rw[List.getElem_map]at h2;rw[length_map]at h1;rw[gd h1,rK (Zm h2)]
theorem vL {f:Vt→D}:∀{vs:List Vt} {v:Vt},v∈vs→sJ (vs.map fj) (vs.map f) (fj v)=some (f v)
 |a::vs,v,h=>by
  rw[map_cons,map_cons];unfold sJ;by_cases e:a=v
  ·subst e;rw[Yo rfl]
  ·rw[Ym (λz=>e (rK z))]
   rcases mem_cons.mp h with z|z
   ·exact absurd z.symm e
   ·exact vL z
def ol {f:Vt→D}{vs:List Vt}{v:Vt}(h:v∈vs):aT (.fdc (vs.map fj) (vs.map f)) (vD v)= .ok (f v):=by
 show k9 (vs.map fj) (vs.map f) [.int (v.1:Int),.int (v.2:Int)]=_;unfold k9;rw[fk];dsimp only;rw[vL h]
def jn {f:Vt→D}{vs:List Vt}{v:Vt}(h:v∈vs):aT (.dct (vs.map fj) (vs.map f)) (vD v)= .ok (f v):=by
 show k9 (vs.map fj) (vs.map f) [.int (v.1:Int),.int (v.2:Int)]=_;unfold k9;rw[fk];dsimp only;rw[vL h]
def lE {f:Vt→D}{vs:List Vt}{v:Vt}(h:v∉vs):kP (vs.map fj) (vs.map f) (fj v) (f v)= .dct ((vs ++ [v]).map fj) ((vs ++ [v]).map f):=by
 unfold kP;rw[zw h];simp only[map_append,map_cons,map_nil]
def dw (E:List (Vt×Vt×Int))(v:Vt):List (Vt×Int):=E.filterMap λe=>if e.1=v then some e.2 else none
def nT {E F:List (Vt×Vt×Int)}{v:Vt}:dw (E ++ F) v=dw E v ++ dw F v:=List.filterMap_append ..
def vT {E:List (Vt×Vt×Int)}{v:Vt}(h:∀e∈E,e.1≠v):dw E v=[]:=by
 unfold dw;rw[List.filterMap_eq_nil_iff];intro e he;rw[Ym (h e he)]
def sS {E:List (Vt×Vt×Int)}{v:Vt}:(dw E v).length≤E.length:=List.length_filterMap_le ..
def DN {vs:List Vt}{E:List (Vt×Vt×Int)}{v:Vt}{u:Vt×Int}{m:Nat}(nd:vs.Nodup)(h:vs[m]?=some v):bZ [m] (dW vs (dw E)) (.lst ((dw E v).map wD ++ [wD u]))=dW vs (dw (E ++ [(v,u)])):=by
 have hk:(vs.map (lW (dw E)))[m]?=some (lW (dw E) v):=by rw[getElem?_map,h];rfl
 unfold bZ dW;simp only[bV,hk,fq,bZ];congr 1;refine ext_getElem? λi=>?_;rw[getElem?_set,getElem?_map];by_cases hi:m=i
 ·subst hi;have hl:m<(vs.map (lW (dw E))).length:=(fR hk).1;rw[Yo rfl,Yo hl,getElem?_map,h];show some _=some (lW (dw (E ++ [(v,u)])) v);unfold lW;rw[nT];have:dw [(v,u)] v=[u]:=by unfold dw;rw[List.filterMap_cons_some (b:=u) (by rw[Yo rfl])];rfl
  rw[this,map_append];rfl
 ·rw[Ym hi,getElem?_map];cases q:vs[i]? with
  |none=>rfl
  |some x=>
   show some (lW _ x)=some (lW _ x);have hx:x≠v:=λz=>hi ((List.getElem?_inj (fR h).1 nd).mp (by rw[h,q,z]));have:dw [(v,u)] x=[]:=vT λe he=>by rw[mem_singleton.mp he];exact λz=>hx z.symm
   unfold lW;rw[nT,this,append_nil]
def Eu {vs:List Vt}{W:Vt→List (Vt×Int)}{v:Vt}{m:Nat}(h:vs[m]?=some v):b_ [m] (dW vs W)=some (.lst ((W v).map wD)):=by
 have hk:(vs.map (lW W))[m]?=some (lW W v):=by rw[getElem?_map,h];rfl
 unfold b_ dW;simp only[bV,hk,b_];rfl
def rg (rs:Z1)(k:Nat)(us:List (Nat×Nat)):List (Vt×Vt×Int):=us.map λu=>((k,u.2),(k,u.1),rs.getD u.1 0)
def v6 (rs:Z1)(qs:List Q):List (Vt×Vt×Int):=qs.flatMap λq=>rg rs q.2 ((aG q.1).zip (aG q.1).tail)
def rb (rs:Z1)(g:Int)(s:Nat)(us:List (Nat×Nat)):List (Vt×Vt×Int):=us.map λu=>((u.2,s),(u.1,s),rs.getD s 0+g)
def A6 (rs:Z1)(g:Int)(os:List (List Nat×Nat)):List (Vt×Vt×Int):=os.flatMap λo=>rb rs g o.2 (o.1.zip o.1.tail)
def eY (qs:List Q):List Vt:=qs.flatMap λq=>(aG q.1).map λs=>(q.2,s)
def vQ {α:Type}{l:List α}:l.zipIdx.Pairwise λa b=>a.2≠b.2:=by
 have:(l.zipIdx.map Prod.snd).Nodup:=by rw[List.zipIdx_map_snd];exact List.nodup_range'
 rw[List.nodup_iff_pairwise_ne,pairwise_map]at this;exact this
def qi {α β:Type}{l:List α}{f:α×Nat→List β}{k:Nat}{x:α}(hx:l[k]?=some x)(h:∀q∈l.zipIdx,q.2≠k→f q=[]):l.zipIdx.flatMap f=f (x,k):=by
 obtain⟨a,b,e⟩:=List.append_of_mem (show (x,k)∈l.zipIdx from mem_zip.mpr hx);have pw:=vQ (l:=l);rw[e]at pw h ⊢;obtain⟨_,p2,p3⟩:=List.pairwise_append.mp pw;have ha:a.flatMap f=[]:=List.flatMap_eq_nil_iff.mpr λq hq=>h q (mem_append_left _ hq) (p3 q hq (x,k) (mem_cons_self ..));have hb:b.flatMap f=[]:=List.flatMap_eq_nil_iff.mpr λq hq=>h q (mem_append_right _ (dk hq)) (λz=>(List.pairwise_cons.mp p2).1 q hq z.symm);rw[flatMap_append,flatMap_cons,ha,hb,nil_append,append_nil]
def vU {rs:Z1}{g:Int}{ts:List Tr}{O:Zs}{v:Vt}(hv:v∈ah ts)(hs:v.2<O.length):dw (v6 rs ts.zipIdx ++ A6 rs g O.zipIdx) v=dq rs g ts O v:=by
 obtain⟨t,ht,_⟩:=mem_visits.mp hv;rw[nT];unfold dq;congr 1
 ·unfold dw v6;rw[List.filterMap_flatMap,qi ht]
  ·unfold wP rg;rw[ht];dsimp only;rw[filterMap_map];congr 1;funext u;show (if (v.1,u.2)=v then _ else _)=_
   by_cases z:u.2=v.2
   ·rw[Yo z,Yo (show (v.1,u.2)=v from Prod.ext rfl z)]
   ·have hz:¬(v.1,u.2)=v:=λy=>z (by have:=congrArg (λx:Vt=>x.2) y;exact this);rw[Ym z,Ym hz]
  ·intro q _ hq;unfold rg;rw[filterMap_map,List.filterMap_eq_nil_iff];intro u _;show (if (q.2,u.2)=v then _ else _)=_
   rw[Ym (show ¬(q.2,u.2)=v from λy=>hq (congrArg Prod.fst y))]
 ·unfold dw A6;rw[List.filterMap_flatMap,qi (eE (d:=[]) hs)]
  ·unfold wO rb;rw[filterMap_map];congr 1;funext u;show (if (u.2,v.2)=v then _ else _)=_
   by_cases z:u.2=v.1
   ·rw[Yo z,Yo (show (u.2,v.2)=v from Prod.ext z rfl)]
   ·rw[Ym z,Ym (show ¬(u.2,v.2)=v from λy=>z (congrArg Prod.fst y))]
  ·intro q _ hq;unfold rb;rw[filterMap_map,List.filterMap_eq_nil_iff];intro u _;show (if (u.2,q.2)=v then _ else _)=_
   rw[Ym (show ¬(u.2,q.2)=v from λy=>hq (congrArg Prod.snd y))]
section
variable{K:Z8}{CL:Z2}{Y:Ad}
def gL (ts:List Tr)(s:Nat):List Nat:=(ts.zipIdx.filter λq=>decide (s∈aG q.1)).map λq=>q.2
def going_mem {ts:List Tr}{s k:Nat}:k∈gL ts s↔(k,s)∈ah ts:=by
 unfold gL;rw[mem_map,mem_visits];constructor
 ·intro hZ42;obtain⟨q,hq,rfl⟩:=hZ42;obtain⟨h1,h2⟩:=mem_filter.mp hq;exact⟨q.1,mem_zip.mp h1,Zm h2⟩
 ·intro hZ43;obtain⟨t,ht,h⟩:=hZ43;exact⟨(t,k),mem_filter.mpr ⟨mem_zip.mpr ht,Zo h⟩,rfl⟩
def going_lt {ts:List Tr}{s:Nat}:(gL ts s).Pairwise (· < ·):=by
 unfold gL;have h:(ts.zipIdx.map Prod.snd).Pairwise (· < ·):=by rw[List.zipIdx_map_snd];exact List.pairwise_lt_range'
 exact h.sublist (List.filter_sublist.map _)
def vH {n:Nat}{ts:List Tr}{O:Zs}(H:Ords n ts O){s:Nat}(hs:s<n)(h5:ts.length≤5):mF [.lst (aw (O.getD s []))]= .ok (.lst (aw (gL ts s))):=by
 have hl:(O.getD s []).length≤ts.length:=by
  have:=bX (vs:=List.range ts.length) (H.nd s) λk hk=>by
   obtain⟨t,ht,_⟩:=mem_visits.mp ((H.mem s k hs).mp hk);exact mem_range.mpr (fR ht).1
  rwa[length_range]at this
 have e1:aw (O.getD s [])=((O.getD s []).map λ(k:Nat)=>(k:Int)).map D.int:=by unfold aw;rw[map_map];rfl
 have e2:aw (gL ts s)=((gL ts s).map λ(k:Nat)=>(k:Int)).map D.int:=by unfold aw;rw[map_map];rfl
 unfold mF;dsimp only;rw[e1,eN];dsimp only;rw[Yo (by rw[length_map];omega),e2];congr 3;refine nX ((mH _).trans (List.Perm.map _ ?_)) (uy _) ?_
 ·exact(List.perm_ext_iff_of_nodup (H.nd s) (going_lt.imp λ{a b} h=>by omega)).mpr λk=>(H.mem s k hs).trans going_mem.symm
 ·rw[pairwise_map];exact going_lt.imp λ{a b} h=>by omega
def og {n:Nat}{ts:List Tr}{O:Zs}(H:Ords n ts O)(hn:n≤1000)(h5:ts.length≤5)(hw:∀t∈ts,(aG t).length≤1000):ci K CL Y [.int (n:Int),.lst (ts.map bH),aJ O]= .ok .non:=by
 unfold ci;refine(bN rfl).trans ?_;have e0:aM dF [.int (n:Int),.lst (ts.map bH),aJ O]=[some (.int (n:Int)),some (.lst (ts.map bH)),some (aJ O),none,none,none]:=rfl;rw[e0];unfold dA aJ;simp only[aK,jT,H.len];obtain⟨ρ',h1,_⟩:=lC (xs:=O.zipIdx) (c:=λq:List Nat×Nat=>D.tup [.int (q.2:Int),.lst (aw q.1)]) (asg:=iu 3 4) (F:=av (aF 5 (aU (sE (pC (ac 1) pN)) [none,none,some 3] (iu 0 1) (cG (ae (ac 2) (ac 1) (pG false))) (ac 0))) (dX (cG (ae (c1 (ac 4) mF) (ac 5) lX)) bad1 nxt)) (P:=λ_=>True)
  (ρ:=[some (.int (n:Int)),some (.lst (ts.map bH)),some (.lst (O.map λo=>.lst (aw o))),none,none,none])
  (λ_ ρ=>∃o3 o4 o5,ρ=[some (.int (n:Int)),some (.lst (ts.map bH)),some (.lst (O.map λo=>.lst (aw o))),o3,o4,o5]) ⟨_,_,_,rfl⟩ (λpre q post exs ρ hZ203=>by
   obtain⟨o3,o4,o5,e⟩:=hZ203;subst e;refine⟨_,rfl,?_⟩;have hq:q∈O.zipIdx:=by rw[exs];simp
   have hz:=mem_zip.mp hq;have hs:q.2<n:=by rw[←H.len];exact(fR hz).1
   have e1:O.getD q.2 []=q.1:=by rw[getD_eq_getElem?_getD,hz];rfl
   have srt:=vH H hs h5;rw[e1]at srt;have cg:aU (sE (pC (ac 1) pN)) [none,none,some 3] (iu 0 1) (cG (ae (ac 2) (ac 1) (pG false))) (ac 0) [some (.int (n:Int)),some (.lst (ts.map bH)),some (.lst (O.map λo=>.lst (aw o))),some (.int (q.2:Int)),some (.lst (aw q.1)),o5]= .ok (.lst (aw (gL ts q.2))):=by
    rw[gW (xs:=ts.zipIdx) (c:=λu:Q=>D.tup [.int (u.2:Int),bH u.1]) (p:=λu=>decide (q.2∈aG u.1)) (g:=λu=>D.int (u.2:Int)) (by simp only[aK,jT]) (by rw[length_zipIdx];omega) (λu hu=>⟨_,rfl,?_,λ_=>?_⟩)]
    ·unfold gL aw;rw[map_map];rfl
    ·have:=Iu (w:=aG u.1) (s:=q.2);show cG (ae (ac 2) (ac 1) (pG false)) [some (.int (u.2:Int)),some (.lst (aw (aG u.1))),some (.int (q.2:Int))]=_;simp only[aK,this]
    ·rfl
   simp only[aK,cg,srt,j5 (d:=.lst (aw (gL ts q.2))) (mw λ_ _=>gl)];exact⟨_,rfl,_,_,_,rfl⟩) (λ_ _=>trivial)
 rw[h1];rfl
end
set_option maxHeartbeats 1000000
section
variable{K:Z8}{CL:Z2}{Y:Ad}
def sV {vs:List Vt}{E:List (Vt×Vt×Int)}{v:Vt}{u:Vt×Int}{ρ:DS}{fi f:Z7}(nd:vs.Nodup)(hv:v∈vs)(hE:E.length≤100000)(h:ρ[5]?=some (some (dW vs (dw E))))(hi:fi ρ= .ok (vD v))(hf:f ρ= .ok (wD u)):qW 5 1 (Bg 5 0 (sN 5) fi) f ρ= .nx (ρ.set 5 (some (dW vs (dw (E ++ [(v,u)]))))):=by
 obtain⟨m,h1,h2⟩:=qq hv;have key:=(Bv (g:=Bg 5 0 (sN 5) fi) (f:=f) (j:=5) (n:=1) (p:=[m]) (t:=dW vs (dw E)) (rows:=(dw E v).map wD) (D4 (p:=[]) (n:=0) (kd:=[.int (v.1:Int),.int (v.2:Int)]) (k:=fj v) (t:=dW vs (dw E)) (m:=m) (ks:=vs.map fj) (l:=vs.map (lW (dw E))) (uW h) rfl hi fk h rfl h1) hf rfl h (Eu h2) (by rw[length_map];exact le_trans sS hE));rw[DN nd h2]at key;exact key
def yR {vs:List Vt}{W:Vt→List (Vt×Int)}{v:Vt}{ρ:DS}{fi f:Z7}(hv:v∉vs)(hW:W v=[])(hl:vs.length≤100000)(h:ρ[5]?=some (some (dW vs W)))(hi:fi ρ= .ok (vD v))(hf:f ρ= .ok (.lst [])):cH 5 fi f ρ= .nx (ρ.set 5 (some (dW (vs ++ [v]) W))):=by
 have e:(D.lst []:D)=lW W v:=by unfold lW;rw[hW];rfl
 rw[e]at hf;rw[fG (ks:=vs.map fj) (l:=vs.map (lW W)) (k:=fj v) (kd:=[.int (v.1:Int),.int (v.2:Int)]) h hf hi fk (by rw[length_map];exact hl),lE hv];rfl
abbrev rW (CL:Z2)(rs:Z1)(g:Int)(ts:List Tr)(O:Zs)(d:D)(o6 o7 o8 o9 o10 o11:Y8):DS:=[some (aY CL rs g),some (.lst (ts.map bH)),some (aJ O),some (.lst (rs.map D.int)),some (.int g),some d,o6,o7,o8,o9,o10,o11]
theorem nA {rs:Z1}:∀{qs:List Q},(∀q∈qs,(aG q.1).length≤5)→(v6 rs qs).length≤5*qs.length
 | [],_=>le_refl _
 |q::qs,h=>by
  have ih:=nA (rs:=rs) (qs:=qs) λu hu=>h u (dk hu);have h1:=h q (mem_cons_self ..);unfold v6 at ih ⊢;rw[flatMap_cons,length_append,length_cons];have:(rg rs q.2 ((aG q.1).zip (aG q.1).tail)).length≤5:=by
   unfold rg;rw[length_map,length_zip];omega
  omega
theorem rf {rs:Z1}{g:Int}:∀{os:List (List Nat×Nat)},(∀o∈os,o.1.length≤5)→(A6 rs g os).length≤5*os.length
 | [],_=>le_refl _
 |q::qs,h=>by
  have ih:=rf (rs:=rs) (g:=g) (os:=qs) λu hu=>h u (dk hu);have h1:=h q (mem_cons_self ..);unfold A6 at ih ⊢;rw[flatMap_cons,length_append,length_cons];have:(rb rs g q.2 (q.1.zip q.1.tail)).length≤5:=by
   unfold rb;rw[length_map,length_zip];omega
  omega
theorem lT:∀{qs:List Q},(∀q∈qs,(aG q.1).length≤5)→(eY qs).length≤5*qs.length
 | [],_=>le_refl _
 |q::qs,h=>by
  have ih:=lT (qs:=qs) λu hu=>h u (dk hu);have h1:=h q (mem_cons_self ..);unfold eY at ih ⊢;rw[flatMap_cons,length_append,length_cons,length_map];omega
def visQ_mem {qs:List Q}{v:Vt}:v∈eY qs↔∃q∈qs,q.2=v.1∧v.2∈aG q.1:=by
 unfold eY;rw[mem_flatMap];constructor
 ·intro hZ44;obtain⟨q,hq,h⟩:=hZ44;obtain⟨s,hs,rfl⟩:=mem_map.mp h;exact⟨q,hq,rfl,hs⟩
 ·intro hZ45;obtain⟨q,hq,h1,h2⟩:=hZ45;exact⟨q,hq,mem_map.mpr ⟨v.2,h2,by rw[h1]⟩⟩
def A0 {ts:List Tr}{pre post:List Q}(e:ts.zipIdx=pre ++ post):(eY pre).Nodup:=by
 have:ah ts=eY pre ++ eY post:=by unfold ah eY;rw[e,flatMap_append]
 have h:=bt (ts:=ts);rw[this]at h;exact(nodup_append.mp h).1
def r_ {n:Nat}{ts:List Tr}{O:Zs}(H:Ords n ts O){s:Nat}(hs:s<n):(O.getD s []).length≤ts.length:=by
 have:=bX (vs:=List.range ts.length) (H.nd s) λk hk=>by
  obtain⟨t,ht,_⟩:=mem_visits.mp ((H.mem s k hs).mp hk);exact mem_range.mpr (fR ht).1
 rwa[length_range]at this
def vN {rs:Z1}{g:Int}{ts:List Tr}{O:Zs}(C:Ctx rs g ts)(H:Ords rs.length ts O):gi K CL Y [aY CL rs g,.lst (ts.map bH),aJ O]= .ok (dW (ah ts) (dq rs g ts O)):=by
 have h5:∀q∈ts.zipIdx,(aG q.1).length≤5:=λq hq=>by
  have:=dU (C.good hq);have:=C.ln.few;omega
 have hn5:=C.ln.few;have ht5:=C.few;have hck:ci K CL Y [.int (rs.length:Int),.lst (ts.map bH),aJ O]= .ok .non:=og H (by omega) C.few λt ht=>by
  have:=dU (C.tr t ht);omega
 unfold gi;refine(bN rfl).trans ?_;have e0:aM ku [aY CL rs g,.lst (ts.map bH),aJ O]=[some (aY CL rs g),some (.lst (ts.map bH)),some (aJ O),none,none,none,none,none,none,none,none,none]:=rfl;rw[e0];unfold ia;simp only[aK,Hl,IA,uS,j8,hck,jT];refine eX (λpre f=>∃E F A n k m,f=rW CL rs g ts O (dW (eY pre) (dw (v6 rs pre))) E F A n k m) ⟨none,none,none,none,none,none,rfl⟩ (λpre q post p f hZ204=>?_) (λR hZ205=>?_)
 ·obtain⟨E,F,A,n,k,m,e⟩:=hZ204;subst e;refine⟨_,rfl,?_⟩;have hq:q∈ts.zipIdx:=by rw[p];simp
  have hsub:∀u∈pre,u∈ts.zipIdx:=λu r=>by rw[p];exact mem_append_left _ r
  have hne:∀u∈pre,u.2≠q.2:=λu r=>by
   have pw:=vQ (l:=ts);rw[p]at pw;exact(List.pairwise_append.mp pw).2.2 u r q (mem_cons_self ..)
  have hpl:pre.length≤5:=by
   have:=congrArg List.length p;rw[length_zipIdx,length_append]at this;omega
  have hEl:(v6 rs pre).length≤25:=by
   have:=nA (rs:=rs) (qs:=pre) λu r=>h5 u (hsub u r);omega
  have hVl:(eY pre).length≤25:=by
   have:=lT (qs:=pre) λu r=>h5 u (hsub u r);omega
  have hEne:∀e∈v6 rs pre,e.1.1≠q.2:=λe he=>by
   obtain⟨u,r,h⟩:=mem_flatMap.mp he;obtain⟨x,_,rfl⟩:=mem_map.mp h;exact hne u r
  have hw5:=h5 q hq;have hzp:vP [bH q.1,.lst (aw (aG q.1)).tail]= .ok (((aG q.1).zip (aG q.1).tail).map λu=>.tup [.int (u.1:Int),.int (u.2:Int)]):=by
   unfold bH aw;rw[←List.map_tail];exact za
  have hcut:kS (some 1) none (bH q.1)= .ok (.lst (aw (aG q.1)).tail):=tf;have hseq:AK (bH q.1)= .ok ((aG q.1).map λ(s:Nat)=>D.int (s:Int)):=rfl;simp only[aK,hseq];refine yh (c:=λ(s:Nat)=>D.int (s:Int)) (xs:=aG q.1) (λps f=>∃A n k m,f=rW CL rs g ts O (dW (eY pre ++ ps.map λs=>(q.2,s)) (dw (v6 rs pre))) (some (.int (q.2:Int))) (some (bH q.1)) A n k m) ⟨A,n,k,m,by rw[map_nil,append_nil]⟩ (λps s po w f hZ206=>?_) (λR hZ207=>?_)
  ·obtain⟨A,n,k,m,e⟩:=hZ206;subst e;refine⟨_,rfl,?_⟩;have nv:(q.2,s)∉eY pre ++ ps.map λs=>(q.2,s):=λz=>by
    rcases mem_append.mp z with y|y
    ·obtain⟨u,r,h1,_⟩:=visQ_mem.mp y;exact hne u r h1
    ·obtain⟨s',hs',e⟩:=mem_map.mp y;have e:=(Prod.mk.inj e).2;subst e;have nd:=iX (t:=q.1);rw[w]at nd;exact(nodup_append.mp nd).2.2 s' hs' s' (mem_cons_self ..) rfl
   have hpsl:ps.length≤5:=by
    have:=congrArg List.length w;rw[length_append]at this;omega
   refine⟨_,yR (v:=(q.2,s)) nv (vT λe he z=>hEne e he (congrArg Prod.fst z)) (by rw[length_append,length_map];omega) rfl (by simp only[aK];rfl) (by simp only[aK]),some (.int (s:Int)),n,k,m,?_⟩;rw[map_append,←append_assoc];rfl
  ·obtain⟨A,n,k,m,e⟩:=hZ207;subst e;simp only[aK,hcut,hzp];have ndv:(eY pre ++ (aG q.1).map λs=>(q.2,s)).Nodup:=by
    have:=A0 (pre:=pre ++ [q]) (post:=post) (by rw[p];simp);unfold eY at this;rw[flatMap_append,flatMap_singleton]at this;exact this
   refine lC (λus f=>∃n k,f=rW CL rs g ts O (dW (eY pre ++ (aG q.1).map λs=>(q.2,s)) (dw (v6 rs pre ++ rg rs q.2 us))) (some (.int (q.2:Int))) (some (bH q.1)) A n k m) ⟨n,k,by unfold rg;rw[map_nil,append_nil]⟩ (λus u po w f hZ208=>?_) (λR hZ209=>?_)
   ·obtain⟨n,k,e⟩:=hZ208;subst e;refine⟨_,rfl,?_⟩;have r:u∈(aG q.1).zip (aG q.1).tail:=by rw[w];simp
    have B:=fQ r;have hlt:u.1<rs.length:=fP (C.good hq) _ B.1;have y0:=cr (g:=D.int) (eE (d:=0) hlt);have hul:us.length≤5:=by
     have:=congrArg List.length w;rw[length_append,length_zip]at this;omega
    refine⟨_,sV (v:=(q.2,u.2)) (u:=((q.2,u.1),rs.getD u.1 0)) ndv (mem_append_right _ (mem_map.mpr ⟨u.2,B.2,rfl⟩)) (by unfold rg;rw[length_append,length_map];omega) rfl (by simp only[aK];rfl) (by simp only[aK,y0];rfl),some (.int (u.1:Int)),some (.int (u.2:Int)),?_⟩;unfold rg;rw[map_append,←append_assoc];rfl
   ·obtain⟨n,k,e⟩:=hZ209;refine⟨some (.int (q.2:Int)),some (bH q.1),A,n,k,m,?_⟩;rw[e];unfold eY v6;rw[flatMap_append,flatMap_singleton,flatMap_append,flatMap_singleton]
 ·obtain⟨E,F,A,n,k,m,e⟩:=hZ205;subst e;have hv0:eY ts.zipIdx=ah ts:=rfl;rw[hv0];unfold rW aJ;simp only[aK,jT];have hEl:(v6 rs ts.zipIdx).length≤25:=by
   have:=nA (rs:=rs) (qs:=ts.zipIdx) h5;rw[length_zipIdx]at this;omega
  have hO5:∀o∈O.zipIdx,o.1.length≤5:=λo ho=>by
   have B:=mem_zip.mp ho;have hs:o.2<rs.length:=by rw[←H.len];exact(fR B).1
   have:=r_ H hs;have e1:O.getD o.2 []=o.1:=by rw[getD_eq_getElem?_getD,B];rfl
   rw[e1]at this;omega
  refine eX (c:=λo:List Nat×Nat=>D.tup [.int (o.2:Int),.lst (aw o.1)]) (xs:=O.zipIdx) (λpre f=>∃E F A n k m,f=rW CL rs g ts O (dW (ah ts) (dw (v6 rs ts.zipIdx ++ A6 rs g pre))) E F A n k m) ⟨E,F,A,n,k,m,by unfold A6;rw[List.flatMap_nil,append_nil];rfl⟩ (λpre q post p f hZ210=>?_) (λR hZ211=>?_)
  ·obtain⟨E,F,A,n,k,m,e⟩:=hZ210;subst e;refine⟨_,rfl,?_⟩;have hq:q∈O.zipIdx:=by rw[p];simp
   have B:=mem_zip.mp hq;have hs:q.2<rs.length:=by rw[←H.len];exact(fR B).1
   have e1:O.getD q.2 []=q.1:=by rw[getD_eq_getElem?_getD,B];rfl
   have y0:=cr (g:=D.int) (eE (d:=0) hs);have hpl:pre.length≤5:=by
    have:=congrArg List.length p;rw[length_zipIdx,length_append,H.len]at this;omega
   have hOl:(A6 rs g pre).length≤25:=by
    have:=rf (rs:=rs) (g:=g) (os:=pre) λu r=>hO5 u (by rw[p];exact mem_append_left _ r);omega
   have hzp:vP [.lst (aw q.1),.lst (aw q.1).tail]= .ok ((q.1.zip q.1.tail).map λu=>.tup [.int (u.1:Int),.int (u.2:Int)]):=by
    unfold aw;rw[←List.map_tail];exact za
   simp only[aK,tf,hzp];refine lC (λus f=>∃n k,f=rW CL rs g ts O (dW (ah ts) (dw (v6 rs ts.zipIdx ++ A6 rs g pre ++ rb rs g q.2 us))) E F (some (.int (q.2:Int))) n k (some (.lst (aw q.1)))) ⟨n,k,by unfold rb;rw[map_nil,append_nil]⟩ (λus u po w f hZ212=>?_) (λR hZ213=>?_)
   ·obtain⟨n,k,e⟩:=hZ212;subst e;refine⟨_,rfl,?_⟩;have r:u∈q.1.zip q.1.tail:=by rw[w];simp
    have B:=fQ r;have hul:us.length≤5:=by
     have:=congrArg List.length w;have:=hO5 q hq;rw[length_append,length_zip]at *;omega
    have hv:(u.2,q.2)∈ah ts:=(H.mem q.2 u.2 hs).mp (by rw[e1];exact B.2);refine⟨_,sV (v:=(u.2,q.2)) (u:=((u.1,q.2),rs.getD q.2 0+g)) bt hv (by unfold rb;rw[length_append,length_append,length_map];omega) rfl (by simp only[aK];rfl) (by simp only[aK,y0];rfl),some (.int (u.1:Int)),some (.int (u.2:Int)),?_⟩;unfold rb;rw[map_append,←append_assoc];rfl
   ·obtain⟨n,k,e⟩:=hZ213;refine⟨E,F,some (.int (q.2:Int)),n,k,some (.lst (aw q.1)),?_⟩;rw[e];unfold A6;rw[flatMap_append,flatMap_singleton,←append_assoc]
  ·obtain⟨E,F,A,n,k,m,e⟩:=hZ211;subst e;simp only[aK];unfold dW;congr 2;refine map_congr_left λv hv=>?_;obtain⟨t,ht,h2⟩:=mem_visits.mp hv;unfold lW;rw[vU hv (by rw[H.len];exact fP (C.tr t (mem_of_getElem? ht)) _ h2)]
end
set_option maxHeartbeats 1000000
def Ga {a b:Vt}:cn (vD a) (vD b)=decide (a=b):=by
 unfold vD cn eqBL;rw[lc];unfold eqBL;rw[lc];unfold eqBL;rw[Bool.and_true];by_cases h:a=b
 ·subst h;simp
 ·rw[Zj h];cases q:decide (a.1=b.1) with
  |false=>rfl
  |true=>
   rw[Bool.true_and];exact Zj λz=>h (Prod.ext (Zm q) z)
def GU {v:Vt}:bg 19 (vD v)=true:=by
 unfold vD bg plL plL plL;rw[gl,gl];rfl
def GT {t:List Vt}:plL 19 (t.map vD)=true:=nJ t λ_ _=>GU
def r6 {t:List Vt}{v:Vt}:pG true (vD v) (.lst (t.map vD))= .ok (.bl (!t.contains v)):=by
 unfold pG;dsimp only;rw[Yo ⟨GT,GU⟩,Yo rfl,any_map];congr 3;rw[List.contains_eq_any_beq];congr 1;funext x;show cn (vD x) (vD v)=_;rw[Ga];by_cases h:x=v
 ·subst h;simp
 ·rw[Zj h];exact(beq_eq_false_iff_ne.mpr λz=>h z.symm).symm
section
variable{K:Z8}{CL:Z2}{Y:Ad}{vs:List Vt}{W:Vt→List (Vt×Int)}
def tM {u:Vt×Int}:aH (wD u) (.int 0)= .ok (vD u.1):=gK rfl
def Dg {u:Vt×Int}:aH (wD u) (.int 1)= .ok (.int u.2):=gK rfl
def xM {t:List Vt}{v:Vt}(hv:v∈vs)(hl:(W v).length≤100000):fT K CL Y [fW vs W,.lst (t.map vD),vD v]= .ok (.lst (((W v).filter λu=> !t.contains u.1).map λu=>vD u.1)):=by
 unfold fT;refine(bN rfl).trans ?_;have e0:aM jO [fW vs W,.lst (t.map vD),vD v]=[some (fW vs W),some (.lst (t.map vD)),some (vD v)]:=rfl;rw[e0];unfold jM;have hg:aT (fW vs W) (vD v)= .ok (lW W v):=ol hv;rw[kH,gW (xs:=W v) (c:=wD) (p:=λu=> !t.contains u.1) (g:=λu=>vD u.1) (by simp only[aK,hg];rfl) hl (λu hu=>⟨_,rfl,?_,λ_=>?_⟩)]
 ·rfl
 ·show cG (ae (ae (ac 0) (kI 0) aH) (ac 1) (pG true)) [some (wD u),some (.lst (t.map vD))]=_;simp only[aK,tM,r6]
 ·show ae (ac 0) (kI 0) aH [some (wD u),some (.lst (t.map vD))]=_;simp only[aK,tM]
def zi {t:List Vt}(hl:vs.length≤100000)(hw:∀v∈vs,(W v).length≤100000):gC K CL Y [fW vs W,.lst (t.map vD)]= .ok (.lst ((cx vs W t).map vD)):=by
 unfold gC;refine(bN rfl).trans ?_;have e0:aM nq [fW vs W,.lst (t.map vD)]=[some (fW vs W),some (.lst (t.map vD))]:=rfl;rw[e0];unfold nk;have hk:qu (fW vs W)= .ok (vs.map vD):=by
  show Res.ok ((vs.map fj).map pQ)=_;rw[map_map];rfl
 rw[kH,gW (xs:=vs) (c:=vD) (p:=λv=> !t.contains v&&((W v).all λu=>t.contains u.1)) (g:=vD) (by show (qu (fW vs W))=_;exact hk) hl (λv hv=>⟨_,rfl,?_,λ_=>?_⟩)]
 ·rfl
 ·show Be (cG (ae (ac 0) (ac 1) (pG true))) (jB (tR (bb (pC (ac 2) (pC (ac 1) (pC (ac 0) pN))) (fT K CL Y)))) [some (vD v),some (.lst (t.map vD)),some (fW vs W)]=_;have hh:=xM (K:=K) (CL:=CL) (Y:=Y) (t:=t) hv (hw v hv);cases q:t.contains v with
  |true=>simp only[aK,r6,q]
  |false=>
   simp only[aK,r6,q,hh,rn];congr 1;rw[Bool.not_not];cases y:(W v).all λu=>t.contains u.1 with
   |true=>
    rw[List.filter_eq_nil_iff.mpr λu hu=>by rw[all_eq_true]at y;rw[y u hu];exact Bool.false_ne_true];rfl
   |false=>
    cases z:(W v).filter λu=> !t.contains u.1 with
    |cons a b=>rfl
    |nil=>
     rw[List.filter_eq_nil_iff]at z;have:((W v).all λu=>t.contains u.1)=true:=all_eq_true.mpr λu hu=>by simpa using z u hu
     rw[this]at y;cases y
 ·rfl
def rX {t:List Vt}:bW 1 (.lst (t.map vD))=true:=by
 have:=xS (l:=t.map λv=>[(v.1:Int),(v.2:Int)]);rw[map_map]at this;exact this
def zq (hv:vs.Nodup)(hl:vs.length≤39)(hw:∀v∈vs,(W v).length≤100000):fU K CL Y [fW vs W]= .ok (.lst ((fg vs W 40 []).map vD)):=by
 have ex:∀t:List Vt,gC K CL Y [fW vs W,.lst (t.map vD)]= .ok (.lst ((cx vs W t).map vD)):=λt=>zi (by omega) hw;unfold fU;refine(bN rfl).trans ?_;have e0:aM lY [fW vs W]=[some (fW vs W),none,none]:=rfl;rw[e0];unfold jN;have h0:=ex [];rw[map_nil]at h0;simp only[aK,h0,rX];refine m3 (λn ρ=>∃t,ρ=[some (fW vs W),some (.lst (t.map vD)),some (.lst ((cx vs W t).map vD))]∧Turn vs W t∧vs.length≤n+t.length∧fg vs W (n+1) t=fg vs W 40 []) (λρ=>ρ=[some (fW vs W),some (.lst ((fg vs W 40 []).map vD)),some (.lst [])]) 39 (by omega) ⟨[],rfl,uC,by omega,rfl⟩ (λn ρ hZ214=>?_) (λρ' e=>?_)
 ·obtain⟨t,e,T,hn,hr⟩:=hZ214;subst e;by_cases h:cx vs W t=[]
  ·refine .inl ⟨?_,?_⟩
   ·rw[h];simp only[aK,rn];rfl
   ·rw[h];have e3:fg vs W (n+1) t=t:=by
     unfold fg;rw[Yo h]
    rw[←hr,e3];rfl
  ·have T2:=qP hv T;have l2:=bX T2.nd T2.sub;rw[length_append]at l2;have lp:=length_pos_iff.mpr h;cases n with
   |zero=>omega
   |succ m=>
    refine .inr ⟨?_,m,[some (fW vs W),some (.lst ((t ++ cx vs W t).map vD)),some (.lst ((cx vs W (t ++ cx vs W t)).map vD))],rfl,?_,t ++ cx vs W t,rfl,T2,by rw[length_append];omega,?_⟩
    ·cases q:cx vs W t with
     |nil=>exact absurd q h
     |cons a b=>simp only[aK,rn];rfl
    ·show (av (rq 1 0 (sN 1) (bz gj (ac 2))) (aF 2 (gN 1 (bb (pC (ac 0) (pC (ac 1) pN)) (gC K CL Y))))) _=_;have e1:rq 1 0 (sN 1) (bz gj (ac 2)) [some (fW vs W),some (.lst (t.map vD)),some (.lst ((cx vs W t).map vD))]= .nx [some (fW vs W),some (.lst ((t ++ cx vs W t).map vD)),some (.lst ((cx vs W t).map vD))]:=by
      rw[Bx (j:=1) (n:=0) (p:=[]) (t:=.lst (t.map vD)) (g:=sN 1) (rows:=t.map vD) (l:=(cx vs W t).map vD) (uW rfl) (by simp only[aK]) rfl rfl rfl (by rw[length_map,length_map];omega),map_append];rfl
     rw[bJ,e1];simp only[aK,ex (t ++ cx vs W t),rX]
    ·rw[←hr]
     conv=>rhs;unfold fg
     rw[Ym h]
 ·subst e;simp only[aK]
def EN {a:Int}{ns:Z1}:eS (a::ns)=yz a ns:=by
 have h:=dl (ns:=a::ns) (by simp);exact(EM (h.2 a (mem_cons_self ..)) (λe he=>h.2 e (dk he)) (mem_cons.mp h.1)).symm
def dE (t:List Vt)(f:Vt→Int):D:=.dct (t.map fj) (t.map λv=>.int (f v))
def oJ {ts:List Tr}{t:List Vt}(T:Turn (ah ts) W t)(hl:(ah ts).length≤39)(hw:∀v∈ah ts,(W v).length≤1000):cM K CL Y [.lst (ts.map bE),fW (ah ts) W,.lst (t.map vD)]= .ok (dE t (iL W (gq ts) t)):=by
 unfold cM;refine(bN rfl).trans ?_;have e0:aM dG [.lst (ts.map bE),fW (ah ts) W,.lst (t.map vD)]=[some (.lst (ts.map bE)),some (fW (ah ts) W),some (.lst (t.map vD)),none,none,none]:=rfl;rw[e0];unfold dB;simp only[aK];refine eX (λpre ρ=>∃o4 o5,ρ=[some (.lst (ts.map bE)),some (fW (ah ts) W),some (.lst (t.map vD)),some (dE pre (iL W (gq ts) pre)),o4,o5]) ⟨none,none,rfl⟩ (λpre v post n ρ hZ215=>?_) (λρ' hZ216=>?_)
 ·obtain⟨o4,o5,e⟩:=hZ215;subst e;have hvt:v∈t:=by rw[n];simp
  have hv:=T.sub v hvt;obtain⟨tr,ht,hs⟩:=mem_visits.mp hv;have nv:v∉pre:=λz=>by
   have nd:=T.nd;rw[n]at nd;exact(nodup_append.mp nd).2.2 v z v (mem_cons_self ..) rfl
  have hpl:pre.length≤39:=by
   have:=bX T.nd T.sub;have:=congrArg List.length n;rw[length_append]at this;omega
  have hix:=cr (g:=bE) ht;have e2:aH (bE tr) (.int 2)= .ok (.int tr.2.2):=wc;have er:gq ts v=tr.2.2:=by unfold gq;rw[ht]
  have iv0:aH (vD v) (.int 0)= .ok (.int (v.1:Int)):=gK rfl;have hg:aT (fW (ah ts) W) (vD v)= .ok (lW W v):=ol hv;refine⟨_,rfl,?_⟩;simp only[aK,iv0,hix,e2];have cg:aU (sL (ae (ac 1) (ac 4) aT)) [none,some 3] (aS 0) yes (ae (ae (ac 1) (ae (ac 0) (kI 0) aH) aT) (ae (ac 0) (kI 1) aH) aW) [some (.lst (ts.map bE)),some (fW (ah ts) W),some (.lst (t.map vD)),some (dE pre (iL W (gq ts) pre)),some (vD v),some (.int tr.2.2)]= .ok (.lst ((W v).map λu=>D.int (iL W (gq ts) pre u.1+u.2))):=by
   refine bB (xs:=W v) (c:=wD) (g:=λu=>D.int (iL W (gq ts) pre u.1+u.2)) (by simp only[aK,hg];rfl) (le_trans (hw v hv) (by decide)) (λu hu=>⟨_,rfl,?_⟩);have hp:u.1∈pre:=T.top pre v post n u hu;have hgu:aT (dE pre (iL W (gq ts) pre)) (vD u.1)= .ok (.int (iL W (gq ts) pre u.1)):=jn hp;show ae (ae (ac 1) (ae (ac 0) (kI 0) aH) aT) (ae (ac 0) (kI 1) aH) aW [some (wD u),some (dE pre (iL W (gq ts) pre))]=_;simp only[aK,tM,Dg,hgu,oq]
  have val:(gN 0 (c1 (ae (cU (pC (ac 5) pN)) (aU (sL (ae (ac 1) (ac 4) aT)) [none,some 3] (aS 0) yes (ae (ae (ac 1) (ae (ac 0) (kI 0) aH) aT) (ae (ac 0) (kI 1) aH) aW)) aW) mj)) [some (.lst (ts.map bE)),some (fW (ah ts) W),some (.lst (t.map vD)),some (dE pre (iL W (gq ts) pre)),some (vD v),some (.int tr.2.2)]= .ok (.int (iL W (gq ts) (pre ++ [v]) v)):=by
   have ea:aW (.lst [.int tr.2.2]) (.lst ((W v).map λu=>D.int (iL W (gq ts) pre u.1+u.2)))= .ok (.lst ((tr.2.2::(W v).map λu=>iL W (gq ts) pre u.1+u.2).map D.int)):=by
    have:=hw v hv;rw[tB (cY (by rw[length_map,length_singleton];omega)),map_cons,map_map];rfl
   simp only[aK,cg,ea,tV,EN,f_];rw[oH];unfold Dr;rw[Yo rfl,er]
  refine⟨_,fG (ks:=pre.map fj) (l:=pre.map λv=>.int (iL W (gq ts) pre v)) (k:=fj v) (kd:=[.int (v.1:Int),.int (v.2:Int)]) rfl val (by simp only[aK];rfl) fk (by rw[length_map];omega),some (vD v),some (.int tr.2.2),?_⟩;have ep:kP (pre.map fj) (pre.map λv=>.int (iL W (gq ts) pre v)) (fj v) (.int (iL W (gq ts) (pre ++ [v]) v))=dE (pre ++ [v]) (iL W (gq ts) (pre ++ [v])):=by
   have:(pre.map λv=>D.int (iL W (gq ts) pre v))=pre.map λx=>D.int (iL W (gq ts) (pre ++ [v]) x):=map_congr_left λx hx=>by
    rw[oH];unfold Dr;rw[Ym (λ(z:x=v)=>nv (z ▸ hx))]
   rw[this];exact lE (f:=λx=>D.int (iL W (gq ts) (pre ++ [v]) x)) nv
  rw[ep];rfl
 ·obtain⟨o4,o5,e⟩:=hZ216;subst e;simp only[aK]
def fE (t:List Vt)(f:Vt→Int):D:=.fdc (t.map fj) (t.map λv=>.int (f v))
def AA {t:List Vt}{f:Vt→Int}{q:Q}(hl:(aG q.1).length≤1000)(h:∀s∈aG q.1,(q.2,s)∈t):g_ K CL Y [.int (q.2:Int),bH q.1,fE t f]= .ok (aX ((aG q.1).map λs=>f (q.2,s))):=by
 unfold g_;refine(bN rfl).trans ?_;have e0:aM kY [.int (q.2:Int),bH q.1,fE t f]=[some (.int (q.2:Int)),some (bH q.1),some (fE t f)]:=rfl;rw[e0];unfold kX;rw[kH,bB (xs:=aG q.1) (c:=λ(s:Nat)=>D.int (s:Int)) (g:=λs=>D.int (f (q.2,s))) (by simp only[aK];rfl) (by omega) (λs hs=>⟨_,rfl,?_⟩)]
 ·unfold aX;rw[map_map];rfl
 ·have hg:aT (fE t f) (vD (q.2,s))= .ok (.int (f (q.2,s))):=ol (h s hs);show ae (ac 1) (cA (pC (ac 2) (pC (ac 0) pN))) aT [some (.int (s:Int)),some (fE t f),some (.int (q.2:Int))]=_;simp only[aK];exact hg
def cF (ts:List Tr)(f:Vt→Int):Pl:=ts.zipIdx.map λq=>(aG q.1).map λs=>f (q.2,s)
def vI {ts:List Tr}{t:List Vt}{f:Vt→Int}(h5:ts.length≤5)(hl:∀q∈ts.zipIdx,(aG q.1).length≤1000)(h:∀v∈ah ts,v∈t):d9 K CL Y [.lst (ts.map bH),fE t f]= .ok (.lst ((cF ts f).map aX)):=by
 unfold d9;refine(bN rfl).trans ?_;have e0:aM ik [.lst (ts.map bH),fE t f]=[some (.lst (ts.map bH)),some (fE t f)]:=rfl;rw[e0];unfold h_;rw[kH,bB (xs:=ts.zipIdx) (c:=λu:Q=>D.tup [.int (u.2:Int),bH u.1]) (g:=λq:Q=>aX ((aG q.1).map λs=>f (q.2,s))) (by simp only[aK,jT]) (by rw[length_zipIdx];omega) (λq hq=>⟨_,rfl,?_⟩)]
 ·unfold cF;rw[map_map];rfl
 ·show bb (pC (ac 0) (pC (ac 1) (pC (ac 2) pN))) (g_ K CL Y) [some (.int (q.2:Int)),some (bH q.1),some (fE t f)]=_;simp only[aK,AA (K:=K) (CL:=CL) (Y:=Y) (t:=t) (f:=f) (hl q hq) (λs hs=>h _ (mem_visits.mpr ⟨q.1,mem_zip.mp hq,hs⟩))]
def aP (rs:Z1)(g:Int)(ts:List Tr)(O:Zs):List Vt:=fg (ah ts) (dq rs g ts O) 40 []
def fO {rs:Z1}{g:Int}{ts:List Tr}(C:Ctx rs g ts):(ah ts).length≤39:=by
 have h5:∀q∈ts.zipIdx,(aG q.1).length≤5:=λq hq=>by
  have:=dU (C.good hq);have:=C.ln.few;omega
 have:=lT (qs:=ts.zipIdx) h5;rw[length_zipIdx]at this;have e:eY ts.zipIdx=ah ts:=rfl;rw[e]at this;have:=C.few;omega
def gG {rs:Z1}{g:Int}{ts:List Tr}{O:Zs}(C:Ctx rs g ts):Turn (ah ts) (dq rs g ts O) (aP rs g ts O)∧cx (ah ts) (dq rs g ts O) (aP rs g ts O)=[]:=qm bt 40 [] uC (by have:=fO C;rw[length_nil];omega)
def nD {t vs:List Vt}(nd:vs.Nodup)(h:¬t.length<vs.length)(nt:t.Nodup)(sub:∀v∈t,v∈vs):∀v∈vs,v∈t:=λv hv=>by
 apply Classical.byContradiction;intro z;have:=bX (t:=v::t) (vs:=vs) (nodup_cons.mpr ⟨z,nt⟩) λx hx=>by
  rcases mem_cons.mp hx with e|e
  ·rw[e];exact hv
  ·exact sub x e
 rw[length_cons]at this;omega
end
set_option maxHeartbeats 1000000
def vw {α:Type}:∀{l:List α} {i:Nat} {x:α},l[i]?=some x→(x::l.eraseIdx i).Perm l:=by
 intro l
 induction l with
 |nil=>intro i x h;simp at h
 |cons y l ih=>
  intro i x h;cases i with
  |zero=>cases h;exact .refl _
  |succ i=>exact(List.Perm.swap y x _).trans ((ih h).cons y)
def xw {α β:Type}{f:α→β}:∀{l:List α} {i:Nat},(l.map f).eraseIdx i=(l.eraseIdx i).map f:=by
 intro l
 induction l with
 |nil=>intro i;rfl
 |cons y l ih=>
  intro i;cases i with
  |zero=>rfl
  |succ i=>exact congrArg (f y::·) ih
def zM {α:Type}[DecidableEq α]:∀{l t:List α},t.Nodup→(∀x∈t,x∈l)→l.length≤t.length→l.Nodup:=by
 intro l
 induction l with
 |nil=>intro t _ _ _;exact nodup_nil
 |cons y l ih=>
  intro t nd sub hl;rw[length_cons]at hl;have sub2:∀x∈t.erase y,x∈l:=λx hx=>by
   have hm:=List.mem_of_mem_erase hx
   rcases mem_cons.mp (sub x hm) with e|e
   ·subst e;exact absurd hx (List.Nodup.not_mem_erase nd)
   ·exact e
  have nd2:=nd.erase y;have len:=bX nd2 sub2;have len2:=List.length_erase (a:=y) (l:=t);split at len2
  ·refine nodup_cons.mpr ⟨λhy=>?_,ih nd2 sub2 (by omega)⟩;have:=bX nd λx hx=>by
    rcases mem_cons.mp (sub x hx) with e|e
    ·rw[e];exact hy
    ·exact e
   omega
  ·omega
def pU (ts:List Tr)(s k:Nat):Bool:=decide (s∈aG (ts.getD k (0,0,0)))
def zP {ts:List Tr}{s k:Nat}(hk:k<ts.length):pU ts s k=true↔(k,s)∈ah ts:=by
 unfold pU;rw[decide_eq_true_iff,mem_visits];constructor
 ·exact λh=>⟨_,eE hk,h⟩
 ·intro hZ46;obtain⟨t,ht,h⟩:=hZ46;rw[eE (d:=(0,0,0)) hk]at ht;cases ht;exact h
def wC {n:Nat}{ts:List Tr}{O:Zs}(hl:O.length=n)(h:∀s,s<n→∃row:List Nat,row.Perm (List.range ts.length)∧(O.getD s []).Perm (row.filter (pU ts s))):Ords n ts O:=by
 refine⟨hl,λs=>?_,λs k hs=>?_⟩
 ·by_cases hs:s<n
  ·obtain⟨row,p1,p2⟩:=h s hs;exact p2.nodup_iff.mpr ((p1.nodup_iff.mpr nodup_range).filter _)
  ·rw[getD_eq_getElem?_getD,getElem?_eq_none (by omega)];exact nodup_nil
 ·obtain⟨row,p1,p2⟩:=h s hs;rw[p2.mem_iff,mem_filter,p1.mem_iff,mem_range];constructor
  ·exact λz=>(zP z.1).mp z.2
  ·intro z;obtain⟨t,ht,_⟩:=mem_visits.mp z;have hk:=(fR ht).1;exact⟨hk,(zP hk).mpr z⟩
section
variable{K:Z8}{CL:Z2}{Y:Ad}{n:Nat}{ts:List Tr}
def Dt (hg:∀t∈ts,Good n t)(hn:n≤1000){s k:Nat}(hk:k<ts.length):cG (ae (ac 1) (bb (pC (ae (ac 2) (ac 0) aH) pN) (aI K CL Y)) (pG false)) [some (.int (k:Int)),some (.int (s:Int)),some (.lst (ts.map bE))]= .ok (pU ts s k):=by
 have hx:=eE (d:=((0,0,0):Tr)) hk;have hix:=cr (g:=bE) hx;have hw:=fS (K:=K) (CL:=CL) (Y:=Y) (hg _ (mem_of_getElem? hx)) hn;simp only[aK,hix,hw,Iu];rfl
def AY (hg:∀t∈ts,Good n t)(hn:n≤1000)(ht:ts.length≤5):cu K CL Y [.int (n:Int),.lst (ts.map bE)]= .ok (.lst ((List.range n).map λs=>.lst (aw ((List.range ts.length).filter (pU ts s))))):=by
 unfold cu;refine(bN rfl).trans ?_;have e0:aM fF [.int (n:Int),.lst (ts.map bE)]=[some (.int (n:Int)),some (.lst (ts.map bE))]:=rfl;rw[e0];unfold fw;rw[kH,bB (xs:=List.range n) (c:=λ(s:Nat)=>D.int (s:Int)) (g:=λs=>.lst (aw ((List.range ts.length).filter (pU ts s)))) (by simp only[aK,cc (show n<1000000 by omega)]) (by rw[length_range];omega) (λs hs=>⟨_,rfl,?_⟩)]
 ·rfl
 ·show aU (sR1 (pC (c1 (ac 1) bj) pN)) [none,some 0,some 1] (aS 0) (cG (ae (ac 1) (bb (pC (ae (ac 2) (ac 0) aH) pN) (aI K CL Y)) (pG false))) (ac 0) [some (.int (s:Int)),some (.lst (ts.map bE))]=_;exact gW (xs:=List.range ts.length) (c:=λ(k:Nat)=>D.int (k:Int)) (p:=pU ts s) (g:=λ(k:Nat)=>D.int (k:Int)) (by simp only[aK,fH,cc (show ts.length<1000000 by omega)]) (by rw[length_range];omega) (λk hk=>⟨_,rfl,Dt hg hn (mem_range.mp hk),λ_=>rfl⟩)
def xy {j i:Nat}{ρ:DS}{fi:Z7}{l r:Zy}{m:Nat}{x:D}(h1:ρ[j]?=some (some (.lst l)))(h2:ρ[i]?=some (some (.lst r)))(hf:fi ρ= .ok (.int (m:Int)))(hx:r[m]?=some x)(hl:l.length≤1000)(hr:r.length≤1000):ir j i fi ρ= .nx ((ρ.set i (some (.lst (r.eraseIdx m)))).set j (some (.lst (l ++ [x])))):=by
 unfold ir;rw[h1,h2];dsimp only;rw[bY hf];unfold o_;dsimp only;rw[wu (fR hx).1];dsimp only;rw[hx];exact Yo ⟨cY (by omega),cY (by omega)⟩
abbrev rP (ns rs:Z1)(base g:Int)(ts:List Tr)(o5 o6 o7 o8 o9 o10:Y8):DS:=[some (.scr ns),some (.int base),some (.lst (rs.map D.int)),some (.int g),some (.lst (ts.map bE)),o5,o6,o7,o8,o9,o10]
abbrev rO (ns rs:Z1)(base g:Int)(ts:List Tr)(O:Zs)(o7 o8 o9:Y8):DS:=[some (.scr ns),some (.int base),some (.lst (rs.map D.int)),some (.int g),some (.lst (ts.map bE)),some (.int 0),some (aJ O),o7,o8,o9,none]
def Az {ns rs:Z1}{base g:Int}{O:Zs}(h0:0≤base)(h1:base<1000){s:Nat}(hs:s<5)(ht:ts.length≤5){L:Zz}(hL:L.length≤5) :
  ∃ρ',cv (cG (ae (c1 (ac 8) bj) (kI 0) yx)) (ir 9 8 (bb (pC (ac 0) (pC (ae (ae (ae (ac 1) (kI 1) aW) (ae (kI 6) (ac 7) gk) aW) (c1 (ac 9) bj) aW) (pC (c1 (ac 8) bj) pN))) (al K CL Y))) 6 (rO ns rs base g ts O (some (.int (s:Int))) (some (.lst (aw L))) (some (.lst [])))= .nx ρ'∧∃row:List Nat,row.Perm L∧ρ'=rO ns rs base g ts O (some (.int (s:Int))) (some (.lst [])) (some (.lst (aw row))):=by
 refine kW (λm ρ=>∃l r:List Nat,ρ=rO ns rs base g ts O (some (.int (s:Int))) (some (.lst (aw l))) (some (.lst (aw r)))∧(r ++ l).Perm L∧l.length=m) (λρ=>∃row:List Nat,row.Perm L∧ρ=rO ns rs base g ts O (some (.int (s:Int))) (some (.lst [])) (some (.lst (aw row)))) (λm ρ hZ217=>?_) L.length 6 _ (by omega) ⟨L,[],rfl,.refl _,rfl⟩;obtain⟨l,r,e,hp,hm⟩:=hZ217;subst e;have hlen:=hp.length_eq;rw[length_append]at hlen;have e1:bj [.lst (aw l)]= .ok (.int (l.length:Int)):=fH;have e2:bj [.lst (aw r)]= .ok (.int (r.length:Int)):=fH;cases l with
 |nil=>
  refine .inl ⟨?_,r,by rw[append_nil]at hp;exact hp,rfl⟩;simp only[aK,e1];rfl
 |cons y l=>
  have hl1:(y::l).length=l.length+1:=rfl;cases m with
  |zero=>omega
  |succ m=>
   have db:=cB (ns:=ns) (k:=base+1+6*(s:Int)+(r.length:Int)) (many:=((y::l).length:Int)) (by omega);obtain⟨d,hd⟩:∃d:Nat,drawn ns (base+1+6*(s:Int)+(r.length:Int)) ((y::l).length:Int)=(d:Int):=⟨(drawn ns (base+1+6*(s:Int)+(r.length:Int)) ((y::l).length:Int)).toNat,by omega⟩;have hdr:=bM (K:=K) (CL:=CL) (Y:=Y) (ns:=ns) (k:=base+1+6*(s:Int)+(r.length:Int)) (many:=((y::l).length:Int)) (by omega) (by omega) (by omega) (by omega);rw[hd]at hdr db;have hdl:d<(y::l).length:=by omega
   have hx:=gd hdl;have hgt:((y::l).length:Int)>0:=by omega
   refine .inr ⟨by simp only[aK,e1,Zo hgt],m,rO ns rs base g ts O (some (.int (s:Int))) (some (.lst (aw ((y::l).eraseIdx d)))) (some (.lst (aw (r ++ [(y::l)[d]])))),rfl,?_,(y::l).eraseIdx d,r ++ [(y::l)[d]],rfl,?_,?_⟩
   ·rw[xy (l:=aw r) (r:=aw (y::l)) (m:=d) (x:=.int (((y::l)[d]:Nat):Int)) rfl rfl ?_ (by unfold aw;rw[getElem?_map,hx];rfl) (by unfold aw;rw[length_map];omega) (by unfold aw;rw[length_map];omega)]
    ·have q1:(aw (y::l)).eraseIdx d=aw ((y::l).eraseIdx d):=by unfold aw;exact xw
     have q2:aw r ++ [.int (((y::l)[d]:Nat):Int)]=aw (r ++ [(y::l)[d]]):=by unfold aw;rw[map_append];rfl
     rw[q1,q2];rfl
    ·simp (disch:=omega) only[aK,lg,e1,e2,hdr]
   ·have:=(vw hx).append_left r;rw[append_assoc];exact this.trans hp
   ·have:=List.length_eraseIdx_of_lt hdl;omega
def x9 {ns rs:Z1}{base g:Int}(h0:0≤base)(h1:base<1000)(hg:∀t∈ts,Good rs.length t)(hn:rs.length≤5)(ht:ts.length≤5)(hm:drawn ns base 3=0):∃O,Ords rs.length ts O∧bn K CL Y [.scr ns,.int base,.lst (rs.map D.int),.int g,.lst (ts.map bE)]= .ok (aJ O):=by
 have d1:=bM (K:=K) (CL:=CL) (Y:=Y) (ns:=ns) (k:=base) (many:=3) (by omega) (by omega) (by omega) (by omega);rw[hm]at d1;have hu:=AY (K:=K) (CL:=CL) (Y:=Y) hg (by omega) ht;have hlr:bj [.lst (rs.map D.int)]= .ok (.int (rs.length:Int)):=fH;have loop:=ju (asg:=aS 7) (F:=(av (aF 8 (bz aN (bb (u9 (ae (bb (pC (c1 (ac 2) bj) (pC (ac 4) pN)) (cu K CL Y)) (ac 7) aH)) cD)))
  (av (aF 9 (bz aN (cU pN)))
  (av (cv (cG (ae (c1 (ac 8) bj) (kI 0) yx)) (ir 9 8 (bb (pC (ac 0) (pC (ae (ae (ae (ac 1) (kI 1) aW) (ae (kI 6) (ac 7) gk) aW) (c1 (ac 9) bj) aW) (pC (c1 (ac 8) bj) pN))) (al K CL Y))) 6)
  (nW 6 9))))) (st:=λpre ρ=>∃O o7 q o9,ρ=rO ns rs base g ts O o7 q o9∧O.length=pre.length∧∀s,s<O.length→(O.getD s []).Perm ((List.range ts.length).filter (pU ts s))) (c:=λ(s:Nat)=>D.int (s:Int)) (List.range rs.length) [] (rO ns rs base g ts [] none none none) ⟨[],none,none,none,rfl,rfl,λs h=>by cases h⟩ (λpre s post ex ρ ⟨O,o7,q,o9,e,hl,hO⟩=>?_)
 ·obtain⟨ρ',e,O,o7,q,o9,eρ,hl,hO⟩:=loop;rw[nil_append,length_range]at hl;refine⟨O,wC hl λs hs=>⟨_,.refl _,hO s (by omega)⟩,?_⟩;unfold bn;refine(bN rfl).trans ?_;have e0:aM bi [.scr ns,.int base,.lst (rs.map D.int),.int g,.lst (ts.map bE)]=(rP ns rs base g ts none none none none none none):=rfl;rw[e0];unfold ce;simp only[aK,d1,hlr,cc (show rs.length<1000000 by omega)];have er:[some (D.scr ns),some (.int base),some (.lst (rs.map D.int)),some (.int g),some (.lst (ts.map bE)),some (.int 0),some (.lst []),none,none,none,none]=rO ns rs base g ts [] none none none:=rfl;rw[er];rw[e,eρ];rfl
 ·subst e;rw[nil_append]at ex;have hps:pre.length=s:=by
   have h2:(List.range rs.length)[pre.length]?=(pre ++ s::post)[pre.length]?:=by rw[ex]
   rw[getElem?_append_right (le_refl _),sub_self]at h2;have h3:=fR (show (List.range rs.length)[pre.length]?=some s from h2);obtain⟨_,h4⟩:=h3;rw[List.getElem_range]at h4;exact h4
  have hsn:s<rs.length:=by
   have:=congrArg List.length ex;rw[length_range,length_append,length_cons]at this;omega
  have hix:aH (.lst ((List.range rs.length).map λs=>D.lst (aw ((List.range ts.length).filter (pU ts s))))) (.int (s:Int))= .ok (.lst (aw ((List.range ts.length).filter (pU ts s)))):=cr (g:=λs=>D.lst (aw ((List.range ts.length).filter (pU ts s)))) (by rw[List.getElem?_range hsn]);have hll:((List.range ts.length).filter (pU ts s)).length≤5:=by
   have:=List.length_filter_le (pU ts s) (List.range ts.length);rw[length_range]at this;omega
  obtain⟨ρ2,ew,P,hp,e2⟩:=Az (K:=K) (CL:=CL) (Y:=Y) (ns:=ns) (rs:=rs) (base:=base) (g:=g) (O:=O) h0 h1 (s:=s) (by omega) ht hll;subst e2;refine⟨_,rfl,rO ns rs base g ts (O ++ [P]) (some (.int (s:Int))) (some (.lst [])) none,?_,O ++ [P],_,_,_,rfl,by rw[length_append,length_append,hl];rfl,λs' hs'=>?_⟩
  ·have hld:∀l:List D,cD [.lst l]= .ok (.lst l):=λ_=>rfl;have er:(rO ns rs base g ts O o7 q o9).set 7 (some (.int (s:Int)))=rO ns rs base g ts O (some (.int (s:Int))) q o9:=rfl;rw[er];have e8:aF 8 (bz aN (bb (u9 (ae (bb (pC (c1 (ac 2) bj) (pC (ac 4) pN)) (cu K CL Y)) (ac 7) aH)) cD)) (rO ns rs base g ts O (some (.int (s:Int))) q o9)= .nx (rO ns rs base g ts O (some (.int (s:Int))) (some (.lst (aw ((List.range ts.length).filter (pU ts s))))) o9):=by
    simp only[aK,u9,hlr,hu,hix,hld]
   have e9:∀q,aF 9 (bz aN (cU pN)) (rO ns rs base g ts O (some (.int (s:Int))) q o9)= .nx (rO ns rs base g ts O (some (.int (s:Int))) q (some (.lst []))):=λq=>by simp only[aK]
   rw[bJ,e8,bf,bJ,e9,bf,bJ,ew,bf];unfold nW;show (if aQ (O.map λo=>D.lst (aw o)).length=true then _ else _)=_
   rw[Yo (cY (by rw[length_map,hl,hps];omega))];have:(O.map λo=>D.lst (aw o)) ++ [.lst (aw P)]=(O ++ [P]).map λo=>D.lst (aw o):=by rw[map_append];rfl
   rw[this];rfl
  ·rw[length_append,length_singleton]at hs';rw[getD_eq_getElem?_getD];by_cases h:s'<O.length
   ·rw[List.getElem?_append_left h,←getD_eq_getElem?_getD];exact hO s' h
   ·have:s'=s:=by omega
    subst this;rw[getElem?_append_right (by omega)];have:s' - O.length=0:=by omega
    rw[this];exact hp
def x_ {ns rs:Z1}{base g m:Int}(h0:0≤base)(h1:base<1000)(hg:∀t∈ts,Good rs.length t)(hn:rs.length≤5)(ht:ts.length≤5)(hm:drawn ns base 3=m)(hm1:m=1∨m=2):∃O,Ords rs.length ts O∧bn K CL Y [.scr ns,.int base,.lst (rs.map D.int),.int g,.lst (ts.map bE)]= .ok (aJ O):=by
 have d1:=bM (K:=K) (CL:=CL) (Y:=Y) (ns:=ns) (k:=base) (many:=3) (by omega) (by omega) (by omega) (by omega);rw[hm]at d1;have hlr:bj [.lst (rs.map D.int)]= .ok (.int (rs.length:Int)):=fH;have hlt:bj [.lst (ts.map bE)]= .ok (.int (ts.length:Int)):=fH
 -- the ranks,as they are put first and as they are sorted
 let g1:Q→D:=λq=>.tup [.int (q.1.2.2*(m-1)),.int (q.2:Int)]
 let A:Nat→Int:=λk=>(ts.getD k (0,0,0)).2.2*(m-1)+drawn ns (base+40+(k:Int)) 9
 let L:List (List Int):=(List.range ts.length).map λk=>[A k,(k:Int)]
 obtain⟨l,hs,hl,hmem⟩:=yn L (by show ((List.range ts.length).map _).length≤5;rw[length_map,length_range];exact ht) (λt h=>by
  obtain⟨k,_,e⟩:=mem_map.mp h;rw[←e];exact List.cons_ne_nil _ _)
 have hl5:l.length=ts.length:=by rw[hl];show ((List.range ts.length).map _).length=_;rw[length_map,length_range]
 let P:List Nat:=l.map λt=>(t.getD 1 0).toNat
 have htup:∀t∈l,∃k,k<ts.length∧t=[A k,(k:Int)]:=λt h=>by
  obtain⟨k,I,e⟩:=mem_map.mp ((hmem t).mp h);exact⟨k,mem_range.mp I,e.symm⟩
 have T:∀k,k∈P↔k∈List.range ts.length:=λk=>by
  constructor
  ·intro h;obtain⟨t,h1,h2⟩:=mem_map.mp h;obtain⟨k',I,e⟩:=htup t h1;subst e;have h2:(k':Int).toNat=k:=h2;rw[toNat_natCast]at h2;rw[←h2];exact mem_range.mpr I
  ·intro h;exact mem_map.mpr ⟨[A k,(k:Int)],(hmem _).mpr (mem_map.mpr ⟨k,h,rfl⟩),toNat_natCast k⟩
 have hnd:P.Nodup:=zM nodup_range (λk I=>(T k).mpr I) (by show (l.map _).length≤_;rw[length_map,length_range,hl5];exact le_refl _);have hperm:P.Perm (List.range ts.length):=(List.perm_ext_iff_of_nodup hnd nodup_range).mpr T;have hrl:P.length=ts.length:=by show (l.map _).length=_;rw[length_map,hl5]
 refine⟨(List.range rs.length).map λs=>P.filter (pU ts s),wC (by rw[length_map,length_range]) λs hs=>⟨P,hperm,?_⟩,?_⟩
 ·rw[getD_eq_getElem?_getD,getElem?_map,List.getElem?_range hs];exact .refl _
 unfold bn;refine(bN rfl).trans ?_;have e0:aM bi [.scr ns,.int base,.lst (rs.map D.int),.int g,.lst (ts.map bE)]=(rP ns rs base g ts none none none none none none):=rfl;rw[e0];unfold ce;have hne:(m==0)=false:=beq_eq_false_iff_ne.mpr (by omega);have c1':aU (sE (pC (ac 4) pN)) [none,none,some 5] (iu 0 1) yes (cA (pC (ae (ae (ac 1) (kI 2) aH) (ae (ac 2) (kI 1) fN) gk) (pC (ac 0) pN))) (rP ns rs base g ts (some (.int m)) none none none none none)= .ok (.lst (ts.zipIdx.map g1)):=by
  refine bB (xs:=ts.zipIdx) (c:=λq:Q=>D.tup [.int (q.2:Int),bE q.1]) (g:=g1) (by simp only[aK,jT]) (by rw[length_zipIdx];omega) (λq hq=>⟨_,rfl,?_⟩);have e2:aH (bE q.1) (.int 2)= .ok (.int q.1.2.2):=wc;show cA (pC (ae (ae (ac 1) (kI 2) aH) (ae (ac 2) (kI 1) fN) gk) (pC (ac 0) pN)) [some (.int (q.2:Int)),some (bE q.1),some (.int m)]=_;simp (disch:=omega) only[aK,e2,lh];rfl
 have c2':aU (sR1 (pC (c1 (ac 4) bj) pN)) [none,some 0,some 10,some 1] (aS 0) yes (cA (pC (ae (ae (ae (ac 2) (ac 0) aH) (kI 0) aH) (bb (pC (ac 1) (pC (ae (ae (ac 3) (kI 40) aW) (ac 0) aW) (pC (kI 9) pN))) (al K CL Y)) aW) (pC (ac 0) pN))) (rP ns rs base g ts (some (.int m)) none none none none (some (.lst (ts.zipIdx.map g1))))= .ok (.lst (L.map λt=>.tup (t.map D.int))):=by
  have eL:(L.map λt=>D.tup (t.map D.int))=(List.range ts.length).map λ(k:Nat)=>D.tup [.int (A k),.int (k:Int)]:=by show ((List.range ts.length).map _).map _=_;rw[map_map];rfl
  rw[eL];refine bB (xs:=List.range ts.length) (c:=λ(k:Nat)=>D.int (k:Int)) (g:=λ(k:Nat)=>D.tup [.int (A k),.int (k:Int)]) (by simp only[aK,hlt,cc (show ts.length<1000000 by omega)]) (by rw[length_range];omega) (λk I=>⟨_,rfl,?_⟩);have I:=mem_range.mp I;have hz:ts.zipIdx[k]?=some (ts.getD k (0,0,0),k):=by rw[List.getElem?_zipIdx,eE (d:=(0,0,0)) I];simp
  have hix:aH (.lst (ts.zipIdx.map g1)) (.int (k:Int))= .ok (g1 (ts.getD k (0,0,0),k)):=cr (g:=g1) hz;have hi0:aH (g1 (ts.getD k (0,0,0),k)) (.int 0)= .ok (.int ((ts.getD k (0,0,0)).2.2*(m-1))):=gK rfl;have hdr:=bM (K:=K) (CL:=CL) (Y:=Y) (ns:=ns) (k:=base+40+(k:Int)) (many:=9) (by omega) (by omega) (by omega) (by omega);show cA (pC (ae (ae (ae (ac 2) (ac 0) aH) (kI 0) aH) (bb (pC (ac 1) (pC (ae (ae (ac 3) (kI 40) aW) (ac 0) aW) (pC (kI 9) pN))) (al K CL Y)) aW) (pC (ac 0) pN)) [some (.int (k:Int)),some (.scr ns),some (.lst (ts.zipIdx.map g1)),some (.int base)]=_;simp only[aK,hix,hi0,hdr];rfl
 have c3':aU (sL (c1 (ac 10) iW)) [none] (aS 0) yes (ae (ac 0) (kI 1) aH) (rP ns rs base g ts (some (.int m)) none none none none (some (.lst (L.map λt=>.tup (t.map D.int)))))= .ok (.lst (aw P)):=by
  have er:aw P=l.map λt=>D.int ((t.getD 1 0).toNat:Int):=by unfold aw;show (l.map _).map _=_;rw[map_map];rfl
  rw[er];refine bB (xs:=l) (c:=λt=>D.tup (t.map D.int)) (g:=λt=>D.int ((t.getD 1 0).toNat:Int)) (by simp only[aK,hs]) (by omega) (λt h=>⟨_,rfl,?_⟩);obtain⟨k,I,e⟩:=htup t h;subst e;show ae (ac 0) (kI 1) aH [some (.tup [.int (A k),.int (k:Int)])]=_;have hi1:aH (.tup [.int (A k),.int (k:Int)]) (.int 1)= .ok (.int (k:Int)):=gK rfl;simp only[aK,hi1];show _=Res.ok (D.int (((k:Int).toNat:Nat):Int));rw[toNat_natCast]
 have c4':aU (sR1 (pC (c1 (ac 2) bj) pN)) [none,some 9,some 4] (aS 0) yes (aU (sL (ac 1)) [none,some 0,some 2] (aS 0) (cG (ae (ac 1) (bb (pC (ae (ac 2) (ac 0) aH) pN) (aI K CL Y)) (pG false))) (ac 0)) (rP ns rs base g ts (some (.int m)) none none none (some (.lst (aw P))) (some (.lst (L.map λt=>.tup (t.map D.int)))))= .ok (aJ ((List.range rs.length).map λs=>P.filter (pU ts s))):=by
  have eR:aJ ((List.range rs.length).map λs=>P.filter (pU ts s))=D.lst ((List.range rs.length).map λs=>D.lst (aw (P.filter (pU ts s)))):=by unfold aJ;rw[map_map];rfl
  rw[eR];refine bB (xs:=List.range rs.length) (c:=λ(k:Nat)=>D.int (k:Int)) (g:=λs=>D.lst (aw (P.filter (pU ts s)))) (by simp only[aK,hlr,cc (show rs.length<1000000 by omega)]) (by rw[length_range];omega) (λs _=>⟨_,rfl,?_⟩);show aU (sL (ac 1)) [none,some 0,some 2] (aS 0) (cG (ae (ac 1) (bb (pC (ae (ac 2) (ac 0) aH) pN) (aI K CL Y)) (pG false))) (ac 0) [some (.int (s:Int)),some (.lst (aw P)),some (.lst (ts.map bE))]=_;exact gW (xs:=P) (c:=λ(k:Nat)=>D.int (k:Int)) (p:=pU ts s) (g:=λ(k:Nat)=>D.int (k:Int)) rfl (by omega) (λk I=>⟨_,rfl,Dt hg (by omega) (mem_range.mp ((T k).mp I)),λ_=>rfl⟩)
 have lf:bW 2 (aJ ((List.range rs.length).map λs=>P.filter (pU ts s)))=true:=mf λ_ _=>mf λ_ _=>f_;simp only[aK,d1,hne,c1',c2',c3',c4',lf]
def t9 {ns rs:Z1}{base g:Int}(h0:0≤base)(h1:base<1000)(hg:∀t∈ts,Good rs.length t)(hn:rs.length≤5)(ht:ts.length≤5):∃O,Ords rs.length ts O∧bn K CL Y [.scr ns,.int base,.lst (rs.map D.int),.int g,.lst (ts.map bE)]= .ok (aJ O):=by
 have b:=cB (ns:=ns) (k:=base) (many:=3) (by omega);by_cases hm:drawn ns base 3=0
 ·exact x9 h0 h1 hg hn ht hm
 ·exact x_ h0 h1 hg hn ht rfl (by omega)
end
set_option maxHeartbeats 4000000
section
variable{K:Z8}{CL:Z2}{Y:Ad}{rs:Z1}{g:Int}{ts:List Tr}{O:List (List Nat)}
def sM (C:Ctx rs g ts)(H:Ords rs.length ts O):∀v∈ah ts,(dq rs g ts O v).length≤1000:=λv hv=>by
 have hn5:=C.ln.few;have ht5:=C.few;have h5:∀q∈ts.zipIdx,(aG q.1).length≤5:=λq hq=>by
  have:=dU (C.good hq);omega
 obtain⟨t,ht,hs⟩:=mem_visits.mp hv;have hlt:=fP (C.tr t (mem_of_getElem? ht)) _ hs;rw[←vU hv (by rw[H.len];exact hlt)];have h1:=nA (rs:=rs) (qs:=ts.zipIdx) h5;have h2:=rf (rs:=rs) (g:=g) (os:=O.zipIdx) λo ho=>by
  have hz:=mem_zip.mp ho;have hs:o.2<rs.length:=by rw[←H.len];exact(fR hz).1
  have:=r_ H hs;have e1:O.getD o.2 []=o.1:=by rw[getD_eq_getElem?_getD,hz];rfl
  rw[e1]at this;omega
 have h3:=sS (E:=v6 rs ts.zipIdx ++ A6 rs g O.zipIdx) (v:=v);rw[length_append]at h3;rw[length_zipIdx]at h1 h2;rw[H.len]at h2;omega
def sK (C:Ctx rs g ts)(H:Ords rs.length ts O):dJ K CL Y [fW (ah ts) (dq rs g ts O)]=if (aP rs g ts O).length<(ah ts).length then .exc Y.ST else .ok (.lst ((aP rs g ts O).map vD)):=by
 have ht:fU K CL Y [fW (ah ts) (dq rs g ts O)]= .ok (.lst ((aP rs g ts O).map vD)):=zq bt (fO C) λv hv=>le_trans (sM C H v hv) (by decide);have hlk:rY [fW (ah ts) (dq rs g ts O)]= .ok (.int ((ah ts).length:Int)):=by
  show Res.ok (D.int (((ah ts).map fj).length:Int))=_;rw[length_map]
 have e0:aM il [fW (ah ts) (dq rs g ts O)]=[some (fW (ah ts) (dq rs g ts O)),none]:=rfl;unfold dJ;refine(bN rfl).trans ?_;rw[e0];unfold fB;by_cases hlen:(aP rs g ts O).length<(ah ts).length
 ·rw[Yo hlen];have hlen':((aP rs g ts O).length:Int)<((ah ts).length:Int):=by omega
  simp only[aK,ht,hlk,fH,Zo hlen']
 ·rw[Ym hlen];have hlen':¬((aP rs g ts O).length:Int)<((ah ts).length:Int):=by omega
  simp only[aK,ht,hlk,fH,Zj hlen']
def B3 {t:List Vt}{f:Vt→Int}:qu (fE t f)= .ok (t.map vD):=by
 show Res.ok ((t.map fj).map pQ)=_;rw[map_map];rfl
def iv0 {v:Vt}:aH (vD v) (.int 0)= .ok (.int (v.1:Int)):=gK rfl
def Ey {v:Vt}:aH (vD v) (.int 1)= .ok (.int (v.2:Int)):=gK rfl
def mz {s:Nat}(h:s<rs.length):aH (.lst (rs.map D.int)) (.int (s:Int))= .ok (.int (rs.getD s 0)):=cr (g:=D.int) (eE h)
def tS {t:List Vt}{f:Vt→Int}(nd:t.Nodup)(hl:t.length≤39)(hr:∀v∈t,v.2<rs.length):eQ K CL Y [aY CL rs g,fE t f]= .ok (dE t (λv=>f v+rs.getD v.2 0)):=by
 unfold eQ;refine(bN rfl).trans ?_;have e0:aM jh [aY CL rs g,fE t f]=[some (aY CL rs g),some (fE t f),none,none,none]:=rfl;rw[e0];unfold gA;simp only[aK,Hl,j8,L2.sD,B3];refine eX (λpre ρ=>∃o4,ρ=[some (aY CL rs g),some (fE t f),some (.lst (rs.map D.int)),some (dE pre (λv=>f v+rs.getD v.2 0)),o4]) ⟨none,rfl⟩ (λpre v post exs ρ hZ219=>?_) (λρ' hZ220=>?_)
 ·obtain⟨o4,e⟩:=hZ219;subst e;have hvt:v∈t:=by rw[exs];simp
  have nv:v∉pre:=λz=>by
   rw[exs]at nd;exact(nodup_append.mp nd).2.2 v z v (mem_cons_self ..) rfl
  have hpl:pre.length≤39:=by
   have:=congrArg List.length exs;rw[length_append]at this;omega
  have hg:aT (fE t f) (vD v)= .ok (.int (f v)):=ol hvt;refine⟨_,rfl,?_⟩;refine⟨_,fG (ks:=pre.map fj) (l:=pre.map λv=>.int (f v+rs.getD v.2 0)) (k:=fj v) (d:=.int (f v+rs.getD v.2 0)) (kd:=[.int (v.1:Int),.int (v.2:Int)]) rfl (by simp only[aK,hg,Ey,mz (hr v hvt)]) (by simp only[aK];rfl) fk (by rw[length_map];omega),some (vD v),?_⟩;rw[lE (f:=λx=>D.int (f x+rs.getD x.2 0)) nv];rfl
 ·obtain⟨o4,e⟩:=hZ220;subst e;simp only[aK]
end
set_option maxHeartbeats 4000000
section
abbrev Eg:=Vt×Vt×Int
def gw (f:Vt→Int)(e:Eg)(x:Vt):Int:=if f e.1<f e.2.1+e.2.2 then (if x=e.1 then f e.2.1+e.2.2 else f x) else f x
def rx (es:List Eg)(f:Vt→Int):Vt→Int:=es.foldl gw f
def tR:List Eg→(Vt→Int)→Bool
 | [],_=>false
 |e::es,f=>decide (f e.1<f e.2.1+e.2.2)||tR es (gw f e)
def lJ {e:Eg}{es:List Eg}{f:Vt→Int}:rx (e::es) f=rx es (gw f e):=rfl
def mB {es fs:List Eg}{f:Vt→Int}:rx (es ++ fs) f=rx fs (rx es f):=List.foldl_append ..
theorem AR:∀{es fs:List Eg} {f:Vt→Int},tR (es ++ fs) f=(tR es f||tR fs (rx es f))
 | [],fs,f=>by show tR fs f=(false||tR fs f);rw[Bool.false_or]
 |e::es,fs,f=>by
  show (decide _||tR (es ++ fs) (gw f e))=((decide _||tR es (gw f e))||tR fs (rx es (gw f e)));rw[AR (es:=es),Bool.or_assoc]
def AF {f:Vt→Int}{e:Eg}{x:Vt}:f x≤gw f e x:=by
 unfold gw;split
 ·rename_i h;by_cases hx:x=e.1
  ·rw[Yo hx,hx];omega
  ·rw[Ym hx];exact Int.le_refl _
 ·exact Int.le_refl _
def AE {f:Vt→Int}{e:Eg}:f e.2.1+e.2.2≤gw f e e.1:=by
 unfold gw;split
 ·rw[Yo rfl];exact Int.le_refl _
 ·rename_i h;omega
theorem pk:∀{es:List Eg} {f:Vt→Int} {x:Vt},f x≤rx es f x
 | [],_,_=>Int.le_refl _
 |e::es,f,x=>by rw[lJ];exact Int.le_trans AF pk
theorem sC:∀{es:List Eg} {f:Vt→Int} {e:Eg},e∈es→f e.2.1+e.2.2≤rx es f e.1
 |d::es,f,e,h=>by
  rw[lJ]
  rcases mem_cons.mp h with z|z
  ·subst z;exact Int.le_trans AE pk
  ·exact Int.le_trans (Int.add_le_add_right AF _) (sC z)
theorem Dz {vs:List Vt}{τ:Vt→Int}:∀{es:List Eg} {f:Vt→Int},(∀e∈es,e.2.1∈vs∧τ e.2.1+e.2.2≤τ e.1)→(∀x∈vs,f x≤τ x)→∀x∈vs,rx es f x≤τ x
 | [],_,_,h=>h
 |e::es,f,he,h=>by
  rw[lJ];refine Dz (λd hd=>he d (dk hd)) λx hx=>?_;obtain⟨h1,h2⟩:=he e (mem_cons_self ..);have h3:=h _ h1;unfold gw;split
  ·by_cases z:x=e.1
   ·rw[Yo z,z];omega
   ·rw[Ym z];exact h x hx
  ·exact h x hx
theorem nN:∀{es:List Eg} {f:Vt→Int} {x:Vt},(∀e∈es,e.1≠x)→rx es f x=f x
 | [],_,_,_=>rfl
 |e::es,f,x,h=>by
  rw[lJ,nN λd hd=>h d (dk hd)];unfold gw;split
  ·exact Ym (Ne.symm (h e (mem_cons_self ..)))
  ·rfl
theorem jJ:∀{es:List Eg} {f:Vt→Int},tR es f=false→rx es f=f∧∀e∈es,f e.2.1+e.2.2≤f e.1
 | [],_,_=>⟨rfl,λe h=>by cases h⟩
 |e::es,f,h=>by
  have h':(decide (f e.1<f e.2.1+e.2.2)||tR es (gw f e))=false:=h;rw[Bool.or_eq_false_iff,decide_eq_false_iff_not]at h';have e1:gw f e=f:=by funext x;unfold gw;exact Ym h'.1
  rw[e1]at h';obtain⟨a,b⟩:=jJ h'.2;refine⟨by rw[lJ,e1];exact a,λd hd=>?_⟩
  rcases mem_cons.mp hd with z|z
  ·rw[z];omega
  ·exact b d z
theorem AS:∀{es:List Eg} {f:Vt→Int},(∀e∈es,f e.2.1+e.2.2≤f e.1)→tR es f=false
 | [],_,_=>rfl
 |e::es,f,h=>by
  have h0:=h e (mem_cons_self ..);have hn:¬f e.1<f e.2.1+e.2.2:=by omega
  have e1:gw f e=f:=by funext x;unfold gw;exact Ym hn
  show (decide _||tR es (gw f e))=false;rw[e1,Zj hn,AS λd hd=>h d (dk hd)];rfl
structure Fix (vs:List Vt)(es:List Eg)(f0 F:Vt→Int)(L:List Vt):Prop where
 all:∀v∈vs,v∈L
 sub:∀v∈L,v∈vs
 src:∀e∈es,e.1∈vs∧e.2.1∈vs
 sol:∀e∈es,F e.2.1+e.2.2≤F e.1
 low:∀v∈vs,f0 v≤F v
 due:∀a v b,L=a ++ v::b→F v=f0 v∨∃e∈es,e.1=v∧e.2.1∈a∧F v=F e.2.1+e.2.2
structure Up (vs:List Vt)(f0 F:Vt→Int)(L:List Vt)(j:Nat)(f:Vt→Int):Prop where
 lo:∀v∈vs,f0 v≤f v
 hi:∀v∈vs,f v≤F v
 fin:∀v∈L.take j,f v=F v
variable{vs L:List Vt}{es:List Eg}{f0 F:Vt→Int}
def kT {α:Type}{L:List α}{j:Nat}{v:α}(h:v∈L.take (j+1)):v∈L.take j∨∃b,L=L.take j ++ v::b:=by
 by_cases hj:j<L.length
 ·rw[List.take_succ_eq_append_getElem hj]at h
  rcases mem_append.mp h with z|z
  ·exact .inl z
  ·refine .inr ⟨L.drop (j+1),?_⟩;rw[mem_singleton.mp z]
   conv=>lhs;rw[←List.take_append_drop j L,List.drop_eq_getElem_cons hj]
 ·rw[List.take_of_length_le (by omega)]at h;exact .inl (by rw[List.take_of_length_le (by omega)];exact h)
def Fix.step (X:Fix vs es f0 F L){j:Nat}{f:Vt→Int}(U:Up vs f0 F L j f):Up vs f0 F L (j+1) (rx es f):=by
 have hi:∀v∈vs,rx es f v≤F v:=Dz (λe he=>⟨(X.src e he).2,X.sol e he⟩) U.hi;refine⟨λv hv=>Int.le_trans (U.lo v hv) pk,hi,λv hv=>?_⟩;have hvv:v∈vs:=X.sub v (List.mem_of_mem_take hv);refine le_antisymm (hi v hvv) ?_
 rcases kT hv with z|⟨b,e⟩
 ·rw[←U.fin v z];exact pk
 ·rcases X.due _ v b e with z|⟨d,hd,e1,e2,e3⟩
  ·rw[z];exact Int.le_trans (U.lo v hvv) pk
  ·rw[e3,←U.fin _ e2,←e1];exact sC hd
def Fix.zero (X:Fix vs es f0 F L):Up vs f0 F L 0 f0:=⟨λv _=>Int.le_refl _,X.low,λv h=>by simp at h⟩
def Fix.full (X:Fix vs es f0 F L){j:Nat}{f:Vt→Int}(U:Up vs f0 F L j f)(hj:L.length≤j):tR es f=false:=by
 have e:∀v∈vs,f v=F v:=λv hv=>U.fin v (by rw[List.take_of_length_le hj];exact X.all v hv);refine AS λd hd=>?_;rw[e _ (X.src d hd).1,e _ (X.src d hd).2];exact X.sol d hd
def Fix.done (X:Fix vs es f0 F L){f:Vt→Int}(lo:∀v∈vs,f0 v≤f v)(hi:∀v∈vs,f v≤F v)(h:tR es f=false):∀v∈vs,f v=F v:=by
 have hs:=(jJ h).2;have key:∀j,∀v∈L.take j,f v=F v:=by
  intro j
  induction j with
  |zero=>intro v hv;simp at hv
  |succ j ih=>
   intro v hv;have hvv:v∈vs:=X.sub v (List.mem_of_mem_take hv)
   rcases kT hv with z|⟨b,e⟩
   ·exact ih v z
   ·refine le_antisymm (hi v hvv) ?_
    rcases X.due _ v b e with z|⟨d,hd,e1,e2,e3⟩
    ·rw[z];exact lo v hvv
    ·rw[e3,←ih _ e2,←e1];exact hs d hd
 intro v hv;exact key L.length v (by rw[take_length];exact X.all v hv)
variable{W:Vt→List (Vt×Int)}{ready:Vt→Int}{t:List Vt}
def eL (W:Vt→List (Vt×Int))(xs:List Vt):List Eg:=xs.flatMap λv=>(W v).map λu=>(v,u.1,u.2)
def mem_eL {xs:List Vt}{e:Eg}:e∈eL W xs↔e.1∈xs∧(e.2.1,e.2.2)∈W e.1:=by
 unfold eL;rw[mem_flatMap];constructor
 ·intro hZ47;obtain⟨v,hv,h⟩:=hZ47;obtain⟨u,hu,rfl⟩:=mem_map.mp h;exact⟨hv,hu⟩
 ·intro hZ48;obtain⟨h1,h2⟩:=hZ48;exact⟨e.1,h1,mem_map.mpr ⟨_,h2,rfl⟩⟩
def xF (T:Turn vs W t)(full:∀v∈vs,v∈t)(hW:∀v∈vs,∀u∈W v,u.1∈vs):Fix vs (eL W vs) ready (iL W ready t) t where
 all:=full
 sub:=T.sub
 src:=λe he=>⟨(mem_eL.mp he).1,hW _ (mem_eL.mp he).1 _ (mem_eL.mp he).2⟩
 sol:=λe he=>zE T (full _ (mem_eL.mp he).1) (mem_eL.mp he).2
 low:=λv hv=>zD T (full v hv)
 due:=λa v b e=>by
  have hv:v∈t:=by rw[e];simp
  rcases qw (ready:=ready) T hv with z|⟨u,hu,z⟩
  ·exact .inl z
  ·exact .inr ⟨(v,u.1,u.2),mem_eL.mpr ⟨T.sub v hv,hu⟩,rfl,T.top a v b e u hu,z⟩
def eR (W:Vt→List (Vt×Int))(xs:List Vt):List Eg:=xs.flatMap λv=>(W v).map λu=>(u.1,v,u.2)
def mem_eR {xs:List Vt}{e:Eg}:e∈eR W xs↔e.2.1∈xs∧(e.1,e.2.2)∈W e.2.1:=by
 unfold eR;rw[mem_flatMap];constructor
 ·intro hZ49;obtain⟨v,hv,h⟩:=hZ49;obtain⟨u,hu,rfl⟩:=mem_map.mp h;exact⟨hv,hu⟩
 ·intro hZ50;obtain⟨h1,h2⟩:=hZ50;exact⟨e.2.1,h1,mem_map.mpr ⟨_,h2,rfl⟩⟩
def FH (W:Vt→List (Vt×Int)):List Vt→Prop
 | []=>True
 |x::b=>(∀u∈W x,u.1∈b)∧x∉b∧FH W b
theorem rC:∀{l:List Vt},FH W l→∀e∈eR W l,e.1∈l.tail
 | [],_,e,h=>by cases h
 |x::b,⟨h1,h2,h3⟩,e,h=>by
  have h:=mem_eR.mp h
  rcases mem_cons.mp h.1 with z|z
  ·rw[z]at h;exact h1 _ h.2
  ·exact List.mem_of_mem_tail (rC h3 e (mem_eR.mpr ⟨z,h.2⟩))
def jS {x:Vt}{b:List Vt}:eR W (x::b)=((W x).map λu=>(u.1,x,u.2)) ++ eR W b:=rfl
theorem wq:∀{l:List Vt} {h:Vt→Int},FH W l→∀e∈eR W l,rx (eR W l) h e.2.1+e.2.2≤rx (eR W l) h e.1
 | [],_,_,e,h=>by cases h
 |x::b,h,hh,e,he=>by
  have hx:rx (eR W (x::b)) h x=h x:=nN λd hd z=>hh.2.1 (by
   have:=rC hh d hd;rw[z]at this;exact this)
  have he':=he;rw[jS]at he'
  rcases mem_append.mp he' with z|z
  ·obtain⟨u,hu,rfl⟩:=mem_map.mp z;show rx (eR W (x::b)) h x+u.2≤rx (eR W (x::b)) h u.1;rw[hx];exact sC he
  ·rw[jS,mB];exact wq hh.2.2 e z
theorem AG {x:Vt}:∀{us:List (Vt×Int)} {h:Vt→Int} {v:Vt},(∀u∈us,u.1≠x)→rx (us.map λu=>(u.1,x,u.2)) h v=h v∨∃u∈us,u.1=v∧rx (us.map λu=>(u.1,x,u.2)) h v=h x+u.2
 | [],_,_,_=>.inl rfl
 |u::us,h,v,hx=>by
  have k:gw h (u.1,x,u.2) x=h x:=by
   have:=nN (es:=[(u.1,x,u.2)]) (f:=h) (x:=x) λd hd=>by rw[mem_singleton.mp hd];exact hx u (mem_cons_self ..)
   exact this
  rcases AG (x:=x) (us:=us) (h:=gw h (u.1,x,u.2)) (v:=v) λd hd=>hx d (dk hd) with z|⟨d,hd,e,z⟩
  ·by_cases hv:v=u.1
   ·by_cases hl:h u.1<h x+u.2
    ·refine .inr ⟨u,mem_cons_self ..,hv.symm,?_⟩;show rx (us.map λu=>(u.1,x,u.2)) (gw h (u.1,x,u.2)) v=_;rw[z];unfold gw;dsimp only;rw[Yo hl,Yo hv]
    ·refine .inl ?_;show rx (us.map λu=>(u.1,x,u.2)) (gw h (u.1,x,u.2)) v=_;rw[z];unfold gw;dsimp only;rw[Ym hl]
   ·refine .inl ?_;show rx (us.map λu=>(u.1,x,u.2)) (gw h (u.1,x,u.2)) v=_;rw[z];unfold gw;dsimp only;rw[Ym hv];split <;> rfl
  ·refine .inr ⟨d,dk hd,e,?_⟩;show rx (us.map λu=>(u.1,x,u.2)) (gw h (u.1,x,u.2)) v=_;rw[z,k]
theorem wo:∀{l:List Vt} {h:Vt→Int},FH W l→∀v,rx (eR W l) h v=h v∨∃e∈eR W l,e.1=v∧rx (eR W l) h v=rx (eR W l) h e.2.1+e.2.2
 | [],_,_,_=>.inl rfl
 |x::b,h,hh,v=>by
  have hx:rx (eR W (x::b)) h x=h x:=nN λd hd z=>hh.2.1 (by
   have:=rC hh d hd;rw[z]at this;exact this)
  rcases wo (l:=b) (h:=rx ((W x).map λu=>(u.1,x,u.2)) h) hh.2.2 v with z|⟨e,he,e1,z⟩
  ·have z':rx (eR W (x::b)) h v=rx ((W x).map λu=>(u.1,x,u.2)) h v:=by rw[jS,mB];exact z
   rcases AG (x:=x) (us:=W x) (h:=h) (v:=v) (λu hu e=>hh.2.1 (e ▸ hh.1 u hu)) with y|⟨u,hu,e,y⟩
   ·exact .inl (z'.trans y)
   ·exact .inr ⟨(u.1,x,u.2),by rw[jS];exact mem_append_left _ (mem_map.mpr ⟨u,hu,rfl⟩),e,by rw[z',y,hx]⟩
  ·exact .inr ⟨e,by rw[jS];exact mem_append_right _ he,e1,by rw[jS,mB];exact z⟩
theorem zn:∀{l:List Vt},l.Nodup→(∀a x b,l=a ++ x::b→∀u∈W x,u.1∈b)→FH W l
 | [],_,_=>trivial
 |x::b,nd,h=>⟨h [] x b rfl,(nodup_cons.mp nd).1,zn (nodup_cons.mp nd).2 λa y c e=>h (x::a) y c (by rw[e];rfl)⟩
def lP (T:Turn vs W t):∀a x b,t.reverse=a ++ x::b→∀u∈W x,u.1∈b:=λa x b e u hu=>by
 have e2:t=b.reverse ++ x::a.reverse:=by
  have:=congrArg List.reverse e;simpa using this
 exact mem_reverse.mp (T.top _ _ _ e2 u hu)
def u4 (T:Turn vs W t)(full:∀v∈vs,v∈t)(hW:∀v∈vs,∀u∈W v,u.1∈vs)(h0:Vt→Int):Fix vs (eR W vs) h0 (rx (eR W t.reverse) h0) t.reverse:=by
 have nd:t.reverse.Nodup:=List.pairwise_reverse.mpr (T.nd.imp λh=>Ne.symm h);have top:=lP T;have hh:FH W t.reverse:=zn nd top;have mem:∀e,e∈eR W vs↔e∈eR W t.reverse:=λe=>by
  rw[mem_eR,mem_eR,mem_reverse];exact⟨λhZ221=>(by obtain⟨a,b⟩:=hZ221;exact⟨full _ a,b⟩),λhZ222=>(by obtain⟨a,b⟩:=hZ222;exact⟨T.sub _ a,b⟩)⟩
 refine⟨λv hv=>mem_reverse.mpr (full v hv),λv hv=>T.sub v (mem_reverse.mp hv),λe he=>⟨hW _ (mem_eR.mp he).1 _ (mem_eR.mp he).2,(mem_eR.mp he).1⟩,λe he=>wq hh e ((mem e).mp he),λv _=>pk,λa v b e=>?_⟩
 rcases wo (h:=h0) hh v with z|⟨d,hd,e1,z⟩
 ·exact .inl z
 ·refine .inr ⟨d,(mem d).mpr hd,e1,?_,z⟩;have hd':=mem_eR.mp hd;have hm:=hd'.1;rw[e]at hm
  rcases mem_append.mp hm with y|y
  ·exact y
  ·exfalso;have ndv:=nd;rw[e]at ndv;have nv:v∉b:=(nodup_cons.mp (nodup_append.mp ndv).2.1).1
   rcases mem_cons.mp y with y|y
   ·have:=top a v b e (d.1,d.2.2) (by rw[←y];exact hd'.2);rw[e1]at this;exact nv this
   ·obtain⟨p,q,hpq⟩:=List.append_of_mem y;have:=top (a ++ v::p) d.2.1 q (by rw[e,hpq];simp) (d.1,d.2.2) hd'.2;rw[e1]at this;exact nv (by rw[hpq];simp[this])
end
set_option maxHeartbeats 4000000
section
variable{K:Z8}{CL:Z2}{Y:Ad}{rs:Z1}{g:Int}{ts:List Tr}{O:List (List Nat)}
def uj {β:Type}{f:Nat→β}{x:Nat}{l:List (Nat×Nat)}(h:∀u∈l,u.2≠x):(l.filterMap λu=>if u.2=x then some (f u.1) else none)=[]:=by
 rw[List.filterMap_eq_nil_iff];intro u hu;rw[Ym (h u hu)]
def A8 {β:Type}(l:Zz)(f:Nat→β):Nat→List β
 |0=>[]
 |j+1=>(l[j]?).toList.map f
theorem An {β:Type}{f:Nat→β}:∀{l:Zz} {i x:Nat},l.Nodup→l[i]?=some x→((l.zip l.tail).filterMap λu=>if u.2=x then some (f u.1) else none)=A8 l f i
 | [],i,x,_,h=>by simp at h
 | [a],i,x,_,h=>by
  cases i with
  |zero=>rfl
  |succ i=>simp at h
 |a::b::r,i,x,nd,h=>by
  have nd2:=(nodup_cons.mp nd).2;have na:=(nodup_cons.mp nd).1;have nb:=(nodup_cons.mp nd2).1;have e:(a::b::r).zip (a::b::r).tail=(a,b)::(b::r).zip (b::r).tail:=rfl;rw[e];have tl:∀u∈(b::r).zip (b::r).tail,u.2∈r:=λu hu=>(of_mem_zip hu).2;cases i with
  |zero=>
   have hx:x=a:=(Option.some.inj h).symm;subst hx;refine uj λu hu=>?_
   rcases mem_cons.mp hu with z|z
   ·rw[z];exact λe=>na (by simp[show x=b from e.symm])
   ·exact λe=>na (dk (by rw[←e];exact tl u z))
  |succ i=>
   cases i with
   |zero=>
    have hx:x=b:=(Option.some.inj h).symm;subst hx;rw[filterMap_cons,Yo rfl];dsimp only;rw[uj λu hu e=>nb (by rw[←e];exact tl u hu)];rfl
   |succ j=>
    have hx:(b::r)[j+1]?=some x:=h;have xr:x∈r:=mem_of_getElem? (i:=j) hx;rw[filterMap_cons,Ym (λe=>nb (by rw[show b=x from e];exact xr))];dsimp only;rw[An nd2 hx];rfl
def A4 (C:Ctx rs g ts)(H:Ords rs.length ts O){v:Vt}(hv:v∈ah ts){u:Vt×Int}(hu:u∈dq rs g ts O v):u.2=if u.1.1=v.1 then rs.getD u.1.2 0 else rs.getD u.1.2 0+g:=by
 obtain⟨t,ht,hs⟩:=mem_visits.mp hv
 rcases mem_append.mp hu with h|h
 ·obtain⟨a,_,rfl⟩:=(vg ht).mp h;rw[Yo rfl]
 ·obtain⟨a,ha,rfl⟩:=mem_wO.mp h;have nd:=H.nd v.2;have hne:a≠v.1:=λz=>by
   rw[z]at ha;obtain⟨i,hi,e⟩:=List.getElem_of_mem ha;rw[List.getElem_zip]at e;rw[length_zip,List.length_tail]at hi;have e1:=congrArg Prod.fst e;have e2:=congrArg Prod.snd e;dsimp only at e1 e2;rw[List.getElem_tail]at e2;have:=(List.getElem_inj nd).mp (e1.trans e2.symm);omega
  rw[Ym hne]
abbrev rV (ts:List Tr)(O:Zs)(v:Vt)(t:Tr)(i:Nat)(o5 o6 o7:Y8):DS:=[some (.lst (ts.map bE)),some (aJ O),some (vD v),some (.lst (aw (aG t))),some (.int (i:Int)),o5,o6,o7]
def mP (C:Ctx rs g ts)(H:Ords rs.length ts O){v:Vt}(hv:v∈ah ts):br K CL Y [.lst (ts.map bE),aJ O,vD v]= .ok (.lst ((dq rs g ts O v).map λu=>vD u.1)):=by
 have hn5:=C.ln.few;have ht5:=C.few;obtain⟨t,ht,hs⟩:=mem_visits.mp hv;have htr:=C.tr t (mem_of_getElem? ht);have hlt:=fP htr _ hs;have y2:aH (.lst (ts.map bE)) (.int (v.1:Int))= .ok (bE t):=cr ht;have y3:=fS (K:=K) (CL:=CL) (Y:=Y) htr (show rs.length≤1000 by omega);obtain⟨i,hi,ei⟩:=Go (w:=aG t) (s:=v.2) (by have:=dU htr;omega) hs;have hO:O[v.2]?=some (O.getD v.2 []):=eE (by rw[H.len];exact hlt);have y4:aH (aJ O) (.int (v.2:Int))= .ok (.lst (aw (O.getD v.2 []))):=cr (g:=λo=>D.lst (aw o)) hO;have hk:v.1∈O.getD v.2 []:=(H.mem v.2 v.1 hlt).mpr hv;obtain⟨j,hj,ej⟩:=Go (w:=O.getD v.2 []) (s:=v.1) (by have:=r_ H hlt;omega) hk;have eW:dq rs g ts O v=A8 (aG t) (λa=>((v.1,a),rs.getD a 0)) i ++ A8 (O.getD v.2 []) (λa=>((a,v.2),rs.getD v.2 0+g)) j:=by
  unfold dq wP wO;rw[ht];dsimp only;rw[An (f:=λa=>((v.1,a),rs.getD a 0)) iX hi,An (f:=λa=>((a,v.2),rs.getD v.2 0+g)) (H.nd v.2) hj]
 have eM:(dq rs g ts O v).map (λu=>vD u.1)=A8 (aG t) (λa=>vD (v.1,a)) i ++ A8 (O.getD v.2 []) (λa=>vD (a,v.2)) j:=by
  rw[eW,map_append];congr 1
  ·cases i with
   |zero=>rfl
   |succ i=>unfold A8;rw[map_map];rfl
  ·cases j with
   |zero=>rfl
   |succ j=>unfold A8;rw[map_map];rfl
 rw[eM];have e0:aM ig [.lst (ts.map bE),aJ O,vD v]=[some (.lst (ts.map bE)),some (aJ O),some (vD v),none,none,none,none,none]:=rfl;unfold br;refine(bN rfl).trans ?_;rw[e0];unfold fx;refine bw [some (.lst (ts.map bE)),some (aJ O),some (vD v),some (.lst (aw (aG t))),none,none,none,none] (by simp only[aK,iv0,y2,y3]) ?_;refine bw (rV ts O v t i none none none) (by simp only[aK,Ey,ei]) ?_;refine bw (rV ts O v t i (some (.lst [])) none none) (by simp only[aK]) ?_;generalize hA:A8 (aG t) (λa=>vD (v.1,a)) i=A;have s1:dX (cG (ae (ac 4) (kI 0) yx)) (m6 5 (bz bq (cA (pC (ae (ac 2) (kI 0) aH) (pC (ae (ac 3) (ae (ac 4) (kI 1) fN) aH) pN))))) nxt (rV ts O v t i (some (.lst [])) none none)= .nx (rV ts O v t i (some (.lst A)) none none)∧A.length≤1:=by
  cases i with
  |zero=>
   have hA':A=[]:=hA.symm;have q:decide (((0:Nat):Int)>0)=false:=by decide
   refine⟨?_,by rw[hA'];decide⟩;rw[hA'];simp only[aK,q]
  |succ i=>
   have hi1:i+1<(aG t).length:=(fR hi).1;have hp:(aG t)[i]?=some (aG t)[i]:=gd (by omega);have hA':A=[vD (v.1,(aG t)[i])]:=by
    rw[←hA];show ((aG t)[i]?).toList.map _=_;rw[hp];rfl
   have q:decide (((i+1:Nat):Int)>0)=true:=Zo (by omega);have x1:aH (.lst (aw (aG t))) (.int (((i+1:Nat):Int)-1))= .ok (.int ((aG t)[i]:Int)):=by
    rw[show ((i+1:Nat):Int)-1=(i:Int) by omega];exact ww hp
   refine⟨?_,by rw[hA'];show 1≤1;decide⟩;simp only[aK,q];rw[hA'];exact uV (l:=[]) (d:=vD (v.1,(aG t)[i])) rfl (by simp only[aK,iv0,x1];rfl) (by decide)
 obtain⟨s1,lA⟩:=s1;refine bw _ s1 ?_;refine bw (rV ts O v t i (some (.lst A)) (some (.lst (aw (O.getD v.2 [])))) none) (by simp only[aK,Ey,y4]) ?_;refine bw (rV ts O v t i (some (.lst A)) (some (.lst (aw (O.getD v.2 [])))) (some (.int (j:Nat)))) (by simp only[aK,iv0,ej]) ?_;generalize O.getD v.2 []=row at hj;cases j with
 |zero=>
  have q:decide (((0:Nat):Int)>0)=false:=by decide
  have hB:A8 row (λa=>vD (a,v.2)) 0=[]:=rfl;rw[hB,append_nil];simp only[aK,q]
 |succ j=>
  have hj1:j+1<row.length:=(fR hj).1;have hp:row[j]?=some row[j]:=gd (by omega);have q:decide (((j+1:Nat):Int)>0)=true:=Zo (by omega);have x1:aH (.lst (aw row)) (.int (((j+1:Nat):Int)-1))= .ok (.int (row[j]:Int)):=by
   rw[show ((j+1:Nat):Int)-1=(j:Int) by omega];exact ww hp
  have hB:A8 row (λa=>vD (a,v.2)) (j+1)=[vD (row[j],v.2)]:=by
   show (row[j]?).toList.map _=_;rw[hp];rfl
  rw[hB];have ap:m6 5 (bz bq (cA (pC (ae (ac 6) (ae (ac 7) (kI 1) fN) aH) (pC (ae (ac 2) (kI 1) aH) pN)))) (rV ts O v t i (some (.lst A)) (some (.lst (aw row))) (some (.int ((j+1:Nat):Int))))= .nx (rV ts O v t i (some (.lst (A ++ [vD (row[j],v.2)]))) (some (.lst (aw row))) (some (.int ((j+1:Nat):Int)))):=
   uV (l:=A) (d:=vD (row[j],v.2)) rfl (by simp only[aK,Ey,x1];rfl) (by omega)
  simp only[aK,q,ap]
def sw {f:Vt→Int}{vs:List Vt}{v:Vt}{n:Int}(nd:vs.Nodup)(h:v∈vs):kP (vs.map fj) (vs.map λx=>D.int (f x)) (fj v) (.int n)=dE vs (λx=>if x=v then n else f x):=by
 obtain⟨m,e,hm⟩:=qq h;unfold kP;rw[e];dsimp only;unfold dE;congr 1;apply ext_getElem?;intro i;rw[getElem?_set,length_map];have hml:m<vs.length:=(fR hm).1;by_cases hi:m=i
 ·subst hi;rw[Yo rfl,Yo hml,getElem?_map,hm];show some (D.int n)=some (D.int (if v=v then n else f v))
  rw[Yo rfl]
 ·rw[Ym hi,getElem?_map,getElem?_map];cases q:vs[i]? with
  |none=>rfl
  |some x=>
   have hx:x≠v:=λz=>hi ((List.getElem?_inj hml nd).mp (hm.trans (by rw[←z];exact q.symm)));show some (D.int (f x))=some (D.int (if x=v then n else f x))
   rw[Ym hx]
end
set_option maxHeartbeats 4000000
def wj {asg:Za}{F:Zl}{x:D}{xs:Zy}{ρ ρ1:DS}{d:D}(h:asg x ρ=some ρ1)(h2:F ρ1= .rt d):cq asg F (x::xs) ρ= .rt d:=by
 unfold cq;rw[h];dsimp only;rw[h2]
def iH {asg:Za}{F:Zl}{x:D}{xs:Zy}{ρ ρ1 ρ2:DS}(h:asg x ρ=some ρ1)(h2:F ρ1= .nx ρ2):cq asg F (x::xs) ρ=cq asg F xs ρ2:=by
 conv=>lhs;unfold cq
 rw[h];dsimp only;rw[h2]
def lI {α:Type}{l:List α}:((List.range l.length).map λ(i:Nat)=>D.int (i:Int))=l.zipIdx.map λq:α×Nat=>D.int (q.2:Int):=by
 apply List.ext_getElem
 ·simp
 ·intro i h1 h2;simp
section
variable{K:Z8}{CL:Z2}{Y:Ad}{rs:Z1}{g:Int}{ts:List Tr}{O:List (List Nat)}
def wy {vs:List Vt}{f:Vt→Int}:cT [dE vs f]= .ok (.lst (vs.map vD)):=by
 show Res.ok (D.lst ((vs.map fj).map pQ))=_;rw[map_map];rfl
def mI {f h:Vt→Int}(e:∀v∈ah ts,f v=h v):cF ts f=cF ts h:=by
 unfold cF;refine map_congr_left λq hq=>map_congr_left λs hs=>e _ (mem_visits.mpr ⟨q.1,mem_zip.mp hq,hs⟩)
def pD {p:Pl}:bW 2 (.lst (p.map aX))=true:=by
 unfold bW;rw[all_eq_true];intro d hd;obtain⟨r,_,rfl⟩:=mem_map.mp hd;exact AB
abbrev F0 (K:Z8)(CL:Z2)(Y:Ad):DS→Res D:=aU (sL (bb (pC (ae (ac 2) (ac 0) aH) pN) (aI K CL Y))) [none,some 1,some 0] (aS 0) yes (ae (ac 1) (cA (pC (ac 2) (pC (ac 0) pN))) aT)
def DF (C:Ctx rs g ts){f:Vt→Int}{q:Q}(hq:q∈ts.zipIdx):F0 K CL Y [some (.int (q.2:Int)),some (dE (ah ts) f),some (.lst (ts.map bE))]= .ok (aX ((aG q.1).map λs=>f (q.2,s))):=by
 have hn5:=C.ln.few;have hg:=C.good hq;have y2:aH (.lst (ts.map bE)) (.int (q.2:Int))= .ok (bE q.1):=cr (mem_zip.mp hq);have y3:=fS (K:=K) (CL:=CL) (Y:=Y) hg (show rs.length≤1000 by omega);have hw:=dU hg;show aU _ _ _ _ _ _=_;rw[bB (xs:=aG q.1) (c:=λ(s:Nat)=>D.int (s:Int)) (g:=λs=>D.int (f (q.2,s))) (by simp only[aK,y2,y3];rfl) (by omega) (λs hs=>⟨_,rfl,?_⟩)]
 ·unfold aX;rw[map_map];rfl
 ·have gx:aT (dE (ah ts) f) (vD (q.2,s))= .ok (.int (f (q.2,s))):=jn (mem_visits.mpr ⟨q.1,mem_zip.mp hq,hs⟩);show ae (ac 1) (cA (pC (ac 2) (pC (ac 0) pN))) aT [some (.int (s:Int)),some (dE (ah ts) f),some (.int (q.2:Int))]=_;have gx':aT (dE (ah ts) f) (.tup [.int (q.2:Int),.int (s:Int)])= .ok (.int (f (q.2,s))):=gx;simp only[aK,gx']
abbrev rL (rs:Z1)(g:Int)(ts:List Tr)(O:Zs)(f:Vt→Int)(o5 o6 o7:Y8)(b:Bool)(o9 o10 o11:Y8):DS:=[some (.lst (rs.map D.int)),some (.int g),some (.lst (ts.map bE)),some (aJ O),some (dE (ah ts) f),o5,o6,o7,some (.bl b),o9,o10,o11]
abbrev Hy:DS→Out:=av (aF 11 (gN 0 (ae (ae (ac 4) (ac 10) aT) (ae (ac 0) (ae (ac 10) (kI 1) aH) aH) aW))) (av (dX (cG (ae (ae (ac 10) (kI 0) aH) (ae (ac 9) (kI 0) aH) lX)) (aF 11 (bz aC (ae (ac 11) (ac 1) aW))) nxt) (dX (cG (ae (ae (ac 4) (ac 9) aT) (ac 11) zG)) (av (cH 4 (ac 9) (bz aC (ac 11))) (aF 8 (bz aC (kB true)))) nxt))
def kU (C:Ctx rs g ts){v:Vt}(hv:v∈ah ts):v.2<rs.length:=by
 obtain⟨t,ht,hs⟩:=mem_visits.mp hv;exact fP (C.tr t (mem_of_getElem? ht)) _ hs
def HI (C:Ctx rs g ts)(H:Ords rs.length ts O){v:Vt}(hv:v∈ah ts){u:Vt×Int}(hu:u∈dq rs g ts O v){f:Vt→Int}{o5 o6 o7 o11:Y8}{b:Bool} :
  Hy (rL rs g ts O f o5 o6 o7 b (some (vD v)) (some (vD u.1)) o11)= .nx (rL rs g ts O (gw f (v,u.1,u.2)) o5 o6 o7 (b||decide (f v<f u.1+u.2)) (some (vD v)) (some (vD u.1)) (some (.int (f u.1+u.2)))):=by
 have hu1:=(mJ C H v hv u hu).2;have gu:aT (dE (ah ts) f) (vD u.1)= .ok (.int (f u.1)):=jn hu1;have gv:aT (dE (ah ts) f) (vD v)= .ok (.int (f v)):=jn hv;have ru:=mz (kU C hu1);have s1:aF 11 (gN 0 (ae (ae (ac 4) (ac 10) aT) (ae (ac 0) (ae (ac 10) (kI 1) aH) aH) aW)) (rL rs g ts O f o5 o6 o7 b (some (vD v)) (some (vD u.1)) o11)= .nx (rL rs g ts O f o5 o6 o7 b (some (vD v)) (some (vD u.1)) (some (.int (f u.1+rs.getD u.1.2 0)))):=by simp only[aK,gu,Ey,ru,f_]
 have s2:dX (cG (ae (ae (ac 10) (kI 0) aH) (ae (ac 9) (kI 0) aH) lX)) (aF 11 (bz aC (ae (ac 11) (ac 1) aW))) nxt (rL rs g ts O f o5 o6 o7 b (some (vD v)) (some (vD u.1)) (some (.int (f u.1+rs.getD u.1.2 0))))= .nx (rL rs g ts O f o5 o6 o7 b (some (vD v)) (some (vD u.1)) (some (.int (f u.1+u.2)))):=by
  have hw:=A4 C H hv hu;by_cases h:u.1.1=v.1
  ·rw[Yo h]at hw;have q:((u.1.1:Int)==(v.1:Int))=true:=by rw[h];exact beq_self_eq_true _
   simp only[aK,iv0,q];rw[hw]
  ·rw[Ym h]at hw;have q:((u.1.1:Int)==(v.1:Int))=false:=by rw[beq_eq_false_iff_ne];omega
   simp only[aK,iv0,q];rw[hw,Int.add_assoc]
 have s3:dX (cG (ae (ae (ac 4) (ac 9) aT) (ac 11) zG)) (av (cH 4 (ac 9) (bz aC (ac 11))) (aF 8 (bz aC (kB true)))) nxt (rL rs g ts O f o5 o6 o7 b (some (vD v)) (some (vD u.1)) (some (.int (f u.1+u.2))))= .nx (rL rs g ts O (gw f (v,u.1,u.2)) o5 o6 o7 (b||decide (f v<f u.1+u.2)) (some (vD v)) (some (vD u.1)) (some (.int (f u.1+u.2)))):=by
  by_cases h:f v<f u.1+u.2
  ·have e1:gw f (v,u.1,u.2)=λx=>if x=v then f u.1+u.2 else f x:=by funext x;unfold gw;dsimp only;rw[Yo h]
   have ds:cH 4 (ac 9) (bz aC (ac 11)) (rL rs g ts O f o5 o6 o7 b (some (vD v)) (some (vD u.1)) (some (.int (f u.1+u.2))))= .nx (rL rs g ts O (gw f (v,u.1,u.2)) o5 o6 o7 b (some (vD v)) (some (vD u.1)) (some (.int (f u.1+u.2)))):=by
    have hvl:=fO C;refine(fG (ks:=(ah ts).map fj) (l:=(ah ts).map λx=>.int (f x)) (k:=fj v) (d:=.int (f u.1+u.2)) (kd:=[.int (v.1:Int),.int (v.2:Int)]) rfl (by simp only[aK]) (by simp only[aK];rfl) fk (by rw[length_map];omega)).trans ?_;rw[sw bt hv,←e1];rfl
   simp only[aK,gv,Zo h,ds,Bool.or_true]
  ·have e1:gw f (v,u.1,u.2)=f:=by funext x;unfold gw;dsimp only;rw[Ym h]
   rw[e1];simp only[aK,gv,Zj h,Bool.or_false]
 show av _ (av _ _) _=_;rw[bJ,s1,bf,bJ,s2,bf,s3]
theorem vb {c:Nat}{B:Zl}{st:(Vt→Int)→Bool→Option D→Option D→DS}{ed:Vt×Int→Eg}(ha:∀h b o p d,aS c d (st h b o p)=some (st h b (some d) p)):∀(us:List (Vt×Int)),(∀u∈us,∀h b p,∃q,B (st h b (some (vD u.1)) p)= .nx (st (gw h (ed u)) (b||decide (h (ed u).1<h (ed u).2.1+(ed u).2.2)) (some (vD u.1)) q))→∀h b o p,∃o' p',cq (aS c) B (us.map λu=>vD u.1) (st h b o p)= .nx (st (rx (us.map ed) h) (b||tR (us.map ed) h) o' p')
 | [],_,h,b,o,p=>⟨o,p,by show Out.nx _=_;rw[show tR ([].map ed) h=false from rfl,Bool.or_false];rfl⟩
 |u::us,k,h,b,o,p=>by
  obtain⟨q,l1⟩:=k u (mem_cons_self ..) h b p;obtain⟨o',p',e⟩:=vb ha us (λd hd=>k d (dk hd)) (gw h (ed u)) (b||decide (h (ed u).1<h (ed u).2.1+(ed u).2.2)) (some (vD u.1)) q;refine⟨o',p',(iH (ha h b o p (vD u.1)) l1).trans ?_⟩;rw[e,Bool.or_assoc];rfl
theorem rZ {c:Nat}{B:Zl}{W:Vt→List (Vt×Int)}{st:(Vt→Int)→Bool→Option D→Option D→Option D→DS}{ed:Vt→Vt×Int→Eg}(ha:∀h b o p q d,aS c d (st h b o p q)=some (st h b (some d) p q)):∀(xs:List Vt),(∀v∈xs,∀h b p q,∃p' q',B (st h b (some (vD v)) p q)= .nx (st (rx ((W v).map (ed v)) h) (b||tR ((W v).map (ed v)) h) (some (vD v)) p' q'))→∀h b o p q,∃o' p' q',cq (aS c) B (xs.map vD) (st h b o p q)= .nx (st (rx (xs.flatMap λv=>(W v).map (ed v)) h) (b||tR (xs.flatMap λv=>(W v).map (ed v)) h) o' p' q')
 | [],_,h,b,o,p,q=>⟨o,p,q,by show Out.nx _=_;rw[show tR ([].flatMap λv=>(W v).map (ed v)) h=false from rfl,Bool.or_false];rfl⟩
 |v::xs,k,h,b,o,p,q=>by
  obtain⟨p1,q1,l1⟩:=k v (mem_cons_self ..) h b p q;obtain⟨o',p',q',e⟩:=rZ ha xs (λd hd=>k d (dk hd)) (rx ((W v).map (ed v)) h) (b||tR ((W v).map (ed v)) h) (some (vD v)) p1 q1;refine⟨o',p',q',(iH (ha h b o p q (vD v)) l1).trans ?_⟩;rw[e,Bool.or_assoc,←AR,←mB];rfl
def GA (C:Ctx rs g ts)(H:Ords rs.length ts O){v:Vt}(hv:v∈ah ts){f:Vt→Int}{o5 o6 o7:Y8}{b:Bool}{o10 o11:Y8}:∃p10 p11,
  cq (aS 10) Hy ((dq rs g ts O v).map λu=>vD u.1) (rL rs g ts O f o5 o6 o7 b (some (vD v)) o10 o11)= .nx (rL rs g ts O (rx ((dq rs g ts O v).map λu=>(v,u.1,u.2)) f) o5 o6 o7 (b||tR ((dq rs g ts O v).map λu=>(v,u.1,u.2)) f) (some (vD v)) p10 p11):=
 vb (st:=λh b o10 o11=>rL rs g ts O h o5 o6 o7 b (some (vD v)) o10 o11) (ed:=λu=>(v,u.1,u.2)) (λ_ _ _ _ _=>rfl) _ (λu hu h b o11=>⟨_,HI C H hv hu⟩) f b o10 o11
abbrev Hz (K:Z8)(CL:Z2)(Y:Ad):DS→Out:=b9 (nE aC (sL (bb (pC (ac 2) (pC (ac 3) (pC (ac 9) pN))) (br K CL Y)))) (aS 10) Hy
def EH (C:Ctx rs g ts)(H:Ords rs.length ts O){f:Vt→Int}{b:Bool}{o5 o6 o7 o9 o10 o11:Y8}:∃p9 p10 p11,
  cq (aS 9) (Hz K CL Y) ((ah ts).map vD) (rL rs g ts O f o5 o6 o7 b o9 o10 o11)= .nx (rL rs g ts O (rx (eL (dq rs g ts O) (ah ts)) f) o5 o6 o7 (b||tR (eL (dq rs g ts O) (ah ts)) f) p9 p10 p11):=
 rZ (st:=λh b o9 o10 o11=>rL rs g ts O h o5 o6 o7 b o9 o10 o11) (W:=dq rs g ts O) (ed:=λv u=>(v,u.1,u.2)) (λ_ _ _ _ _ _=>rfl) _ (λv hv h b o10 o11=>by
  have wa:=mP (K:=K) (CL:=CL) (Y:=Y) C H hv;have src:nE aC (sL (bb (pC (ac 2) (pC (ac 3) (pC (ac 9) pN))) (br K CL Y))) (rL rs g ts O h o5 o6 o7 b (some (vD v)) o10 o11)= .ok ((dq rs g ts O v).map λu=>vD u.1):=by simp only[aK,wa]
  show ∃p' q',b9 _ _ _ _=_;rw[cQ,src,aL];exact GA C H hv) f b o9 o10 o11
def wg (C:Ctx rs g ts){f:Vt→Int}{ca cb:Nat}{B R:Zl}{S2:Z5}{x:Res D}{st:D→Option D→Option D→DS}(ha:∀d o p e,aS ca e (st d o p)=some (st d (some e) p))(hb:∀d o p e,aS cb e (st d o p)=some (st d o (some e)))(hs:∀q∈ts.zipIdx,∀d p,S2 (st d (some (.int (q.2:Int))) p)= .ok ((aG q.1).map λ(s:Nat)=>D.int (s:Int)))(hB:∀q∈ts.zipIdx,∀s∈aG q.1,∀vs:List Vt,vs.length≤100→B (st (dE vs f) (some (.int (q.2:Int))) (some (.int (s:Int))))= .nx (st (kP (vs.map fj) (vs.map λv=>.int (f v)) (fj (q.2,s)) (.int (f (q.2,s)))) (some (.int (q.2:Int))) (some (.int (s:Int)))))(fin:∀o p,ee (R (st (dE (ah ts) f) o p))=x):ee ((cq (aS ca) (b9 S2 (aS cb) B) (ts.zipIdx.map λq:Q=>D.int (q.2:Int)) (st (.dct [] []) none none)).then R)=x:=by
 have ht5:=C.few;have hn5:=C.ln.few;have h5:∀q∈ts.zipIdx,(aG q.1).length≤5:=λq hq=>by
  have:=dU (C.good hq);omega
 refine eX (λpre ρ=>∃o p,ρ=st (dE (eY pre) f) o p) ⟨none,none,rfl⟩ (λpre q post n ρ hZ223=>?_) (λρ' hZ224=>?_)
 ·obtain⟨o,p,e⟩:=hZ223;subst e;have hq:q∈ts.zipIdx:=by rw[n];simp
  have hne:∀u∈pre,u.2≠q.2:=λu hu=>by
   have pw:=vQ (l:=ts);rw[n]at pw;exact(List.pairwise_append.mp pw).2.2 u hu q (mem_cons_self ..)
  have hVl:=lT (qs:=pre) λu hu=>h5 u (by rw[n];exact mem_append_left _ hu);have hpl:=congrArg List.length n;rw[length_zipIdx,length_append]at hpl;refine⟨_,ha _ _ _ _,?_⟩;rw[cQ,hs q hq,aL];refine lC (λ(w:Zz) ρ=>∃p,ρ=st (dE (eY pre ++ w.map λs=>(q.2,s)) f) (some (.int (q.2:Int))) p) ⟨p,by rw[map_nil,append_nil]⟩ (λw s post2 z ρ hZ225=>?_) (λρ' hZ226=>?_)
  ·obtain⟨p,e⟩:=hZ225;subst e;have nv:(q.2,s)∉eY pre ++ w.map λs=>(q.2,s):=λhm=>by
    rcases mem_append.mp hm with h|h
    ·obtain⟨u,hu,e1,_⟩:=visQ_mem.mp h;exact hne u hu e1
    ·obtain⟨y,hy,e1⟩:=mem_map.mp h;have nd:=iX (t:=q.1);rw[z]at nd;exact(nodup_append.mp nd).2.2 y hy s (mem_cons_self ..) (Prod.mk.inj e1).2
   have hl2:=congrArg List.length z;have hw5:=h5 q hq;rw[length_append]at hl2;refine⟨_,hb _ _ _ _,_,hB q hq s (by rw[z];simp) _ (by rw[length_append,length_map];omega),some (.int (s:Int)),?_⟩;have em:eY pre ++ (w ++ [s]).map (λs=>(q.2,s))=(eY pre ++ w.map λs=>(q.2,s)) ++ [(q.2,s)]:=by rw[map_append,←append_assoc];rfl
   rw[lE (f:=λv=>D.int (f v)) nv,em];rfl
  ·obtain⟨p,e⟩:=hZ226;subst e;refine⟨some (.int (q.2:Int)),p,?_⟩;have:eY (pre ++ [q])=eY pre ++ (aG q.1).map λs=>(q.2,s):=by unfold eY;rw[flatMap_append];simp
   rw[this]
 ·obtain⟨o,p,e⟩:=hZ224;subst e;exact fin o p
end
set_option maxHeartbeats 4000000
section
variable{K:Z8}{CL:Z2}{Y:Ad}{rs:Z1}{g:Int}{ts:List Tr}{O:List (List Nat)}
abbrev HA (K:Z8)(CL:Z2)(Y:Ad):DS→Res D:=gN 2 (aU (sR1 (pC (c1 (ac 2) bj) pN)) [none,some 4,some 2] (aS 0) yes (F0 K CL Y))
abbrev FZ (K:Z8)(CL:Z2)(Y:Ad):DS→Out:=av (aF 8 (bz aC (kB false))) (av (b9 (sL (gN 1 (bb (u9 (ac 4)) cT))) (aS 9) (Hz K CL Y)) (dX (jB (cG (ac 8))) (bR (HA K CL Y)) nxt))
def CO (C:Ctx rs g ts){f:Vt→Int}{o5 o6 o7 o9 o10 o11:Y8}{b:Bool}:HA K CL Y (rL rs g ts O f o5 o6 o7 b o9 o10 o11)= .ok (.lst ((cF ts f).map aX)):=by
 have ht5:=C.few;have er:lF [.int (ts.length:Int)]= .ok (ts.zipIdx.map λq:Q=>D.int (q.2:Int)):=by rw[cc (by omega),lI]
 have cg:aU (sR1 (pC (c1 (ac 2) bj) pN)) [none,some 4,some 2] (aS 0) yes (F0 K CL Y) (rL rs g ts O f o5 o6 o7 b o9 o10 o11)= .ok (.lst (ts.zipIdx.map λq:Q=>aX ((aG q.1).map λs=>f (q.2,s)))):=
  bB (xs:=ts.zipIdx) (c:=λq:Q=>D.int (q.2:Int)) (g:=λq:Q=>aX ((aG q.1).map λs=>f (q.2,s))) (by simp only[aK,er]) (by rw[length_zipIdx];omega) (λq hq=>⟨_,rfl,DF (K:=K) (CL:=CL) (Y:=Y) C hq⟩)
 have e:ts.zipIdx.map (λq:Q=>aX ((aG q.1).map λs=>f (q.2,s)))=(cF ts f).map aX:=by unfold cF;rw[map_map];rfl
 rw[e]at cg;show gN 2 _ _=_;rw[yW,cg,az,Yo pD]
abbrev rN (rs:Z1)(g:Int)(ts:List Tr)(O:Zs)(f:Vt→Int)(o5 o6 o7 o8 o9 o10 o11:Y8):DS:=[some (.lst (rs.map D.int)),some (.int g),some (.lst (ts.map bE)),some (aJ O),some (dE (ah ts) f),o5,o6,o7,o8,o9,o10,o11]
def u_ (C:Ctx rs g ts)(H:Ords rs.length ts O){f:Vt→Int}{o5 o6 o7 o9 o10 o11 o8:Y8} :(tR (eL (dq rs g ts O) (ah ts)) f=false∧FZ K CL Y (rN rs g ts O f o5 o6 o7 o8 o9 o10 o11)= .rt (.lst ((cF ts f).map aX)))∨(tR (eL (dq rs g ts O) (ah ts)) f=true∧∃p9 p10 p11,FZ K CL Y (rN rs g ts O f o5 o6 o7 o8 o9 o10 o11)= .nx (rL rs g ts O (rx (eL (dq rs g ts O) (ah ts)) f) o5 o6 o7 true p9 p10 p11)):=by
 have s1:aF 8 (bz aC (kB false)) (rN rs g ts O f o5 o6 o7 o8 o9 o10 o11)= .nx (rL rs g ts O f o5 o6 o7 false o9 o10 o11):=by simp only[aK]
 have src:sL (gN 1 (bb (u9 (ac 4)) cT)) (rL rs g ts O f o5 o6 o7 false o9 o10 o11)= .ok ((ah ts).map vD):=by
  simp only[aK,L2.u9,wy,rX]
 obtain⟨p9,p10,p11,e⟩:=EH (K:=K) (CL:=CL) (Y:=Y) C H (f:=f) (b:=false) (o5:=o5) (o6:=o6) (o7:=o7) (o9:=o9) (o10:=o10) (o11:=o11);have s2:b9 (sL (gN 1 (bb (u9 (ac 4)) cT))) (aS 9) (Hz K CL Y) (rL rs g ts O f o5 o6 o7 false o9 o10 o11)= .nx (rL rs g ts O (rx (eL (dq rs g ts O) (ah ts)) f) o5 o6 o7 (false||tR (eL (dq rs g ts O) (ah ts)) f) p9 p10 p11):=by
  rw[cQ,src,aL];exact e
 cases q:tR (eL (dq rs g ts O) (ah ts)) f with
 |false=>
  refine .inl ⟨rfl,?_⟩;have er:=(jJ q).1;rw[q,er]at s2;show av _ (av _ _) _=_;rw[bJ,s1,bf,bJ,s2,bf];have rt:=CO (K:=K) (CL:=CL) (Y:=Y) (O:=O) C (f:=f) (o5:=o5) (o6:=o6) (o7:=o7) (o9:=p9) (o10:=p10) (o11:=p11) (b:=false);generalize HA K CL Y=B at rt ⊢;simp only[aK,rt]
 |true=>
  refine .inr ⟨rfl,p9,p10,p11,?_⟩;rw[q]at s2;show av _ (av _ _) _=_;rw[bJ,s1,bf,bJ,s2,bf];simp only[aK]
def HJ {E:Vt→Int}{t:List Vt}(C:Ctx rs g ts)(H:Ords rs.length ts O)(X:Fix (ah ts) (eL (dq rs g ts O) (ah ts)) (gq ts) E t):∀(n:Nat) (ds:Zy) (f:Vt→Int) (j:Nat),ds.length=n+1→Up (ah ts) (gq ts) E t j f→t.length≤j+n→∀(o5 o6 o7 o8 o9 o10 o11:Option D),
  cq (aS 7) (FZ K CL Y) ds (rN rs g ts O f o5 o6 o7 o8 o9 o10 o11)= .rt (.lst ((cF ts E).map aX)):=by
 intro n
 induction n with
 |zero=>
  intro ds f j hd U hj o5 o6 o7 o8 o9 o10 o11;obtain⟨d,r,rfl⟩:∃d r,ds=d::r:=by cases ds with|nil=>simp at hd|cons d r=>exact⟨d,r,rfl⟩
  have ft:=X.full U (by omega)
  rcases u_ (K:=K) (CL:=CL) (Y:=Y) C H (f:=f) (o5:=o5) (o6:=o6) (o7:=some d) (o8:=o8) (o9:=o9) (o10:=o10) (o11:=o11) with ⟨_,e⟩|⟨z,_⟩
  ·rw[mI (X.done U.lo U.hi ft)]at e;exact wj (asg:=aS 7) rfl e
  ·rw[ft]at z;cases z
 |succ n ih=>
  intro ds f j hd U hj o5 o6 o7 o8 o9 o10 o11;obtain⟨d,r,rfl⟩:∃d r,ds=d::r:=by cases ds with|nil=>simp at hd|cons d r=>exact⟨d,r,rfl⟩
  rcases u_ (K:=K) (CL:=CL) (Y:=Y) C H (f:=f) (o5:=o5) (o6:=o6) (o7:=some d) (o8:=o8) (o9:=o9) (o10:=o10) (o11:=o11) with ⟨ft,e⟩|⟨z,p9,p10,p11,e⟩
  ·rw[mI (X.done U.lo U.hi ft)]at e;exact wj (asg:=aS 7) rfl e
  ·refine(iH (asg:=aS 7) rfl e).trans ?_;exact ih r _ (j+1) (by simpa using hd) (X.step U) (by omega) _ _ _ _ _ _ _
theorem wz (C:Ctx rs g ts)(H:Ords rs.length ts O)(no:∀f,(∀v∈ah ts,gq ts v≤f v)→tR (eL (dq rs g ts O) (ah ts)) f=true):∀(ds:Zy) (f:Vt→Int),(∀v∈ah ts,gq ts v≤f v)→∀(o5 o6 o7 o8 o9 o10 o11:Option D),
  ∃ρ',cq (aS 7) (FZ K CL Y) ds (rN rs g ts O f o5 o6 o7 o8 o9 o10 o11)= .nx ρ'
 | [],f,_,o5,o6,o7,o8,o9,o10,o11=>⟨_,rfl⟩
 |d::ds,f,hf,o5,o6,o7,o8,o9,o10,o11=>by
  rcases u_ (K:=K) (CL:=CL) (Y:=Y) C H (f:=f) (o5:=o5) (o6:=o6) (o7:=some d) (o8:=o8) (o9:=o9) (o10:=o10) (o11:=o11) with ⟨ft,e⟩|⟨z,p9,p10,p11,e⟩
  ·rw[no f hf]at ft;cases ft
  ·obtain⟨ρ',e'⟩:=wz C H no ds (rx (eL (dq rs g ts O) (ah ts)) f) (λv hv=>Int.le_trans (hf v hv) pk) o5 o6 (some d) (some (.bl true)) p9 p10 p11;exact⟨ρ',(iH (asg:=aS 7) rfl e).trans e'⟩
def tQ (C:Ctx rs g ts)(H:Ords rs.length ts O) :((aP rs g ts O).length<(ah ts).length∧b8 K CL Y [.lst (rs.map D.int),.int g,.lst (ts.map bE),aJ O]= .ok .non)∨(¬(aP rs g ts O).length<(ah ts).length∧b8 K CL Y [.lst (rs.map D.int),.int g,.lst (ts.map bE),aJ O]= .ok (.lst ((cF ts (iL (dq rs g ts O) (gq ts) (aP rs g ts O))).map aX))):=by
 have hn5:=C.ln.few;have ht5:=C.few;have e0:aM fD [.lst (rs.map D.int),.int g,.lst (ts.map bE),aJ O]=[some (.lst (rs.map D.int)),some (.int g),some (.lst (ts.map bE)),some (aJ O),none,none,none,none,none,none,none,none]:=rfl;have fin:∀(x:Res D),(∀o5 o6,ee (av (b9 (sR1 (pC (ae (c1 (ac 4) rY) (kI 1) aW) pN)) (aS 7) (FZ K CL Y)) (bR (bz aC (gN 1 (gN 0 kN)))) (rN rs g ts O (gq ts) o5 o6 none none none none none))=x)→b8 K CL Y [.lst (rs.map D.int),.int g,.lst (ts.map bE),aJ O]=x:=by
  intro x hx;unfold b8;refine(bN rfl).trans ?_;rw[e0];unfold fv;refine bw [some (.lst (rs.map D.int)),some (.int g),some (.lst (ts.map bE)),some (aJ O),some (.dct [] []),none,none,none,none,none,none,none] (by simp only[aK]) ?_;rw[bJ];have er:lF [.int (ts.length:Int)]= .ok (ts.zipIdx.map λq:Q=>D.int (q.2:Int)):=by rw[cc (by omega),lI]
  have w:sR1 (pC (c1 (ac 2) bj) pN) [some (.lst (rs.map D.int)),some (.int g),some (.lst (ts.map bE)),some (aJ O),some (.dct [] []),none,none,none,none,none,none,none]= .ok (ts.zipIdx.map λq:Q=>D.int (q.2:Int)):=by simp only[aK,er]
  rw[cQ,w,aL];refine wg (f:=gq ts) C (st:=λd o p=>[some (.lst (rs.map D.int)),some (.int g),some (.lst (ts.map bE)),some (aJ O),some d,o,p,none,none,none,none,none]) (λ_ _ _ _=>rfl) (λ_ _ _ _=>rfl) (λq hq d p=>?_) (λq hq s hs vs hv=>?_) hx
  ·have y2:aH (.lst (ts.map bE)) (.int (q.2:Int))= .ok (bE q.1):=cr (mem_zip.mp hq);have y3:=fS (K:=K) (CL:=CL) (Y:=Y) (C.good hq) (show rs.length≤1000 by omega);simp only[aK,y2,y3];rfl
  ·have y2:aH (.lst (ts.map bE)) (.int (q.2:Int))= .ok (bE q.1):=cr (mem_zip.mp hq);have y5:aH (bE q.1) (.int 2)= .ok (.int (gq ts (q.2,s))):=by
    have:gq ts (q.2,s)=q.1.2.2:=by unfold gq;dsimp only;rw[mem_zip.mp hq]
    rw[this];exact wc
   exact fG (kd:=[.int (q.2:Int),.int (s:Int)]) rfl (by simp only[aK,y2,y5]) (by simp only[aK]) (fk (v:=(q.2,s))) (by rw[length_map];omega)
 obtain⟨T,hf⟩:=gG (O:=O) C;have hvl:=fO C;have hlk:rY [dE (ah ts) (gq ts)]= .ok (.int ((ah ts).length:Int)):=by
  show Res.ok (D.int (((ah ts).map fj).length:Int))=_;rw[length_map]
 have er:lF [.int (((ah ts).length:Int)+1)]= .ok ((List.range ((ah ts).length+1)).map λ(i:Nat)=>D.int (i:Int)):=by
  rw[show ((ah ts).length:Int)+1=(((ah ts).length+1:Nat):Int) by omega];exact cc (by omega)
 have w:∀o5 o6,sR1 (pC (ae (c1 (ac 4) rY) (kI 1) aW) pN) (rN rs g ts O (gq ts) o5 o6 none none none none none)= .ok ((List.range ((ah ts).length+1)).map λ(i:Nat)=>D.int (i:Int)):=λo5 o6=>by simp only[aK,hlk,er]
 by_cases E:(aP rs g ts O).length<(ah ts).length
 ·refine .inl ⟨E,fin _ λo5 o6=>?_⟩;have no:∀f,(∀v∈ah ts,gq ts v≤f v)→tR (eL (dq rs g ts O) (ah ts)) f=true:=λf hr=>by
   cases q:tR (eL (dq rs g ts O) (ah ts)) f with
   |true=>rfl
   |false=>
    exfalso;have S:Sol (ah ts) (dq rs g ts O) (gq ts) f:=⟨hr,λv hv u hu=>(jJ q).2 (v,u.1,u.2) (mem_eL.mpr ⟨hv,hu⟩)⟩;have full:=tJ S (λv hv=>by
     obtain⟨t,ht,_⟩:=mem_visits.mp hv;unfold gq;rw[ht];exact(C.tr t (mem_of_getElem? ht)).r.1) (mJ C H) hf
    have:=bX bt full;omega
  obtain⟨ρ',e⟩:=wz (K:=K) (CL:=CL) (Y:=Y) C H no ((List.range ((ah ts).length+1)).map λ(i:Nat)=>D.int (i:Int)) (gq ts) (λ_ _=>Int.le_refl _) o5 o6 none none none none none;rw[bJ,cQ,w,aL,e,bf];rfl
 ·refine .inr ⟨E,fin _ λo5 o6=>?_⟩;have full:=nD bt E T.nd T.sub;have X:=xF (ready:=gq ts) T full λv hv u hu=>(mJ C H v hv u hu).2;have tl:(aP rs g ts O).length≤(ah ts).length:=bX T.nd T.sub;have e:=HJ (K:=K) (CL:=CL) (Y:=Y) C H X (ah ts).length ((List.range ((ah ts).length+1)).map λ(i:Nat)=>D.int (i:Int)) (gq ts) 0 (by rw[length_map,length_range]) X.zero (by omega) o5 o6 none none none none none;rw[bJ,cQ,w,aL,e];rfl
end
set_option maxHeartbeats 4000000
section
variable{K:Z8}{CL:Z2}{Y:Ad}{rs:Z1}{g lim:Int}{ts:List Tr}{O:List (List Nat)}
def ng (h:Vt→Int)(v:Vt):Int:= - h v
def h0 (rs:Z1)(lim:Int)(v:Vt):Int:=rs.getD v.2 0-lim
abbrev rT (rs:Z1)(g:Int)(ts:List Tr)(O:Zs)(lim:Int)(h:Vt→Int)(o6 o7:Y8)(b:Bool)(o9 o10 o11:Y8):DS:=[some (.lst (rs.map D.int)),some (.int g),some (.lst (ts.map bE)),some (aJ O),some (.int lim),some (dE (ah ts) (ng h)),o6,o7,some (.bl b),o9,o10,o11]
abbrev Ip:DS→Out:=av (aF 11 (gN 0 (ae (ae (ac 5) (ac 9) aT) (ae (ac 0) (ae (ac 10) (kI 1) aH) aH) fN))) (av (dX (cG (ae (ae (ac 10) (kI 0) aH) (ae (ac 9) (kI 0) aH) lX)) (aF 11 (bz aA (ae (ac 11) (ac 1) fN))) nxt) (dX (cG (ae (ae (ac 5) (ac 10) aT) (ac 11) yx)) (av (cH 5 (ac 10) (bz aA (ac 11))) (aF 8 (bz aA (kB true)))) nxt))
def HK (C:Ctx rs g ts)(H:Ords rs.length ts O){v:Vt}(hv:v∈ah ts){u:Vt×Int}(hu:u∈dq rs g ts O v){h:Vt→Int}{o6 o7 o11:Y8}{b:Bool} :
  Ip (rT rs g ts O lim h o6 o7 b (some (vD v)) (some (vD u.1)) o11)= .nx (rT rs g ts O lim (gw h (u.1,v,u.2)) o6 o7 (b||decide (h u.1<h v+u.2)) (some (vD v)) (some (vD u.1)) (some (.int (ng h v-u.2)))):=by
 have hu1:=(mJ C H v hv u hu).2;have gu:aT (dE (ah ts) (ng h)) (vD u.1)= .ok (.int (ng h u.1)):=jn hu1;have gv:aT (dE (ah ts) (ng h)) (vD v)= .ok (.int (ng h v)):=jn hv;have ru:=mz (kU C hu1);have s1:aF 11 (gN 0 (ae (ae (ac 5) (ac 9) aT) (ae (ac 0) (ae (ac 10) (kI 1) aH) aH) fN)) (rT rs g ts O lim h o6 o7 b (some (vD v)) (some (vD u.1)) o11)= .nx (rT rs g ts O lim h o6 o7 b (some (vD v)) (some (vD u.1)) (some (.int (ng h v-rs.getD u.1.2 0)))):=by simp only[aK,gv,Ey,ru,f_]
 have s2:dX (cG (ae (ae (ac 10) (kI 0) aH) (ae (ac 9) (kI 0) aH) lX)) (aF 11 (bz aA (ae (ac 11) (ac 1) fN))) nxt (rT rs g ts O lim h o6 o7 b (some (vD v)) (some (vD u.1)) (some (.int (ng h v-rs.getD u.1.2 0))))= .nx (rT rs g ts O lim h o6 o7 b (some (vD v)) (some (vD u.1)) (some (.int (ng h v-u.2)))):=by
  have hw:=A4 C H hv hu;by_cases e:u.1.1=v.1
  ·rw[Yo e]at hw;have q:((u.1.1:Int)==(v.1:Int))=true:=by rw[e];exact beq_self_eq_true _
   simp only[aK,iv0,q];rw[hw]
  ·rw[Ym e]at hw;have q:((u.1.1:Int)==(v.1:Int))=false:=by rw[beq_eq_false_iff_ne];omega
   simp only[aK,iv0,q];rw[hw,show ng h v-(rs.getD u.1.2 0+g)=ng h v-rs.getD u.1.2 0-g by omega]
 have s3:dX (cG (ae (ae (ac 5) (ac 10) aT) (ac 11) yx)) (av (cH 5 (ac 10) (bz aA (ac 11))) (aF 8 (bz aA (kB true)))) nxt (rT rs g ts O lim h o6 o7 b (some (vD v)) (some (vD u.1)) (some (.int (ng h v-u.2))))= .nx (rT rs g ts O lim (gw h (u.1,v,u.2)) o6 o7 (b||decide (h u.1<h v+u.2)) (some (vD v)) (some (vD u.1)) (some (.int (ng h v-u.2)))):=by
  by_cases e:h u.1<h v+u.2
  ·have e1:ng (gw h (u.1,v,u.2))=λx=>if x=u.1 then ng h v-u.2 else ng h x:=by
    funext x;unfold ng gw;dsimp only;rw[Yo e];split
    ·omega
    ·rfl
   have q:decide (ng h u.1>ng h v-u.2)=true:=Zo (by unfold ng;omega);have ds:cH 5 (ac 10) (bz aA (ac 11)) (rT rs g ts O lim h o6 o7 b (some (vD v)) (some (vD u.1)) (some (.int (ng h v-u.2))))= .nx (rT rs g ts O lim (gw h (u.1,v,u.2)) o6 o7 b (some (vD v)) (some (vD u.1)) (some (.int (ng h v-u.2)))):=by
    have hvl:=fO C;refine(fG (ks:=(ah ts).map fj) (l:=(ah ts).map λx=>.int (ng h x)) (k:=fj u.1) (d:=.int (ng h v-u.2)) (kd:=[.int (u.1.1:Int),.int (u.1.2:Int)]) rfl (by simp only[aK]) (by simp only[aK];rfl) fk (by rw[length_map];omega)).trans ?_;rw[sw bt hu1,←e1];rfl
   simp only[aK,gu,q,ds,Zo e,Bool.or_true]
  ·have e1:gw h (u.1,v,u.2)=h:=by funext x;unfold gw;dsimp only;rw[Ym e]
   have q:decide (ng h u.1>ng h v-u.2)=false:=Zj (by unfold ng;omega);rw[e1];simp only[aK,gu,q,Zj e,Bool.or_false]
 show av _ (av _ _) _=_;rw[bJ,s1,bf,bJ,s2,bf,s3]
abbrev Iq (K:Z8)(CL:Z2)(Y:Ad):DS→Out:=b9 (nE aA (sL (bb (pC (ac 2) (pC (ac 3) (pC (ac 9) pN))) (br K CL Y)))) (aS 10) Ip
def EI (C:Ctx rs g ts)(H:Ords rs.length ts O){h:Vt→Int}{b:Bool}{o6 o7 o9 o10 o11:Y8}:∃p9 p10 p11,
  cq (aS 9) (Iq K CL Y) ((ah ts).map vD) (rT rs g ts O lim h o6 o7 b o9 o10 o11)= .nx (rT rs g ts O lim (rx (eR (dq rs g ts O) (ah ts)) h) o6 o7 (b||tR (eR (dq rs g ts O) (ah ts)) h) p9 p10 p11):=
 rZ (st:=λh b o9 o10 o11=>rT rs g ts O lim h o6 o7 b o9 o10 o11) (W:=dq rs g ts O) (ed:=λv u=>(u.1,v,u.2)) (λ_ _ _ _ _ _=>rfl) _ (λv hv h b o10 o11=>by
  have wa:=mP (K:=K) (CL:=CL) (Y:=Y) C H hv;have src:nE aA (sL (bb (pC (ac 2) (pC (ac 3) (pC (ac 9) pN))) (br K CL Y))) (rT rs g ts O lim h o6 o7 b (some (vD v)) o10 o11)= .ok ((dq rs g ts O v).map λu=>vD u.1):=by simp only[aK,wa]
  show ∃p' q',b9 _ _ _ _=_;rw[cQ,src,aL];exact vb (st:=λh b o10 o11=>rT rs g ts O lim h o6 o7 b (some (vD v)) o10 o11) (ed:=λu=>(u.1,v,u.2)) (λ_ _ _ _ _=>rfl) _ (λu hu h b o11=>⟨_,HK C H hv hu⟩) h b o10 o11) h b o9 o10 o11
abbrev Ir (K:Z8)(CL:Z2)(Y:Ad):DS→Res D:=gN 2 (aU (sR1 (pC (c1 (ac 2) bj) pN)) [none,some 5,some 2] (aS 0) yes (F0 K CL Y))
abbrev Iy (K:Z8)(CL:Z2)(Y:Ad):DS→Out:=av (aF 8 (bz aA (kB false))) (b9 (sL (gN 1 (bb (u9 (ac 5)) cT))) (aS 9) (Iq K CL Y))
def Aw (C:Ctx rs g ts){h:Vt→Int}{o6 o7 o9 o10 o11:Y8}{b:Bool}:Ir K CL Y (rT rs g ts O lim h o6 o7 b o9 o10 o11)= .ok (.lst ((cF ts (ng h)).map aX)):=by
 have ht5:=C.few;have er:lF [.int (ts.length:Int)]= .ok (ts.zipIdx.map λq:Q=>D.int (q.2:Int)):=by rw[cc (by omega),lI]
 have cg:aU (sR1 (pC (c1 (ac 2) bj) pN)) [none,some 5,some 2] (aS 0) yes (F0 K CL Y) (rT rs g ts O lim h o6 o7 b o9 o10 o11)= .ok (.lst (ts.zipIdx.map λq:Q=>aX ((aG q.1).map λs=>ng h (q.2,s)))):=
  bB (xs:=ts.zipIdx) (c:=λq:Q=>D.int (q.2:Int)) (g:=λq:Q=>aX ((aG q.1).map λs=>ng h (q.2,s))) (by simp only[aK,er]) (by rw[length_zipIdx];omega) (λq hq=>⟨_,rfl,DF (K:=K) (CL:=CL) (Y:=Y) C hq⟩)
 have e:ts.zipIdx.map (λq:Q=>aX ((aG q.1).map λs=>ng h (q.2,s)))=(cF ts (ng h)).map aX:=by unfold cF;rw[map_map];rfl
 rw[e]at cg;show gN 2 _ _=_;rw[yW,cg,az,Yo pD]
def EJ (C:Ctx rs g ts)(H:Ords rs.length ts O){h:Vt→Int}{o6 o7 o9 o10 o11:Y8}{b:Bool}:∃p9 p10 p11,Iy K CL Y (rT rs g ts O lim h o6 o7 b o9 o10 o11)= .nx (rT rs g ts O lim (rx (eR (dq rs g ts O) (ah ts)) h) o6 o7 (tR (eR (dq rs g ts O) (ah ts)) h) p9 p10 p11):=by
 have s1:aF 8 (bz aA (kB false)) (rT rs g ts O lim h o6 o7 b o9 o10 o11)= .nx (rT rs g ts O lim h o6 o7 false o9 o10 o11):=by simp only[aK]
 have src:sL (gN 1 (bb (u9 (ac 5)) cT)) (rT rs g ts O lim h o6 o7 false o9 o10 o11)= .ok ((ah ts).map vD):=by
  simp only[aK,L2.u9,wy,rX]
 obtain⟨p9,p10,p11,e⟩:=EI (K:=K) (CL:=CL) (Y:=Y) C H (lim:=lim) (h:=h) (b:=false) (o6:=o6) (o7:=o7) (o9:=o9) (o10:=o10) (o11:=o11);refine⟨p9,p10,p11,?_⟩;show av _ _ _=_;rw[bJ,s1,bf,cQ,src,aL];exact e
def rR (C:Ctx rs g ts)(H:Ords rs.length ts O){F:Vt→Int}{L:List Vt}(X:Fix (ah ts) (eR (dq rs g ts O) (ah ts)) (h0 rs lim) F L)(hL:L.length≤39) :
  cy K CL Y [.lst (rs.map D.int),.int g,.lst (ts.map bE),aJ O,.int lim]= .ok (.lst ((cF ts (ng F)).map aX)):=by
 have hn5:=C.ln.few;have ht5:=C.few;have e0:aM eD [.lst (rs.map D.int),.int g,.lst (ts.map bE),aJ O,.int lim]=[some (.lst (rs.map D.int)),some (.int g),some (.lst (ts.map bE)),some (aJ O),some (.int lim),none,none,none,none,none,none,none]:=rfl;unfold cy;refine(bN rfl).trans ?_;rw[e0];unfold eB;refine bw [some (.lst (rs.map D.int)),some (.int g),some (.lst (ts.map bE)),some (aJ O),some (.int lim),some (.dct [] []),none,none,none,none,none,none] (by simp only[aK]) ?_;rw[bJ];have er:lF [.int (ts.length:Int)]= .ok (ts.zipIdx.map λq:Q=>D.int (q.2:Int)):=by rw[cc (by omega),lI]
 have src:sR1 (pC (c1 (ac 2) bj) pN) [some (.lst (rs.map D.int)),some (.int g),some (.lst (ts.map bE)),some (aJ O),some (.int lim),some (.dct [] []),none,none,none,none,none,none]= .ok (ts.zipIdx.map λq:Q=>D.int (q.2:Int)):=by simp only[aK,er]
 rw[cQ,src,aL];refine wg (f:=ng (h0 rs lim)) C (st:=λd o p=>[some (.lst (rs.map D.int)),some (.int g),some (.lst (ts.map bE)),some (aJ O),some (.int lim),some d,o,p,none,none,none,none]) (λ_ _ _ _=>rfl) (λ_ _ _ _=>rfl) (λq hq d p=>?_) (λq hq s hs vs hv=>?_) (λo6 o7=>?_)
 ·have y2:aH (.lst (ts.map bE)) (.int (q.2:Int))= .ok (bE q.1):=cr (mem_zip.mp hq);have y3:=fS (K:=K) (CL:=CL) (Y:=Y) (C.good hq) (show rs.length≤1000 by omega);simp only[aK,y2,y3];rfl
 ·have ri:=mz (rs:=rs) (fP (C.good hq) s hs);have ev:lim-rs.getD s 0=ng (h0 rs lim) (q.2,s):=by unfold ng h0;dsimp only;omega
  exact fG (kd:=[.int (q.2:Int),.int (s:Int)]) rfl (by simp only[aK,ri];rw[ev]) (by simp only[aK]) (fk (v:=(q.2,s))) (by rw[length_map];omega)
 ·refine bw (rT rs g ts O lim (h0 rs lim) o6 o7 true none none none) (by simp only[aK]) ?_;rw[bJ];refine m3 (λn ρ=>∃h b j o9 o10 o11,ρ=rT rs g ts O lim h o6 o7 b o9 o10 o11∧Up (ah ts) (h0 rs lim) F L j h∧(b=true→L.length+1≤j+n∧1≤n)∧(b=false→tR (eR (dq rs g ts O) (ah ts)) h=false)) (λρ=>∃h o9 o10 o11,ρ=rT rs g ts O lim h o6 o7 false o9 o10 o11∧∀v∈ah ts,h v=F v) (L.length+1) (by omega) ⟨h0 rs lim,true,0,none,none,none,rfl,X.zero,λ_=>⟨by omega,by omega⟩,λz=>by cases z⟩ (λn ρ hZ227=>?_) (λρ' hZ228=>?_)
  ·obtain⟨h,b,j,o9,o10,o11,e,U,h1,h2⟩:=hZ227;subst e;cases b with
   |false=>exact .inl ⟨by simp only[aK],h,o9,o10,o11,rfl,X.done U.lo U.hi (h2 rfl)⟩
   |true=>
    obtain⟨h3,h4⟩:=h1 rfl;obtain⟨p9,p10,p11,e⟩:=EJ (K:=K) (CL:=CL) (Y:=Y) C H (lim:=lim) (h:=h) (o6:=o6) (o7:=o7) (o9:=o9) (o10:=o10) (o11:=o11) (b:=true);refine .inr ⟨by simp only[aK],n-1,_,by omega,e,_,_,j+1,p9,p10,p11,rfl,X.step U,λz=>?_,λz=>?_⟩
    ·have hj:j<L.length:=by
      apply Classical.byContradiction;intro y;rw[X.full U (by omega)]at z;cases z
     exact⟨by omega,by omega⟩
    ·rw[(jJ z).1];exact z
  ·obtain⟨h,o9,o10,o11,e,hF⟩:=hZ228;subst e;have rt:=Aw (K:=K) (CL:=CL) (Y:=Y) (O:=O) (lim:=lim) C (h:=h) (o6:=o6) (o7:=o7) (o9:=o9) (o10:=o10) (o11:=o11) (b:=false);have ec:cF ts (ng h)=cF ts (ng F):=mI λv hv=>by unfold ng;rw[hF v hv]
   rw[ec]at rt;rw[kH];show ee ((Ir K CL Y (rT rs g ts O lim h o6 o7 false o9 o10 o11)).out Out.rt)=_;rw[rt];rfl
end
set_option maxHeartbeats 4000000
section
variable{K:Z8}{CL:Z2}{Y:Ad}{rs:Z1}{g lim:Int}{ts:List Tr}{O:List (List Nat)}
abbrev rE (CL:Z2)(rs:Z1)(g lim:Int)(ts:List Tr)(W:Vt→List (Vt×Int))(t:List Vt)(h:Vt→Int)(o6 o7:Y8):DS:=[some (aY CL rs g),some (fW (ah ts) W),some (.lst (t.map vD)),some (.int lim),some (.lst (rs.map D.int)),some (dE t (ng h)),o6,o7]
def F6 {W:Vt→List (Vt×Int)}{t:List Vt}{v:Vt}{u:Vt×Int}{h:Vt→Int}(nd:t.Nodup)(tl:t.length≤39)(hv:v∈t)(hu:u.1∈t) :
  cH 5 (ae (ac 7) (kI 0) aH) (gN 0 (bb (pC (ae (ac 5) (ae (ac 7) (kI 0) aH) aT) (pC (ae (ae (ac 5) (ac 6) aT) (ae (ac 7) (kI 1) aH) fN) pN)) qD)) (rE CL rs g lim ts W t h (some (vD v)) (some (wD u)))= .nx (rE CL rs g lim ts W t (gw h (u.1,v,u.2)) (some (vD v)) (some (wD u))):=by
 have gu:aT (dE t (ng h)) (vD u.1)= .ok (.int (ng h u.1)):=jn hu;have gv:aT (dE t (ng h)) (vD v)= .ok (.int (ng h v)):=jn hv;have e1:ng (gw h (u.1,v,u.2))=λx=>if x=u.1 then min (ng h u.1) (ng h v-u.2) else ng h x:=by
  funext x;unfold ng gw;dsimp only;by_cases e:h u.1<h v+u.2
  ·rw[Yo e];by_cases z:x=u.1
   ·rw[Yo z,Yo z];omega
   ·rw[Ym z,Ym z]
  ·rw[Ym e];by_cases z:x=u.1
   ·rw[Yo z,z];omega
   ·rw[Ym z]
 refine(fG (ks:=t.map fj) (l:=t.map λx=>.int (ng h x)) (k:=fj u.1) (d:=.int (min (ng h u.1) (ng h v-u.2))) (kd:=[.int (u.1.1:Int),.int (u.1.2:Int)]) rfl (by simp only[aK,tM,Dg,gu,gv,f_]) (by simp only[aK,tM];rfl) fk (by rw[length_map];omega)).trans ?_;rw[sw nd hu,←e1];rfl
def nh {W:Vt→List (Vt×Int)}{t:List Vt}(C:Ctx rs g ts)(T:Turn (ah ts) W t)(hw:∀v∈ah ts,(W v).length≤1000) :
  b0 K CL Y [aY CL rs g,fW (ah ts) W,.lst (t.map vD),.int lim]= .ok (dE t (ng (rx (eR W t.reverse) (h0 rs lim)))):=by
 have hvl:=fO C;have tl:t.length≤39:=le_trans (bX T.nd T.sub) hvl;have top:=lP T;have e0:aM eZ [aY CL rs g,fW (ah ts) W,.lst (t.map vD),.int lim]=[some (aY CL rs g),some (fW (ah ts) W),some (.lst (t.map vD)),some (.int lim),none,none,none,none]:=rfl;unfold b0;refine(bN rfl).trans ?_;rw[e0];unfold c_;refine bw [some (aY CL rs g),some (fW (ah ts) W),some (.lst (t.map vD)),some (.int lim),some (.lst (rs.map D.int)),none,none,none] (by simp only[aK,Hl,j8]) ?_;refine bw [some (aY CL rs g),some (fW (ah ts) W),some (.lst (t.map vD)),some (.int lim),some (.lst (rs.map D.int)),some (.dct [] []),none,none] (by simp only[aK]) ?_;have src1:nE aZ (sL (ac 2)) [some (aY CL rs g),some (fW (ah ts) W),some (.lst (t.map vD)),some (.int lim),some (.lst (rs.map D.int)),some (.dct [] []),none,none]= .ok (t.map vD):=by simp only[aK]
 rw[bJ,cQ,src1,aL];refine eX (λpre ρ=>∃s,ρ=[some (aY CL rs g),some (fW (ah ts) W),some (.lst (t.map vD)),some (.int lim),some (.lst (rs.map D.int)),some (dE pre (ng (h0 rs lim))),s,none]) ⟨none,rfl⟩ (λpre v post n ρ hZ229=>?_) (λρ' hZ230=>?_)
 ·obtain⟨s,e⟩:=hZ229;subst e;have y:v∈t:=by rw[n];simp
  have nv:v∉pre:=λz=>by
   have nd:=T.nd;rw[n]at nd;exact(nodup_append.mp nd).2.2 v z v (mem_cons_self ..) rfl
  have hpl:pre.length≤39:=by
   have:=congrArg List.length n;rw[length_append]at this;omega
  have ri:=mz (kU C (T.sub v y));have ev:lim-rs.getD v.2 0=ng (h0 rs lim) v:=by unfold ng h0;omega
  refine⟨_,rfl,?_⟩;refine⟨_,fG (ks:=pre.map fj) (l:=pre.map λv=>.int (ng (h0 rs lim) v)) (k:=fj v) (d:=.int (ng (h0 rs lim) v)) (kd:=[.int (v.1:Int),.int (v.2:Int)]) rfl (by simp only[aK,Ey,ri];rw[ev]) (by simp only[aK];rfl) fk (by rw[length_map];omega),some (vD v),?_⟩;rw[lE (f:=λx=>D.int (ng (h0 rs lim) x)) nv];rfl
 ·obtain⟨s,e⟩:=hZ230;subst e;have src2:nE aZ (HU (ac 2)) (rE CL rs g lim ts W t (h0 rs lim) s none)= .ok (t.reverse.map vD):=by
   have:Fs (.lst (t.map vD))= .ok (t.reverse.map vD):=by show Res.ok (t.map vD).reverse=_;rw[List.map_reverse]
   simp only[aK,L2.HU,this]
  show ee (av _ _ (rE CL rs g lim ts W t (h0 rs lim) s none))=_;rw[bJ,cQ,src2,aL];refine eX (λpre ρ=>∃s w,ρ=rE CL rs g lim ts W t (rx (eR W pre) (h0 rs lim)) s w) ⟨s,none,rfl⟩ (λpre v post n ρ hZ231=>?_) (λρ' hZ232=>?_)
  ·obtain⟨s,w,e⟩:=hZ231;subst e;have y:v∈t:=mem_reverse.mp (by rw[n];simp);have hvv:=T.sub v y;have hg:aT (fW (ah ts) W) (vD v)= .ok (lW W v):=ol hvv;have hut:∀u∈W v,u.1∈t:=λu hu=>mem_reverse.mp (by rw[n];exact mem_append_right _ (dk (top pre v post n u hu)));refine⟨_,rfl,?_⟩;have src3:nE aZ (sL (ae (ac 1) (ac 6) aT)) (rE CL rs g lim ts W t (rx (eR W pre) (h0 rs lim)) (some (vD v)) w)= .ok ((W v).map wD):=by simp only[aK,hg];rfl
   show ∃ρ',b9 _ _ _ (rE CL rs g lim ts W t (rx (eR W pre) (h0 rs lim)) (some (vD v)) w)=_∧_;rw[cQ,src3,aL];refine lC (λ(pre2:List (Vt×Int)) ρ=>∃w,ρ=rE CL rs g lim ts W t (rx (pre2.map λu=>(u.1,v,u.2)) (rx (eR W pre) (h0 rs lim))) (some (vD v)) w) ⟨w,rfl⟩ (λpre2 u post2 exs2 ρ hZ233=>?_) (λρ' hZ234=>?_)
   ·obtain⟨w,e⟩:=hZ233;subst e;have hu:u∈W v:=by rw[exs2];simp
    refine⟨_,rfl,_,F6 (CL:=CL) (rs:=rs) (g:=g) (lim:=lim) (ts:=ts) (W:=W) T.nd tl y (hut u hu),some (wD u),?_⟩;rw[map_append,mB];rfl
   ·obtain⟨w,e⟩:=hZ234;subst e;refine⟨some (vD v),w,?_⟩;have:eR W (pre ++ [v])=eR W pre ++ (W v).map λu=>(u.1,v,u.2):=by unfold eR;rw[flatMap_append];simp
    rw[this,mB]
  ·obtain⟨s,w,e⟩:=hZ232;subst e;simp only[aK]
def B7 {t:List Vt}{f:Vt→Int}(h:t≠[]):oR (fE t f)= .ok (.int (eS (t.map f))):=by
 cases t with
 |nil=>exact absurd rfl h
 |cons v t=>
  unfold fE oR;dsimp only;have e:((v::t).map λv=>D.int (f v))=((v::t).map f).map D.int:=by rw[map_map];rfl
  rw[e,eN];rfl
def mh (rs:Z1)(f:Vt→Int)(v:Vt):Int:=f v+rs.getD v.2 0
def gS (rs:Z1)(g:Int)(ts:List Tr)(O:Zs):Vt→Int:=iL (dq rs g ts O) (gq ts) (aP rs g ts O)
def vM (C:Ctx rs g ts):ah ts≠[]:=λz=>by
 have h1:=C.one;have hz:ts[0]?=some ts[0]:=gd (by omega);have hp:=uF (C.tr _ (mem_of_getElem? hz));have:(0,(aG ts[0]).getD 0 0)∈ah ts:=mem_visits.mpr ⟨ts[0],hz,getD_mem hp⟩;rw[z]at this;cases this
def Dy (C:Ctx rs g ts){v:Vt}(hv:v∈ah ts):0≤gq ts v∧gq ts v≤60:=by
 obtain⟨t,ht,_⟩:=mem_visits.mp hv;unfold gq;rw[ht];exact(C.tr t (mem_of_getElem? ht)).r
def FG (C:Ctx rs g ts)(H:Ords rs.length ts O){v:Vt}(hv:v∈ah ts){u:Vt×Int}(hu:u∈dq rs g ts O v):u.2≤25:=by
 have hw:=A4 C H hv hu;have r:=j7 C.ln (kU C (mJ C H v hv u hu).2);have hg:=C.ln.gap;rw[hw];split <;> omega
def F_ (C:Ctx rs g ts)(H:Ords rs.length ts O):∀j,∀v∈(aP rs g ts O).take j,gS rs g ts O v≤60+25*(j:Int):=by
 obtain⟨T,_⟩:=gG (O:=O) C;intro j
 induction j with
 |zero=>intro v hv;simp at hv
 |succ j ih=>
  intro v hv;have hvt:=List.mem_of_mem_take hv
  rcases kT hv with z|⟨b,e⟩
  ·have:=ih v z;omega
  ·rcases qw (ready:=gq ts) T hvt with z|⟨u,hu,z⟩
   ·have h1:=(Dy C (T.sub v hvt)).2;have z':gS rs g ts O v=gq ts v:=z;omega
   ·have h1:=ih u.1 (T.top _ v b e u hu);have h2:=FG C H (T.sub v hvt) hu;have z':gS rs g ts O v=gS rs g ts O u.1+u.2:=z;omega
def F9 (C:Ctx rs g ts)(H:Ords rs.length ts O){v:Vt}(hv:v∈aP rs g ts O):0≤gS rs g ts O v∧gS rs g ts O v≤2000:=by
 obtain⟨T,_⟩:=gG (O:=O) C;have tl:(aP rs g ts O).length≤39:=le_trans (bX T.nd T.sub) (fO C);have h1:=F_ C H (aP rs g ts O).length v (by rw[take_length];exact hv);have h2:gq ts v≤gS rs g ts O v:=zD T hv;have h3:=(Dy C (T.sub v hv)).1;omega
def B4 (rs:Z1)(g lim:Int)(ts:List Tr)(O:Zs):Vt→Int:=rx (eR (dq rs g ts O) (aP rs g ts O).reverse) (h0 rs lim)
abbrev rA (CL:Z2)(rs:Z1)(g:Int)(ts:List Tr)(O:Zs)(lim:Int)(o4 o5 o6 o7 o8:Y8):DS:=[some (aY CL rs g),some (.lst (ts.map bE)),some (aJ O),some (.int lim),o4,o5,o6,o7,o8]
def xR (C:Ctx rs g ts)(H:Ords rs.length ts O)(hl1: -(10 ^ 15)<lim)(hl2:lim<10 ^ 15) :((aP rs g ts O).length<(ah ts).length∧cL K CL Y [aY CL rs g,.lst (ts.map bE),aJ O,.int lim]= .exc Y.ST)∨(¬(aP rs g ts O).length<(ah ts).length∧lim<eS ((aP rs g ts O).map (mh rs (gS rs g ts O)))∧cL K CL Y [aY CL rs g,.lst (ts.map bE),aJ O,.int lim]= .exc Y.TS)∨(¬(aP rs g ts O).length<(ah ts).length∧¬lim<eS ((aP rs g ts O).map (mh rs (gS rs g ts O)))∧cL K CL Y [aY CL rs g,.lst (ts.map bE),aJ O,.int lim]= .ok (.lst ((cF ts (ng (B4 rs g lim ts O))).map aX))):=by
 have hn5:=C.ln.few;have hwy:mi K CL Y [aY CL rs g,.lst (ts.map bE)]= .ok (.lst (ts.map bH)):=C_ C.tr (by omega) C.one C.few;have hwo:=vN (K:=K) (CL:=CL) (Y:=Y) C H;have fz1:xH (dW (ah ts) (dq rs g ts O))= .ok (fW (ah ts) (dq rs g ts O)):=rfl;have A:=sK (K:=K) (CL:=CL) (Y:=Y) C H;have hvl:=fO C;obtain⟨T,hf⟩:=gG (O:=O) C;have e0:aM nS [aY CL rs g,.lst (ts.map bE),aJ O,.int lim]=(rA CL rs g ts O lim none none none none none):=rfl;by_cases F:(aP rs g ts O).length<(ah ts).length
 ·refine .inl ⟨F,?_⟩;rw[Yo F]at A;unfold cL;refine(bN rfl).trans ?_;rw[e0];unfold jf;simp only[aK,BY,hwy,hwo,fz1,A]
 ·rw[Ym F]at A;have full:=nD bt F T.nd T.sub;have hle:=oJ (K:=K) (CL:=CL) (Y:=Y) T hvl (sM C H);have hEe:iL (dq rs g ts O) (gq ts) (aP rs g ts O)=gS rs g ts O:=rfl;rw[hEe]at hle;have enb:=λv (j:v∈aP rs g ts O)=>F9 C H j;have hla:=nh (K:=K) (CL:=CL) (Y:=Y) (lim:=lim) C T (sM C H);have hFe:rx (eR (dq rs g ts O) (aP rs g ts O).reverse) (h0 rs lim)=B4 rs g lim ts O:=rfl;rw[hFe]at hla;generalize hE:gS rs g ts O=E at hle enb ⊢;have fz2:xH (dE (aP rs g ts O) E)= .ok (fE (aP rs g ts O) E):=rfl;have hlt:∀v∈aP rs g ts O,v.2<rs.length:=λv j=>kU C (T.sub v j);have tl:(aP rs g ts O).length≤39:=le_trans (bX T.nd T.sub) hvl;have hlv:=tS (K:=K) (CL:=CL) (Y:=Y) (g:=g) (f:=E) T.nd tl hlt;have hEl:(λv=>E v+rs.getD v.2 0)=mh rs E:=rfl;rw[hEl]at hlv;have fz3:xH (dE (aP rs g ts O) (mh rs E))= .ok (fE (aP rs g ts O) (mh rs E)):=rfl;have tne:aP rs g ts O≠[]:=λz=>by
   cases j:ah ts with
   |nil=>exact vM C j
   |cons a l=>
    have:=full a (by rw[j];exact mem_cons_self ..);rw[z]at this;cases this
  have hmx:=B7 (f:=mh rs E) tne;have mne:(aP rs g ts O).map (mh rs E)≠[]:=λz=>tne (List.map_eq_nil_iff.mp z);have hM:=(dl mne).1;generalize hMe:eS ((aP rs g ts O).map (mh rs E))=M at hmx hM ⊢;have fz4:xH (dE (aP rs g ts O) (ng (B4 rs g lim ts O)))= .ok (fE (aP rs g ts O) (ng (B4 rs g lim ts O))):=rfl;have htb:=vI (K:=K) (CL:=CL) (Y:=Y) (ts:=ts) (t:=aP rs g ts O) (f:=ng (B4 rs g lim ts O)) C.few (λq hq=>by have:=dU (C.good hq);omega) full;obtain⟨v,j,ev⟩:=mem_map.mp hM;have r1:=j7 C.ln (hlt v j);have u1:=enb v j;have ev':E v+rs.getD v.2 0=M:=ev;have okM:decide (M.natAbs.log2<1920)=true:=Zo (qy (by omega) (by omega));have okl:decide (lim.natAbs.log2<1920)=true:=Zo (qy (by omega) (by omega));have go:∀(x:Res D),(ee (av (dX (cG (ae (ac 3) (ac 8) zG)) (cX Y.TS (λρ=>A7 8 ρ&&A7 3 ρ)) nxt) (bR (bb (pC (ac 4) (pC (BY (bb (pC (ac 0) (pC (ac 5) (pC (ac 6) (pC (ac 3) pN)))) (b0 K CL Y))) pN)) (d9 K CL Y))) (rA CL rs g ts O lim (some (.lst (ts.map bH))) (some (fW (ah ts) (dq rs g ts O))) (some (.lst ((aP rs g ts O).map vD))) (some (fE (aP rs g ts O) (mh rs E))) (some (.int M))))=x)→cL K CL Y [aY CL rs g,.lst (ts.map bE),aJ O,.int lim]=x:=by
   intro x hx;unfold cL;refine(bN rfl).trans ?_;rw[e0];unfold jf;refine bw (rA CL rs g ts O lim (some (.lst (ts.map bH))) none none none none) (by simp only[aK,hwy]) ?_;refine bw (rA CL rs g ts O lim (some (.lst (ts.map bH))) (some (fW (ah ts) (dq rs g ts O))) none none none) (by simp only[aK,BY,hwo,fz1]) ?_;refine bw (rA CL rs g ts O lim (some (.lst (ts.map bH))) (some (fW (ah ts) (dq rs g ts O))) (some (.lst ((aP rs g ts O).map vD))) none none) (by simp only[aK,A]) ?_;refine bw (rA CL rs g ts O lim (some (.lst (ts.map bH))) (some (fW (ah ts) (dq rs g ts O))) (some (.lst ((aP rs g ts O).map vD))) (some (fE (aP rs g ts O) (mh rs E))) none) (by simp only[aK,BY,hle,fz2,hlv,fz3]) ?_;refine bw (rA CL rs g ts O lim (some (.lst (ts.map bH))) (some (fW (ah ts) (dq rs g ts O))) (some (.lst ((aP rs g ts O).map vD))) (some (fE (aP rs g ts O) (mh rs E))) (some (.int M))) (by simp only[aK,hmx]) ?_;exact hx
  by_cases y:lim<M
  ·refine .inr (.inl ⟨F,y,go _ ?_⟩);have er:cX Y.TS (λρ=>A7 8 ρ&&A7 3 ρ) (rA CL rs g ts O lim (some (.lst (ts.map bH))) (some (fW (ah ts) (dq rs g ts O))) (some (.lst ((aP rs g ts O).map vD))) (some (fE (aP rs g ts O) (mh rs E))) (some (.int M)))= .exc Y.TS:=yZ (by
    show (decide (M.natAbs.log2<1920)&&decide (lim.natAbs.log2<1920))=true;rw[okM,okl];rfl)
   simp only[aK,Zo y,er]
  ·refine .inr (.inr ⟨F,y,go _ ?_⟩);simp only[aK,Zj y,BY,hla,fz4,htb]
end
set_option maxHeartbeats 4000000
section
variable{K:Z8}{CL:Z2}{Y:Ad}{rs:Z1}{g lim:Int}{ts:List Tr}{O:List (List Nat)}
def wv {α:Type}{c:α→D}{l:List α}{v:α}(h:l[l.length-1]?=some v):aH (.lst (l.map c)) (.int (-1))= .ok (c v):=by
 rcases List.eq_nil_or_concat l with e|⟨r0,m0,e⟩
 ·rw[e]at h;cases h
 ·rw[List.concat_eq_append]at e;subst e;rw[length_append,length_singleton,Nat.add_sub_cancel,getElem?_append_right (le_refl _),sub_self]at h;have h':m0=v:=by simpa using h
  subst h';rw[map_append];exact l8 (yJ _ _)
def B6 (C:Ctx rs g ts)(H:Ords rs.length ts O)(full:∀v∈ah ts,v∈aP rs g ts O){q:Q}(hq:q∈ts.zipIdx){i a b:Nat}(ha:(aG q.1)[i]?=some a)(hb:(aG q.1)[i+1]?=some b):mh rs (gS rs g ts O) (q.2,a)≤mh rs (gS rs g ts O) (q.2,b):=by
 obtain⟨T,_⟩:=gG (O:=O) C;have hv:(q.2,b)∈ah ts:=mem_visits.mpr ⟨q.1,mem_zip.mp hq,mem_of_getElem? hb⟩;have hz:(a,b)∈(aG q.1).zip (aG q.1).tail:=mem_of_getElem? (i:=i) (List.getElem?_zip_eq_some.mpr ⟨ha,by rw[List.getElem?_tail];exact hb⟩);have hu:((q.2,a),rs.getD a 0)∈dq rs g ts O (q.2,b):=mem_append_left _ ((vg (mem_zip.mp hq)).mpr ⟨a,hz,rfl⟩);have h1:gS rs g ts O (q.2,a)+rs.getD a 0≤gS rs g ts O (q.2,b):=zE T (full _ hv) hu;have r:=j7 C.ln (kU C hv);unfold mh;dsimp only at r ⊢;omega
theorem wA (C:Ctx rs g ts)(H:Ords rs.length ts O)(full:∀v∈ah ts,v∈aP rs g ts O){q:Q}(hq:q∈ts.zipIdx):∀(d i a z:Nat),(aG q.1)[i]?=some a→(aG q.1)[i+d]?=some z→mh rs (gS rs g ts O) (q.2,a)≤mh rs (gS rs g ts O) (q.2,z)
 |0,i,a,z,ha,hz=>by
  rw[Nat.add_zero,ha]at hz;cases hz;exact Int.le_refl _
 |d+1,i,a,z,ha,hz=>by
  have hi:i+1<(aG q.1).length:=by have:=(fR hz).1;omega
  have hb:(aG q.1)[i+1]?=some (aG q.1)[i+1]:=gd hi;exact Int.le_trans (B6 C H full hq ha hb) (wA C H full hq d (i+1) _ z hb (by rw[show i+1+d=i+(d+1) by omega];exact hz))
def ra (q:Q):Vt:=(q.2,(aG q.1).getD ((aG q.1).length-1) 0)
def uT (C:Ctx rs g ts){q:Q}(hq:q∈ts.zipIdx):(aG q.1)[(aG q.1).length-1]?=some (ra q).2:=eE (by have:=uF (C.good hq);omega)
def DO (C:Ctx rs g ts)(H:Ords rs.length ts O)(full:∀v∈ah ts,v∈aP rs g ts O):∃a l,ts.zipIdx.map (λq=>mh rs (gS rs g ts O) (ra q))=a::l∧eS (a::l)=eS ((aP rs g ts O).map (mh rs (gS rs g ts O))):=by
 obtain⟨T,_⟩:=gG (O:=O) C;have h1:=C.one;have hne:ts.zipIdx.map (λq=>mh rs (gS rs g ts O) (ra q))≠[]:=λz=>by
  have:=congrArg List.length z;rw[length_map,length_zipIdx]at this;have:ts.length=0:=this;omega
 cases hl:ts.zipIdx.map (λq=>mh rs (gS rs g ts O) (ra q)) with
 |nil=>exact absurd hl hne
 |cons a l=>
  refine⟨a,l,rfl,?_⟩;rw[←hl];have mem:∀q∈ts.zipIdx,ra q∈ah ts:=λq hq=>mem_visits.mpr ⟨q.1,mem_zip.mp hq,mem_of_getElem? (uT C hq)⟩;have tne:(aP rs g ts O).map (mh rs (gS rs g ts O))≠[]:=λz=>by
   have z':=List.map_eq_nil_iff.mp z;cases hv:ah ts with
   |nil=>exact vM C hv
   |cons b r=>
    have:=full b (by rw[hv];exact mem_cons_self ..);rw[z']at this;cases this
  obtain⟨m1,m2⟩:=dl hne;obtain⟨n1,n2⟩:=dl tne;refine le_antisymm ?_ ?_
  ·obtain⟨q,hq,e⟩:=mem_map.mp m1;rw[←e];exact n2 _ (mem_map.mpr ⟨_,full _ (mem q hq),rfl⟩)
  ·obtain⟨v,hv,e⟩:=mem_map.mp n1;rw[←e];obtain⟨t,ht,hs⟩:=mem_visits.mp (T.sub v hv);have hq:(t,v.1)∈ts.zipIdx:=mem_zip.mpr ht;obtain⟨i,hi,ei⟩:=List.getElem_of_mem hs;have ha:(aG t)[i]?=some v.2:=by rw[gd hi,ei]
   have hz:=uT C hq;dsimp only at hz;have:=wA C H full hq ((aG t).length-1-i) i v.2 _ ha (by dsimp only;rw[show i+((aG t).length-1-i)=(aG t).length-1 by omega];exact hz);exact Int.le_trans this (m2 _ (mem_map.mpr ⟨(t,v.1),hq,rfl⟩))
def oC {K:Z8}{C:Z2}{b:Bool}(h:W.kitOne K (.ref C) c=some b):eO K c (.xc C)= .ok (.bl b):=by
 unfold eO FD;dsimp only;rw[h]
def BP {i:Nat}{cs:Zt}{F Fh:Zl}{ρ:DS}{d:D}(h:F ρ= .exc c)(hc:cs.contains c=true)(hh:Fh (ρ.set i (some (.xc c)))= .rt d):ka i cs F Fh ρ= .rt d:=by
 unfold ka;rw[h];dsimp only;rw[Yo hc,hh]
def BN {i:Nat}{cs:Zt}{F Fh:Zl}{ρ ρ':DS}(h:F ρ= .nx ρ'):ka i cs F Fh ρ= .nx ρ':=by
 unfold ka;rw[h]
abbrev B8 (a b:Bool):D:=.tup [.non,.lst [.bl a,.bl b,.bl true,.bl false,.bl false]]
def uA {a b:Bool}{d1 d2 d3:D}(j0:W.kitOne K (.ref c) (.ref Y.ST)=some a)(j1:W.kitOne K (.ref c) (.ref Y.TS)=some b)(j2:W.kitOne K (.ref c) (.type "ValueError")=some true)(j3:W.kitOne K (.ref c) (.ref Y.BO)=some false)(j4:W.kitOne K (.ref c) (.ref Y.BB)=some false)(hc:[Y.ST,Y.TS].contains c=true)(e:cL K CL Y [d1,d2,d3,.int lim]= .exc c) :
  cK K CL Y [d1,d2,d3,.int lim]= .ok (B8 a b):=by
 have e0:aM gB [d1,d2,d3,.int lim]=[some d1,some d2,some d3,some (.int lim),none,none,none]:=rfl;have k0:eO K (cV (.ref Y.ST)) (.xc c)= .ok (.bl a):=oC j0;have k1:eO K (cV (.ref Y.TS)) (.xc c)= .ok (.bl b):=oC j1;have k2:eO K (cV (.ty "ValueError")) (.xc c)= .ok (.bl true):=oC j2;have k3:eO K (cV (.ref Y.BO)) (.xc c)= .ok (.bl false):=oC j3;have k4:eO K (cV (.ref Y.BB)) (.xc c)= .ok (.bl false):=oC j4;have ec:l7 (.lst [.bl a,.bl b,.bl true,.bl false]) (.lst [.bl false])= .ok (.lst [.bl a,.bl b,.bl true,.bl false,.bl false]):=rfl;have lN:bW 0 .non=true:=rfl;have l2:bW 2 (B8 a b)=true:=rfl;unfold cK;refine(bN rfl).trans ?_;rw[e0];unfold eK;rw[bJ,BP (c:=c) (d:=B8 a b) (by simp only[aK,e]) hc (by simp only[aK,k0,k1,k2,k3,k4,ec,lN,l2])];rfl
def AT {d1 d2 d3:D}{p:Pl}(e:cL K CL Y [d1,d2,d3,.int lim]= .ok (.lst (p.map aX))):cK K CL Y [d1,d2,d3,.int lim]= .ok (.tup [.lst (p.map aX),.lst []]):=by
 have e0:aM gB [d1,d2,d3,.int lim]=[some d1,some d2,some d3,some (.int lim),none,none,none]:=rfl;unfold cK;refine(bN rfl).trans ?_;rw[e0];unfold eK;rw[bJ,BN (ρ':=[some d1,some d2,some d3,some (.int lim),some (.lst (p.map aX)),none,none]) (by simp only[aK,e,pD])];simp only[aK,wE]
def A3 {i:Int}:dI K CL Y [.int i]= .ok (.bl true):=by
 unfold dI;refine(bN rfl).trans ?_;have e0:aM ii [D.int i]=[some (.int i)]:=rfl;rw[e0];unfold fy;have e1:eO K (cV (.ty "int")) (.int i)= .ok (.bl true):=by unfold eO FD;dsimp only;rw[show cV (.ty "int")=Value.type "int" from rfl,lr]
 have e2:eO K (cV (.ty "bool")) (.int i)= .ok (.bl false):=by unfold eO FD;dsimp only;rw[show cV (.ty "bool")=Value.type "bool" from rfl,EF]
 simp only[aK,e1,e2]
def Iv {l:Zy}:eO K (cV (.ty "list")) (.lst l)= .ok (.bl true):=by unfold eO FD;dsimp only;rw[show cV (.ty "list")=Value.type "list" from rfl,lr]
def Ft {ns:Z1}(h:ns.length<1000000):d8 K CL Y [.lst (ns.map D.int),.lst (ns.map D.int)]= .ok (.bl true):=by
 unfold d8;refine(bN rfl).trans ?_;have e0:aM kr [D.lst (ns.map D.int),.lst (ns.map D.int)]=[some (.lst (ns.map D.int)),some (.lst (ns.map D.int)),none]:=rfl;rw[e0];unfold hX;simp only[aK,Iv,fH,bne_self_eq_false,beq_self_eq_true,cc h];refine lj (λrem ρ=>(∀d∈rem,∃i:Nat,i<ns.length∧d= .int i)∧∃o,ρ=[some (.lst (ns.map D.int)),some (.lst (ns.map D.int)),o]) ⟨λd hd=>?_,none,rfl⟩ (λd ds ρ hZ235=>?_) (λρ' hZ236=>?_)
 ·obtain⟨i,hi,rfl⟩:=mem_map.mp hd;exact⟨i,mem_range.mp hi,rfl⟩
 ·obtain⟨hd,o,e⟩:=hZ235;subst e;obtain⟨i,hi,rfl⟩:=hd d (mem_cons_self ..);refine⟨_,_,rfl,?_,λx hx=>hd x (dk hx),some (.int i),rfl⟩;have hix:=cr (g:=D.int) (gd hi);simp only[aK,hix,A3,beq_self_eq_true]
 ·obtain⟨_,o,e⟩:=hZ236;subst e;simp only[aK]
def CQ {p:Pl}(h:p.length<1000000)(hr:∀r∈p,r.length<1000000):eP K CL Y [.lst (p.map aX),.lst (p.map aX)]= .ok (.bl true):=by
 unfold eP;refine(bN rfl).trans ?_;have e0:aM jg [D.lst (p.map aX),.lst (p.map aX)]=[some (.lst (p.map aX)),some (.lst (p.map aX)),none]:=rfl;rw[e0];unfold gz;simp only[aK,Iv,cc h];refine lj (λrem ρ=>(∀d∈rem,∃i:Nat,i<p.length∧d= .int i)∧∃o,ρ=[some (.lst (p.map aX)),some (.lst (p.map aX)),o]) ⟨λd hd=>?_,none,rfl⟩ (λd ds ρ hZ237=>?_) (λρ' hZ238=>?_)
 ·obtain⟨i,hi,rfl⟩:=mem_map.mp hd;exact⟨i,mem_range.mp hi,rfl⟩
 ·obtain⟨hd,o,e⟩:=hZ237;subst e;obtain⟨i,hi,rfl⟩:=hd d (mem_cons_self ..);refine⟨_,_,rfl,?_,λx hx=>hd x (dk hx),some (.int i),rfl⟩;have hix:=cr (g:=aX) (gd hi);have hro:d8 K CL Y [aX p[i],aX p[i]]= .ok (.bl true):=Ft (hr _ (getElem_mem hi));simp only[aK,hix,hro]
 ·obtain⟨_,o,e⟩:=hZ238;subst e;simp only[aK]
end
set_option maxHeartbeats 4000000
section
variable{K:Z8}{CL:Z2}{Y:Ad}{rs:Z1}{g lim:Int}{ts:List Tr}{O:List (List Nat)}
abbrev lQ (ns rs:Z1)(g:Int)(ts:List Tr)(O:Zs)(L4:D)(lim la:Int)(o7 o8 o9 o10 o11 o12 o13:Y8):DS:=[some (.scr ns),some (.tup [.lst (rs.map D.int),.int g]),some (.lst (ts.map bE)),some (aJ O),some L4,some (.int lim),some (.int la),o7,o8,o9,o10,o11,o12,o13]
theorem gb:∀(ns:List Int),L2.flats (ns.map D.int)=true
 | []=>by unfold flats;rfl
 |a::r=>by rw[map_cons];unfold flats;rw[gb r];unfold L2.flat;rfl
def xU {CL:Z2}{rs:Z1}{g:Int}:bW 0 (aY CL rs g)=true:=by
 refine jZ ?_;unfold aY L2.flat flats flats flats L2.flat;rw[gb];rfl
def Fi {n:Nat}{r:Z1}:bg (n+1) (aX r)=true:=mw λ_ _=>gl
def B9 {l:Yx}:lX (.lst (l.map aX)) (.lst (l.map aX))= .ok (.bl false):=j5 (mw (n:=19) λ_ _=>Fi (n:=18))
def ud {a b c k:Int}(h:0≤k∧k<3):∃v:Int,(v=a∨v=b∨v=c)∧aH (.lst [.int a,.int b,.int c]) (.int k)= .ok (.int v):=by
 have hk:k=0∨k=1∨k=2:=by omega
 rcases hk with e|e|e <;> subst e
 ·exact⟨a,.inl rfl,tF⟩
 ·exact⟨b,.inr (.inl rfl),tG⟩
 ·exact⟨c,.inr (.inr rfl),l8 (ji (by decide) rfl)⟩
def Ha {ns:Z1}{L4:D}{la:Int}(h1: -(10 ^ 12)<lim)(h2:lim<10 ^ 12):∃lim',-(10 ^ 15)<lim'∧lim'<10 ^ 15∧dX (cG (ae (bb (pC (ac 0) (pC (kI 203) (pC (kI 9) pN))) (al K CL Y)) (kI 1) Bt)) (aF 5 (bz bG (ae (cU (pC (nG (kI 1)) (pC (ae (kI 10) (kI 9) yg) (pC (nG (ae (kI 10) (kI 9) yg)) pN)))) (bb (pC (ac 0) (pC (kI 204) (pC (kI 3) pN))) (al K CL Y)) aH))) nxt (lQ ns rs g ts O L4 lim la none none none none none none none)= .nx (lQ ns rs g ts O L4 lim' la none none none none none none none):=by
 have e3:=bM (K:=K) (CL:=CL) (Y:=Y) (ns:=ns) (k:=203) (many:=9) (by omega) (by omega) (by omega) (by omega);have e4:=bM (K:=K) (CL:=CL) (Y:=Y) (ns:=ns) (k:=204) (many:=3) (by omega) (by omega) (by omega) (by omega);have d4:=cB (ns:=ns) (k:=204) (many:=3) (by omega);by_cases h:drawn ns 203 9=1
 ·have q:(drawn ns 203 9==1)=true:=beq_iff_eq.mpr h;have ep:yg (.int 10) (.int 9)= .ok (.int 1000000000):=by rfl
  obtain⟨v,hv,ev⟩:=ud (a:= -1) (b:=1000000000) (c:= -1000000000) (k:=drawn ns 204 3) d4;refine⟨v,by omega,by omega,?_⟩;simp only[aK,e3,q,e4,ep,ev]
 ·have q:(drawn ns 203 9==1)=false:=beq_eq_false_iff_ne.mpr h;refine⟨lim,by omega,by omega,?_⟩;simp only[aK,e3,q]
abbrev HB (K:Z8)(CL:Z2)(Y:Ad):DS→Res D:=aU (sR1 (pC (c1 (ac 2) bj) pN)) [none,some 4,some 1,some 2] (aS 0) yes (ae (ae (ae (ac 1) (ac 0) aH) (nG (kI 1)) aH) (ae (ae (ac 2) (kI 0) aH) (ae (bb (pC (ae (ac 3) (ac 0) aH) pN) (aI K CL Y)) (nG (kI 1)) aH) aH) aW)
abbrev Io (K:Z8)(CL:Z2)(Y:Ad):DS→Out:=dX (cG (ae (ac 4) kN qE)) (av (aF 6 (bz bG (c1 (HB K CL Y) mj))) (aF 5 (bz bG (ae (ac 6) (ae (cU (pC (ae (bb (pC (ac 0) (pC (kI 201) (pC (kI 9) pN))) (al K CL Y)) (kI 4) fN) (pC (bb (pC (ac 0) (pC (kI 201) (pC (kI 101) pN))) (al K CL Y)) (pC (kI 0) pN)))) (bb (pC (ac 0) (pC (kI 202) (pC (kI 3) pN))) (al K CL Y)) aH) aW)))) nxt
def G_ {ns:Z1}(C:Ctx rs g ts)(H:Ords rs.length ts O)(full:∀v∈ah ts,v∈aP rs g ts O):∃lim',-(10 ^ 12)<lim'∧lim'<10 ^ 12∧Io K CL Y (lQ ns rs g ts O (.lst ((cF ts (gS rs g ts O)).map aX)) lim 0 none none none none none none none)= .nx (lQ ns rs g ts O (.lst ((cF ts (gS rs g ts O)).map aX)) lim' (eS ((aP rs g ts O).map (mh rs (gS rs g ts O)))) none none none none none none none):=by
 have hn5:=C.ln.few;have ht5:=C.few;have e1:=bM (K:=K) (CL:=CL) (Y:=Y) (ns:=ns) (k:=201) (many:=9) (by omega) (by omega) (by omega) (by omega);have e2:=bM (K:=K) (CL:=CL) (Y:=Y) (ns:=ns) (k:=201) (many:=101) (by omega) (by omega) (by omega) (by omega);have e3:=bM (K:=K) (CL:=CL) (Y:=Y) (ns:=ns) (k:=202) (many:=3) (by omega) (by omega) (by omega) (by omega);have d1:=cB (ns:=ns) (k:=201) (many:=9) (by omega);have d2:=cB (ns:=ns) (k:=201) (many:=101) (by omega);have d3:=cB (ns:=ns) (k:=202) (many:=3) (by omega);obtain⟨a,l,el,em⟩:=DO C H full;have enb:=λv (hv:v∈aP rs g ts O)=>F9 C H hv;have er:lF [.int (ts.length:Int)]= .ok (ts.zipIdx.map λq:Q=>D.int (q.2:Int)):=by rw[cc (by omega),lI]
 have cg:HB K CL Y (lQ ns rs g ts O (.lst ((cF ts (gS rs g ts O)).map aX)) lim 0 none none none none none none none)= .ok (.lst ((a::l).map D.int)):=by
  show aU _ _ _ _ _ _=_;rw[bB (xs:=ts.zipIdx) (c:=λq:Q=>D.int (q.2:Int)) (g:=λq:Q=>D.int (mh rs (gS rs g ts O) (ra q))) (by simp only[aK,er]) (by rw[length_zipIdx];omega) (λq hq=>⟨_,rfl,?_⟩)]
  ·rw[←el,map_map];rfl
  ·have y2:aH (.lst (ts.map bE)) (.int (q.2:Int))= .ok (bE q.1):=cr (mem_zip.mp hq);have y3:=fS (K:=K) (CL:=CL) (Y:=Y) (C.good hq) (show rs.length≤1000 by omega);have y4:aH (.lst ((cF ts (gS rs g ts O)).map aX)) (.int (q.2:Int))= .ok (aX ((aG q.1).map λs=>gS rs g ts O (q.2,s))):=by
    refine cr (g:=aX) ?_;unfold cF;rw[getElem?_map];have:ts.zipIdx[q.2]?=some q:=by rw[List.getElem?_zipIdx,mem_zip.mp hq];simp
    rw[this];rfl
   have hz:=uT C hq;have y5:aH (aX ((aG q.1).map λs=>gS rs g ts O (q.2,s))) (.int (-1))= .ok (.int (gS rs g ts O (ra q))):=wv (c:=D.int) (by rw[length_map,getElem?_map,hz];rfl);have y6:aH (.lst (aw (aG q.1))) (.int (-1))= .ok (.int ((ra q).2:Int)):=wv (c:=λ(i:Nat)=>D.int (i:Int)) hz;have y7:aH (.tup [.lst (rs.map D.int),.int g]) (.int 0)= .ok (.lst (rs.map D.int)):=v_;have y8:=mz (rs:=rs) (s:=(ra q).2) (fP (C.good hq) _ (mem_of_getElem? hz));show ae (ae (ae (ac 1) (ac 0) aH) (nG (kI 1)) aH) (ae (ae (ac 2) (kI 0) aH) (ae (bb (pC (ae (ac 3) (ac 0) aH) pN) (aI K CL Y)) (nG (kI 1)) aH) aH) aW [some (.int (q.2:Int)),some (.lst ((cF ts (gS rs g ts O)).map aX)),some (.tup [.lst (rs.map D.int),.int g]),some (.lst (ts.map bE))]=_;simp only[aK,y2,y3,y4,y5,y6,y7,y8];rfl
 have tne:(aP rs g ts O).map (mh rs (gS rs g ts O))≠[]:=λz=>by
  have z':=List.map_eq_nil_iff.mp z;cases hv:ah ts with
  |nil=>exact vM C hv
  |cons b r=>
   have:=full b (by rw[hv];exact mem_cons_self ..);rw[z']at this;cases this
 have hM:=(dl tne).1;obtain⟨T,_⟩:=gG (O:=O) C;generalize eS ((aP rs g ts O).map (mh rs (gS rs g ts O)))=M at hM em ⊢;obtain⟨v,hv,ev⟩:=mem_map.mp hM;have r1:=j7 C.ln (kU C (T.sub v hv));have u1:=enb v hv;have ev':gS rs g ts O v+rs.getD v.2 0=M:=ev;obtain⟨p,hp,ep⟩:=ud (a:=drawn ns 201 9-4) (b:=drawn ns 201 101) (c:=0) (k:=drawn ns 202 3) d3;refine⟨M+p,by omega,by omega,?_⟩;have mx:mj [.lst ((a::l).map D.int)]= .ok (.int M):=by rw[tV,em]
 have nn:B2 (.lst ((cF ts (gS rs g ts O)).map aX))=false:=rfl;have s6:aF 6 (bz bG (c1 (HB K CL Y) mj)) (lQ ns rs g ts O (.lst ((cF ts (gS rs g ts O)).map aX)) lim 0 none none none none none none none)= .nx (lQ ns rs g ts O (.lst ((cF ts (gS rs g ts O)).map aX)) lim M none none none none none none none):=by
  have fz:gX bG (lQ ns rs g ts O (.lst ((cF ts (gS rs g ts O)).map aX)) lim 0 none none none none none none none)=lQ ns rs g ts O (.lst ((cF ts (gS rs g ts O)).map aX)) lim 0 none none none none none none none:=rfl;rw[uY];unfold bz;rw[fz];unfold c1;rw[cg,az,mx];rfl
 generalize D.lst ((cF ts (gS rs g ts O)).map aX)=L4 at nn s6 ⊢;show dX _ _ _ _=_;rw[yV];have tt:cG (ae (ac 4) kN qE) (lQ ns rs g ts O L4 lim 0 none none none none none none none)= .ok true:=by simp only[aK,nn]
 rw[tt,aL,Yo rfl,bJ,s6,bf];simp only[aK,e1,e2,e3,ep]
end
set_option maxHeartbeats 4000000
section
variable{K:Z8}{CL:Z2}{Y:Ad}
abbrev lH (CL:Z2)(ns rs:Z1)(g:Int)(ts:List Tr)(O:Zs)(L4:D)(lim la:Int)(L2:Zy)(o10 o11 o12 o13:Y8):DS:=lQ ns rs g ts O L4 lim la (some (.lst [.lst (ts.map bE),aJ O])) (some (.lst L2)) (some (aY CL rs g)) o10 o11 o12 o13
def Cy {ts:List Tr}{O:Zs}:bg 20 (.lst [.lst (ts.map bE),aJ O])=true:=by
 have p1:bg 19 (.lst (ts.map bE))=true:=mw (n:=18) λt _=>by
  unfold bE bg plL;rw[gl];unfold plL;rw[gl];unfold plL;rw[gl];rfl
 have p2:bg 19 (aJ O)=true:=mw (n:=18) λr _=>mw (n:=17) λ_ _=>gl;unfold bg plL;rw[show 20-1=19 from rfl,p1];unfold plL;rw[p2];rfl
def zB {ns:Z1}(Ki:Kit K Y)(hns:ns.length≤63):zI K CL Y [.scr ns]= .ok (.bl true):=by
 obtain⟨rs,g,GL,el⟩:=xT (K:=K) (CL:=CL) (Y:=Y) (ns:=ns) (base:=0) (by omega) (by omega);have h5:=GL.few;have h1:=GL.one;obtain⟨ts,tl,tg,et⟩:=uB (K:=K) (CL:=CL) (Y:=Y) (ns:=ns) (base:=20) (most:=5) (n:=rs.length) (by omega) (by omega) h1 h5 (by omega) (by omega);have db:=cB (ns:=ns) (k:=20) (many:=5) (by omega);have C:Ctx rs g ts:=⟨GL,tg,by omega,by omega⟩;obtain⟨O,H,eo⟩:=t9 (K:=K) (CL:=CL) (Y:=Y) (ns:=ns) (rs:=rs) (base:=100) (g:=g) (ts:=ts) (by omega) (by omega) C.tr (by omega) (by omega);have hOl:=H.len;have t5:=C.few;have hne:=j5 (Cy (ts:=ts) (O:=O));have i0:aH (.tup [.lst (rs.map D.int),.int g]) (.int 0)= .ok (.lst (rs.map D.int)):=v_;have i1:aH (.tup [.lst (rs.map D.int),.int g]) (.int 1)= .ok (.int g):=y_;have h0':aH (.lst [.lst (ts.map bE),aJ O]) (.int 0)= .ok (.lst (ts.map bE)):=tF;have h1':aH (.lst [.lst (ts.map bE),aJ O]) (.int 1)= .ok (aJ O):=tG;have eli:cD [.lst (rs.map D.int)]= .ok (.lst (rs.map D.int)):=rfl;have els:cD [.lst (ts.map bE)]= .ok (.lst (ts.map bE)):=rfl;have ein:=B1 (K:=K) (CL:=CL) (Y:=Y) GL;have lfl:bW 0 (aY CL rs g)=true:=xU;have hr0:rs[0]?=some rs[0]:=gd (by omega);have ir0:aH (.lst (rs.map D.int)) (.int 0)= .ok (.int rs[0]):=cr (i:=0) hr0;have e200:=bM (K:=K) (CL:=CL) (Y:=Y) (ns:=ns) (k:=200) (many:=400) (by omega) (by omega) (by omega) (by omega);have d200:=cB (ns:=ns) (k:=200) (many:=400) (by omega);have r2:lF [.int 2]= .ok ((List.range 2).map λ(i:Nat)=>D.int (i:Int)):=cc (n:=2) (by omega);have l5:∀a b c d e:D,aQ [a,b,c,d,e].length=true:=λ_ _ _ _ _=>rfl;obtain⟨T,_⟩:=gG (O:=O) C
 -- what the law finds,and the limit
 obtain⟨L4,la,lim,b1,b2,e4,s7,hc⟩:∃L4 la lim,-(10 ^ 12)<lim∧lim<10 ^ 12∧b8 K CL Y [.lst (rs.map D.int),.int g,.lst (ts.map bE),aJ O]= .ok L4∧
   Io K CL Y (lQ ns rs g ts O L4 (drawn ns 200 400) 0 none none none none none none none)= .nx (lQ ns rs g ts O L4 lim la none none none none none none none)∧
   (((aP rs g ts O).length<(ah ts).length∧B2 L4=true)∨(¬(aP rs g ts O).length<(ah ts).length∧B2 L4=false∧la=eS ((aP rs g ts O).map (mh rs (gS rs g ts O))))):=by
  rcases tQ (K:=K) (CL:=CL) (Y:=Y) C H with ⟨E,e⟩|⟨E,e⟩
  ·refine⟨.non,0,drawn ns 200 400,by omega,by omega,e,?_,.inl ⟨E,rfl⟩⟩;have nn:B2 .non=true:=rfl;show dX _ _ _ _=_;rw[yV];have tt:cG (ae (ac 4) kN qE) (lQ ns rs g ts O .non (drawn ns 200 400) 0 none none none none none none none)= .ok false:=by simp only[aK,nn]
   rw[tt,aL];rfl
  ·have full:=nD bt E T.nd T.sub;obtain⟨lim,b1,b2,s⟩:=G_ (K:=K) (CL:=CL) (Y:=Y) (ns:=ns) (lim:=drawn ns 200 400) C H full;exact⟨_,_,lim,b1,b2,e,s,.inr ⟨E,rfl,rfl⟩⟩
 obtain⟨A,b3,b4,s8⟩:=Ha (K:=K) (CL:=CL) (Y:=Y) (ns:=ns) (rs:=rs) (g:=g) (ts:=ts) (O:=O) (L4:=L4) (la:=la) b1 b2;have hla:=xR (K:=K) (CL:=CL) (Y:=Y) C H b3 b4;unfold zI;refine(bN rfl).trans ?_;have e0:aM pZ [D.scr ns]=[some (.scr ns),none,none,none,none,none,none,none,none,none,none,none,none,none]:=rfl;rw[e0];unfold vR;refine bw [some (.scr ns),some (.tup [.lst (rs.map D.int),.int g]),none,none,none,none,none,none,none,none,none,none,none,none] (by simp only[aK,el]) ?_;refine bw [some (.scr ns),some (.tup [.lst (rs.map D.int),.int g]),some (.lst (ts.map bE)),none,none,none,none,none,none,none,none,none,none,none] (by simp only[aK,i0,et]) ?_;refine bw [some (.scr ns),some (.tup [.lst (rs.map D.int),.int g]),some (.lst (ts.map bE)),some (aJ O),none,none,none,none,none,none,none,none,none,none] (by simp only[aK,i0,i1,eo]) ?_;refine bw [some (.scr ns),some (.tup [.lst (rs.map D.int),.int g]),some (.lst (ts.map bE)),some (aJ O),some L4,none,none,none,none,none,none,none,none,none] (by simp only[aK,i0,i1,e4]) ?_;refine bw [some (.scr ns),some (.tup [.lst (rs.map D.int),.int g]),some (.lst (ts.map bE)),some (aJ O),some L4,some (.int (drawn ns 200 400)),none,none,none,none,none,none,none,none] (by simp only[aK,e200]) ?_;refine bw (lQ ns rs g ts O L4 (drawn ns 200 400) 0 none none none none none none none) (by simp only[aK]) ?_;refine bw _ s7 ?_;refine bw _ s8 ?_;have cg:aU (sL (ac 3)) [none] (aS 0) yes (c1 (ac 0) cD) (lQ ns rs g ts O L4 A la none none none none none none none)= .ok (aJ O):=
  bB (xs:=O) (c:=λo=>D.lst (aw o)) (g:=λo=>D.lst (aw o)) rfl (by omega) (λr h=>⟨_,rfl,rfl⟩)
 refine bw (lQ ns rs g ts O L4 A la (some (.lst [.lst (ts.map bE),aJ O])) none none none none none none) (by
  have fz:gX bG (lQ ns rs g ts O L4 A la none none none none none none none)=lQ ns rs g ts O L4 A la none none none none none none none:=rfl;rw[uY];unfold bz;rw[fz];simp only[aK,cg,els]) ?_
 refine bw (lQ ns rs g ts O L4 A la (some (.lst [.lst (ts.map bE),aJ O])) (some (.lst (rs.map D.int))) none none none none none) (by simp only[aK,L2.u9,i0,eli]) ?_;refine bw (lQ ns rs g ts O L4 A la (some (.lst [.lst (ts.map bE),aJ O])) (some (.lst (rs.map D.int))) (some (aY CL rs g)) none none none none) (by simp only[aK,i1,ein,lfl]) ?_;refine bw (lQ ns rs g ts O L4 A la (some (.lst [.lst (ts.map bE),aJ O])) (some (.lst ((rs.map D.int).set 0 (.int (rs[0] % 20+1))))) (some (aY CL rs g)) none none none none) ?_ ?_
 ·rw[BL (m:=0) (l:=rs.map D.int) (d:=.int (rs[0] % 20+1)) rfl (by
   have em:oS (.int rs[0]) (.int 20)= .ok (.int (rs[0] % 20)):=rfl;simp only[aK,ir0,em,oq,f_]) rfl (by rw[length_map];omega)]
  rfl
 generalize (rs.map D.int).set 0 (.int (rs[0] % 20+1))=L1;refine bw (lQ ns rs g ts O L4 A la (some (.lst [.lst (ts.map bE),aJ O])) (some (.lst L1.reverse)) (some (aY CL rs g)) none none none none) ?_ ?_
 ·rw[BI (j:=8) (n:=0) (p:=[]) (t:=.lst L1) (g:=sN 8) (rows:=L1) (uW rfl) rfl rfl rfl];rfl
 generalize L1.reverse=L2;simp only[aK,r2];refine eX (c:=λ(i:Nat)=>D.int (i:Int)) (xs:=List.range 2) (λ_ ρ=>∃o10 o11 I B,ρ=lH CL ns rs g ts O L4 A la L2 o10 o11 I B) ⟨none,none,none,none,rfl⟩ (λpre i post exs ρ hZ239=>?_) (λρ' hZ240=>?_)
 ·obtain⟨o10,o11,I,B,e⟩:=hZ239;subst e;refine⟨_,rfl,?_⟩
  rcases hla with ⟨E,F⟩|⟨E,Z,F⟩|⟨E,Z,F⟩
  ·obtain⟨_,nn⟩:=hc.resolve_right λz=>z.1 E;have G:=uA (K:=K) (CL:=CL) (Y:=Y) (a:=true) (b:=false) Ki.i0 Ki.i1 Ki.i2 Ki.i3 Ki.i4 (by simp) F;have nm:lX (B8 true false) (B8 true false)= .ok (.bl false):=j5 (by decide +kernel);refine⟨lH CL ns rs g ts O L4 A la L2 (some (.int (i:Int))) (some (B8 true false)) I B,?_,_,_,_,_,rfl⟩;simp only[aK,h0',h1',G,hne,nn,l5,nm]
  ·obtain⟨_,nn,hl⟩:=hc.resolve_left λz=>E z.1;rw[←hl]at Z;have G:=uA (K:=K) (CL:=CL) (Y:=Y) (a:=false) (b:=true) Ki.i5 Ki.i6 Ki.i7 Ki.i8 Ki.i9 (by simp) F;have nm:lX (B8 false true) (B8 false true)= .ok (.bl false):=j5 (by decide +kernel);refine⟨lH CL ns rs g ts O L4 A la L2 (some (.int (i:Int))) (some (B8 false true)) I B,?_,_,_,_,_,rfl⟩;simp only[aK,h0',h1',G,hne,nn,Zo Z,l5,nm]
  ·obtain⟨_,nn,hl⟩:=hc.resolve_left λz=>E z.1;rw[←hl]at Z;have full:=nD bt E T.nd T.sub;have G:=AT (K:=K) (CL:=CL) (Y:=Y) F;have X:=u4 T full (λv hv u hu=>(mJ C H v hv u hu).2) (h0 rs A);have tl39:(aP rs g ts O).reverse.length≤39:=by rw[length_reverse];exact le_trans (bX T.nd T.sub) (fO C)
   have edu:cy K CL Y [.lst (rs.map D.int),.int g,.lst (ts.map bE),aJ O,.int A]= .ok (.lst ((cF ts (ng (B4 rs g A ts O))).map aX)):=rR C H X tl39;have rl:(cF ts (ng (B4 rs g A ts O))).length≤5:=by unfold cF;rw[length_map,length_zipIdx];exact t5
   have rr:∀r∈cF ts (ng (B4 rs g A ts O)),r.length≤1000:=λr h=>by
    unfold cF at h;obtain⟨q,hq,rfl⟩:=mem_map.mp h;rw[length_map];have:=dU (C.good hq);omega
   generalize cF ts (ng (B4 rs g A ts O))=R at *;have erw:=CQ (K:=K) (CL:=CL) (Y:=Y) (p:=R) (by omega) (λr h=>by have:=rr r h;omega);have t0:∀x y,aH (.tup [x,y]) (.int 0)= .ok x:=λ_ _=>v_;have t1:∀x y,aH (.tup [x,y]) (.int 1)= .ok y:=λ_ _=>y_;have en0:lX (.lst []) (.lst [])= .ok (.bl false):=j5 (by decide +kernel);have efa:=xA (j:=11) (jr:=13) (n:=1) (c:=9) (g:=xi 11 0 (sN 11) (kI 0)) (p:=[0]) (t:=.tup [.lst (R.map aX),.lst []]) (rows:=R.map aX) (ρ:=lH CL ns rs g ts O L4 A la L2 (some (.int (i:Int))) (some (.tup [.lst (R.map aX),.lst []])) (some (.lst (R.map aX))) B) rfl rfl rfl rfl (by
    rw[all_map,all_eq_true];intro r h;show aQ (r.map D.int).length=true;exact cY (by rw[length_map];have:=rr r h;omega))
   have ex:((R.map aX).map (js 9))=(R.map λr=>r ++ [9]).map aX:=by
    rw[map_map,map_map];refine map_congr_left λr _=>?_;show D.lst (r.map D.int ++ [.int 9])=aX (r ++ [9]);unfold aX;rw[map_append];rfl
   have efa2:jv 11 13 1 9 (xi 11 0 (sN 11) (kI 0)) (lH CL ns rs g ts O L4 A la L2 (some (.int (i:Int))) (some (.tup [.lst (R.map aX),.lst []])) (some (.lst (R.map aX))) B)= .nx (lH CL ns rs g ts O L4 A la L2 (some (.int (i:Int))) (some (.tup [.lst ((R.map λr=>r ++ [9]).map aX),.lst []])) (some (.lst (R.map aX))) none):=by
    rw[efa,ex];rfl
   have ec:aU (sL (ac 12)) [none] (aS 0) yes (ae (ac 0) (cU (pC (kI 9) pN)) aW) (lH CL ns rs g ts O L4 A la L2 (some (.int (i:Int))) (some (.tup [.lst ((R.map λr=>r ++ [9]).map aX),.lst []])) (some (.lst (R.map aX))) none)= .ok (.lst ((R.map λr=>r ++ [9]).map aX)):=by
    rw[bB (xs:=R) (c:=aX) (g:=λr=>aX (r ++ [9])) (by simp only[aK]) (by omega) (λr h=>⟨_,rfl,?_⟩)]
    ·rw[map_map];rfl
    ·show ae (ac 0) (cU (pC (kI 9) pN)) aW [some (aX r)]=_;have ea:aW (aX r) (.lst [.int 9])= .ok (aX (r ++ [9])):=by
      unfold aX;rw[tB (cY (by rw[length_map,length_singleton];have:=rr r h;omega)),map_append];rfl
     simp only[aK,ea]
   refine⟨lH CL ns rs g ts O L4 A la L2 (some (.int (i:Int))) (some (.tup [.lst ((R.map λr=>r ++ [9]).map aX),.lst []])) (some (.lst (R.map aX))) none,?_,_,_,_,_,rfl⟩;simp only[aK,h0',h1',G,hne,nn,Zj Z,i0,i1,edu,t0,t1,en0,erw,efa2,ec,B9]
 ·obtain⟨o10,o11,I,B,e⟩:=hZ240;subst e;simp only[aK]
end
set_option maxHeartbeats 4000000
def DL {l:W.OpenLaw}{w:Zk}{K:Z8}{h:Y6}{mg:Z4}{fa CL HE ST TS BO BB:Z2}(X:K.In h)(G:h.Ns mainGlobals mg)(hfa:mg "law" =some (.ref fa)){t0 t1 t2 t3 t4:Tok}(aCL:W.nsIn K mainGlobals "Line" =some (some (.ref CL)))(g1:FT K "check_line" iT)(g2:FT K "_law_drawn" iQ)(g3:FT K "_law_whole" iS)(g4:FT K "_law_row" kQ)(g5:FT K "_law_rows" jG)(g6:FT K "_law_line_by" dQ)(g7:FT K "_law_trains_by" eA)(g8:FT K "_law_way" gr)(g9:FT K "_law_users" fM)(g10:FT K "_law_orders_by" bF)(g11:FT K "_law_waits" iR)(g12:FT K "_law_least" fL)(g13:FT K "_law_latest" eI)(g14:FT K "check_train" gQ)(g15:FT K "way" AH)(g16:FT K "ways" sG)(g17:FT K "check_orders" dR)(g18:FT K "waits_of" kR)(g19:FT K "held_by" j9)(g20:FT K "freed" nO)(g21:FT K "in_turn" mD)(g22:FT K "least_enters" dS)(g23:FT K "latest_enters" fm)(g24:FT K "row_of" lK)(g25:FT K "table_of" iU)(g26:FT K "whole_turn" iV)(g27:FT K "leaves_of" jI)(g28:FT K "latest" pq)(g29:FT K "_law_told" jH)(g30:FT K "law" ko)(g31:FM K CL "__init__" "Line.__init__" vB)(g32:FM K CL "runs" "Line.runs" vC)(g33:FM K CL "clear" "Line.clear" sF)(pg:W.plainGet K CL Str.empty=true)(hd:W.hasDictIn K CL=true)(po:W.plainOver K CL=true)(sa:W.findIn K (.ref CL) "__setattr__" =some (some (.builtin "object.__setattr__")))(mk:W.makesIn K CL=true)(kc:W.keepIn K (.ref CL)=true)(nM:W.findIn K (.ref CL) "minutes" =some none)(nG:W.findIn K (.ref CL) "gap" =some none)(z0:W.nsIn K mainGlobals "len" =some none)(z1:W.nsIn K mainGlobals "list" =some none)(z2:W.nsIn K mainGlobals "range" =some none)(z3:W.nsIn K mainGlobals "min" =some none)(z4:W.nsIn K mainGlobals "max" =some none)(z5:W.nsIn K mainGlobals "tuple" =some none)(z6:W.nsIn K mainGlobals "sorted" =some none)(z7:W.nsIn K mainGlobals "enumerate" =some none)(z8:W.nsIn K mainGlobals "zip" =some none)(z9:W.nsIn K mainGlobals "isinstance" =some none)(z10:W.nsIn K mainGlobals "int" =some none)(z11:W.nsIn K mainGlobals "bool" =some none)(z12:W.nsIn K mainGlobals "ValueError" =some none)(z13:W.nsIn K mainGlobals "reversed" =some none)(w0:W.nsIn K mainGlobals "MOST_STRETCHES" =some (some (.int 5 t0)))(w1:W.nsIn K mainGlobals "MOST_RUN" =some (some (.int 20 t1)))(w2:W.nsIn K mainGlobals "MOST_CLEAR" =some (some (.int 5 t2)))(w3:W.nsIn K mainGlobals "MOST_TRAINS" =some (some (.int 5 t3)))(w4:W.nsIn K mainGlobals "MOST_READY" =some (some (.int 60 t4)))(aHE:W.nsIn K mainGlobals "HaltError" =some (some (.ref HE)))(aST:W.nsIn K mainGlobals "Sticks" =some (some (.ref ST)))(aTS:W.nsIn K mainGlobals "TooSoon" =some (some (.ref TS)))(aBO:W.nsIn K mainGlobals "BadOrders" =some (some (.ref BO)))(aBB:W.nsIn K mainGlobals "BadTable" =some (some (.ref BB)))(eST:ExIn K ST)(gaST:W.findIn K (.ref ST) "__getattribute__" =some (some (.builtin "BaseException.__getattribute__")))(ghST:W.findIn K (.ref ST) "__getattr__" =some none)(haST:W.findIn K (.ref ST) "__class__" =some (some (.builtin "object.__class__")))(hmST:W.mroIn K ST (.type "object")=some true)(hbST:W.mroIn K ST (.type "BaseException")=some true)(rHST:W.mroIn K ST (.ref HE)=some true)(eTS:ExIn K TS)(gaTS:W.findIn K (.ref TS) "__getattribute__" =some (some (.builtin "BaseException.__getattribute__")))(ghTS:W.findIn K (.ref TS) "__getattr__" =some none)(haTS:W.findIn K (.ref TS) "__class__" =some (some (.builtin "object.__class__")))(hmTS:W.mroIn K TS (.type "object")=some true)(hbTS:W.mroIn K TS (.type "BaseException")=some true)(rHTS:W.mroIn K TS (.ref HE)=some true)(rBH:W.mroIn K HE (.type "BaseException")=some true)(sp:W.specialIn K (.builtin "object.__class__") "__get__" =some (some (.builtin "getset_descriptor.__get__")))(tk:W.takesIn K (.builtin "object.__class__")=some true)(hcHE:(W.clsIn K HE).isSome=true)(htHE:W.typeIn K (.ref HE)=some (.type "type"))(hcST:(W.clsIn K ST).isSome=true)(htST:W.typeIn K (.ref ST)=some (.type "type"))(hcTS:(W.clsIn K TS).isSome=true)(htTS:W.typeIn K (.ref TS)=some (.type "type"))(hcBO:(W.clsIn K BO).isSome=true)(htBO:W.typeIn K (.ref BO)=some (.type "type"))(hcBB:(W.clsIn K BB).isSome=true)(htBB:W.typeIn K (.ref BB)=some (.type "type"))(rSTTS:W.mroIn K ST (.ref TS)=some false)(nSTTS:ST≠TS)(rVST:W.mroIn K ST (.type "ValueError")=some true)(rSTBO:W.mroIn K ST (.ref BO)=some false)(nSTBO:ST≠BO)(rSTBB:W.mroIn K ST (.ref BB)=some false)(nSTBB:ST≠BB)(rTSST:W.mroIn K TS (.ref ST)=some false)(nTSST:TS≠ST)(rVTS:W.mroIn K TS (.type "ValueError")=some true)(rTSBO:W.mroIn K TS (.ref BO)=some false)(nTSBO:TS≠BO)(rTSBB:W.mroIn K TS (.ref BB)=some false)(nTSBB:TS≠BB) :
  ∃fd:FuncData,(∀(s:Z3) (v:Value),BindsTo s fd ⟨[v],[]⟩ [("script",v)])∧∀base:Heap,K.In base→base.Ns mainGlobals mg→FnOk l.prog w K mg base (CXF l.prog w) 7 fa fd ["script"] (w6 K):=by
 obtain⟨f,e,m,t,c,k,d⟩:=g30;cases hfa.symm.trans (W.mg_of X G e)
 let Y:Ad:=⟨HE,ST,TS,BO,BB⟩
 have T:Txt K mg CL Y:={mgL:=W.mg_of X G aCL,cl:=⟨pg,hd,po,sa⟩,nM:=nM,nG:=nG,b_len:=W.mg_none_of X G z0,b_list:=W.mg_none_of X G z1,b_range:=W.mg_none_of X G z2,b_min:=W.mg_none_of X G z3,b_max:=W.mg_none_of X G z4,b_tuple:=W.mg_none_of X G z5,b_sorted:=W.mg_none_of X G z6,b_enumerate:=W.mg_none_of X G z7,b_zip:=W.mg_none_of X G z8,b_isinstance:=W.mg_none_of X G z9,b_int:=W.mg_none_of X G z10,b_bool:=W.mg_none_of X G z11,b_ValueError:=W.mg_none_of X G z12,b_reversed:=W.mg_none_of X G z13,mS:=⟨_,W.mg_of X G w0⟩,mR:=⟨_,W.mg_of X G w1⟩,mC:=⟨_,W.mg_of X G w2⟩,mT:=⟨_,W.mg_of X G w3⟩,mY:=⟨_,W.mg_of X G w4⟩,gHE:=W.mg_of X G aHE,xST:=⟨W.mg_of X G aST,eST⟩,kST:=⟨gaST,ghST,haST,sp,tk,hmST,hbST,hcST⟩,gST:=W.mg_of X G aST,xTS:=⟨W.mg_of X G aTS,eTS⟩,kTS:=⟨gaTS,ghTS,haTS,sp,tk,hmTS,hbTS,hcTS⟩,gTS:=W.mg_of X G aTS,gBO:=W.mg_of X G aBO,gBB:=W.mg_of X G aBB,hs:=λc hc=>(mem_cons.mp hc).elim (λe=>by subst e;exact⟨wd rBH hcHE htHE rHST,⟨gaST,ghST,haST,sp,tk,hmST,hbST,hcST⟩⟩) λhc=>(mem_cons.mp hc).elim (λe=>by subst e;exact⟨wd rBH hcHE htHE rHTS,⟨gaTS,ghTS,haTS,sp,tk,hmTS,hbTS,hcTS⟩⟩) λhc=>absurd hc (by simp)};obtain⟨f31,a31,F31⟩:=g31;obtain⟨d31,e31⟩:=F31.mk1;obtain⟨f32,a32,F32⟩:=g32;obtain⟨d32,e32⟩:=F32.mk1;obtain⟨f33,a33,F33⟩:=g33;obtain⟨d33,e33⟩:=F33.mk1;refine⟨W.fnOf "law" "law" (iF ko) (da ko) (aj ko) .none .none .none (.str m t) none (.ref c) .none,λs v=>.of_eq rfl,λbase _ _=>?_⟩;have C_runs:CalM l.prog w K mg base CL "runs" 1 (g0 CL):=⟨T.cl,f32,_,⟨a32,F32.fn,F32.kp⟩,Ch e32 T,e32.binds λ_ _ _ _ _ _=>len1 λ_=>rfl⟩;have C_clear:CalM l.prog w K mg base CL "clear" 1 (kM CL):=⟨T.cl,f33,_,⟨a33,F33.fn,F33.kp⟩,zO e33 T,e33.binds λ_ _ _ _ _ _=>len1 λ_=>rfl⟩;have C_check_line:=iB (P:=l.prog) (w:=w) (base:=base) T (lM X G g1 λ_ _ _ _ _ _=>len2 λ_ _=>rfl) ;have C_Line:CalI l.prog w K mg base "Line" CL 2 ["self","runs","clear"] (kh K CL Y):=⟨zH,T.mgL,f31,_,⟨mk,a31,F31.fn,kc⟩,Cf e31 T C_check_line,e31.binds λ_ _ _ _ _ _=>tT λ_ _ _=>rfl⟩;have C__law_drawn:=aB (P:=l.prog) (w:=w) (base:=base) T (lM X G g2 λ_ _ _ _ _ _=>tT λ_ _ _=>rfl) ;have C__law_whole:=iA (P:=l.prog) (w:=w) (base:=base) T (lM X G g3 λ_ _ _ _ _ _=>len1 λ_=>rfl) ;have C__law_row:=ky (P:=l.prog) (w:=w) (base:=base) T (lM X G g4 λ_ _ _ _ _ _=>len2 λ_ _=>rfl) C__law_whole;have C__law_rows:=jj (P:=l.prog) (w:=w) (base:=base) T (lM X G g5 λ_ _ _ _ _ _=>len2 λ_ _=>rfl) C__law_row;have C__law_line_by:=fZ (P:=l.prog) (w:=w) (base:=base) T (lM X G g6 λ_ _ _ _ _ _=>len2 λ_ _=>rfl) C__law_drawn;have C__law_trains_by:=dZ (P:=l.prog) (w:=w) (base:=base) T (lM X G g7 λ_ _ _ _ _ _=>zF λ_ _ _ _=>rfl) C__law_drawn;have C__law_way:=bd (P:=l.prog) (w:=w) (base:=base) T (lM X G g8 λ_ _ _ _ _ _=>len1 λ_=>rfl) ;have C__law_users:=iz (P:=l.prog) (w:=w) (base:=base) T (lM X G g9 λ_ _ _ _ _ _=>len2 λ_ _=>rfl) C__law_way;have C__law_orders_by:=dY (P:=l.prog) (w:=w) (base:=base) T (lM X G g10 λ_ _ _ _ _ _=>GB λ_ _ _ _ _=>rfl) C__law_drawn C__law_users C__law_way;have C__law_waits:=dH (P:=l.prog) (w:=w) (base:=base) T (lM X G g11 λ_ _ _ _ _ _=>tT λ_ _ _=>rfl) C__law_way;have C__law_least:=iw (P:=l.prog) (w:=w) (base:=base) T (lM X G g12 λ_ _ _ _ _ _=>zF λ_ _ _ _=>rfl) C__law_waits C__law_way;have C__law_latest:=gI (P:=l.prog) (w:=w) (base:=base) T (lM X G g13 λ_ _ _ _ _ _=>GB λ_ _ _ _ _=>rfl) C__law_waits C__law_way;have C_check_train:=gJ (P:=l.prog) (w:=w) (base:=base) T (lM X G g14 λ_ _ _ _ _ _=>len2 λ_ _=>rfl)  C_runs;have C_way:=yM (P:=l.prog) (w:=w) (base:=base) T (lM X G g15 λ_ _ _ _ _ _=>len2 λ_ _=>rfl) C_check_train;have C_ways:=uO (P:=l.prog) (w:=w) (base:=base) T (lM X G g16 λ_ _ _ _ _ _=>len2 λ_ _=>rfl) C_way;have C_check_orders:=f6 (P:=l.prog) (w:=w) (base:=base) T (lM X G g17 λ_ _ _ _ _ _=>tT λ_ _ _=>rfl) ;have C_waits_of:=kA (P:=l.prog) (w:=w) (base:=base) T (lM X G g18 λ_ _ _ _ _ _=>tT λ_ _ _=>rfl) C_check_orders C_runs C_clear;have C_held_by:=lZ (P:=l.prog) (w:=w) (base:=base) T (lM X G g19 λ_ _ _ _ _ _=>tT λ_ _ _=>rfl) ;have C_freed:=nu (P:=l.prog) (w:=w) (base:=base) T (lM X G g20 λ_ _ _ _ _ _=>len2 λ_ _=>rfl) C_held_by;have C_in_turn:=l0 (P:=l.prog) (w:=w) (base:=base) T (lM X G g21 λ_ _ _ _ _ _=>len1 λ_=>rfl) C_freed;have C_least_enters:=f7 (P:=l.prog) (w:=w) (base:=base) T (lM X G g22 λ_ _ _ _ _ _=>tT λ_ _ _=>rfl) ;have C_latest_enters:=e7 (P:=l.prog) (w:=w) (base:=base) T (lM X G g23 λ_ _ _ _ _ _=>zF λ_ _ _ _=>rfl)  C_runs;have C_row_of:=n_ (P:=l.prog) (w:=w) (base:=base) T (lM X G g24 λ_ _ _ _ _ _=>tT λ_ _ _=>rfl) ;have C_table_of:=kz (P:=l.prog) (w:=w) (base:=base) T (lM X G g25 λ_ _ _ _ _ _=>len2 λ_ _=>rfl) C_row_of;have C_whole_turn:=iC (P:=l.prog) (w:=w) (base:=base) T (lM X G g26 λ_ _ _ _ _ _=>len1 λ_=>rfl) C_in_turn;have C_leaves_of:=jl (P:=l.prog) (w:=w) (base:=base) T (lM X G g27 λ_ _ _ _ _ _=>len2 λ_ _=>rfl)  C_runs;have C_latest:=nZ (P:=l.prog) (w:=w) (base:=base) T (lM X G g28 λ_ _ _ _ _ _=>zF λ_ _ _ _=>rfl) C_latest_enters C_least_enters C_leaves_of C_table_of C_waits_of C_ways C_whole_turn;have C__law_told:=jk (P:=l.prog) (w:=w) (base:=base) T (lM X G g29 λ_ _ _ _ _ _=>zF λ_ _ _ _=>rfl) C_latest;exact Cg (F4 (P:=l.prog) (w:=w) (base:=base) T (zj (st:=ko) k d (rM k)) C__law_drawn C__law_latest C__law_least C__law_line_by C__law_orders_by C__law_rows C__law_told C__law_trains_by C__law_way C_Line) λns hns=>K07.zB (Y:=Y) ⟨lr,(jX nSTTS hcTS htTS rSTTS),(zx (by decide +kernel) rVST),(jX nSTBO hcBO htBO rSTBO),(jX nSTBB hcBB htBB rSTBB),(jX nTSST hcST htST rTSST),lr,(zx (by decide +kernel) rVTS),(jX nTSBO hcBO htBO rTSBO),(jX nTSBB hcBB htBB rTSBB)⟩ hns
def kc (x y:Yr)(t:Nat)(l n f:Int)(r:Nat)(w m:Int):Obj:=⟨.type "code",none,.fields #[.str x t,.str y (t+1),.str "/claim/cut.py" (t+2),.int l 0,.int n 0,.int 0 0,.int 0 0,.int f 0,.ref r,.bool true,.int w 0,.ref (r+1),.none,.ref (r+2),.ref (r+3),.ref (r+4),.int m 0,.int l 0,.str "/claim/cut.py" (m.toNat+1)],#[]⟩
def kn (x y:Yr)(t:Nat)(l n f:Int)(r:Nat)(w m:Int):Obj:=⟨.type "code",none,.fields #[.str x t,.str y (t+1),.str "/claim/cut.py" (t+2),.int l 0,.int n 0,.int 0 0,.int 0 0,.int f 0,.ref r,.bool true,.int w 0,.ref (r+1),.none,.none,.none,.ref (r+2),.int m 0,.int l 0,.str "/claim/cut.py" (m.toNat+1)],#[]⟩
def kd (P:Params)(l:Y9)(n:Nat):Obj:=⟨.type "dict",none,.dict (l.map λe=>⟨PyData.keyHash P e.1,.str e.1 e.2.1,e.2.2⟩).toArray n,#[]⟩
def Gq (t:Y9):List (Str×Nat×Value):=("__name__",165,.str "law_haltline_k07_latest_tables" 511)::("__doc__",166,.none)::("__package__",167,.none)::("__loader__",168,.builtin "__main__.__loader__#opaque")::("__spec__",169,.none)::("__annotations__",170,.ref 6)::("__builtins__",171,.ref 4)::t
def Gr (t:Y9):List (Str×Nat×Value):=("__file__",173,.str "/claim/cut.py" 172)::("__cached__",174,.none)::("HaltError",206,.ref 24)::("BadLine",222,.ref 37)::("BadTrains",238,.ref 49)::("BadOrders",254,.ref 61)::("BadTable",270,.ref 73)::t
def Gs (t:Y9):List (Str×Nat×Value):=("Sticks",286,.ref 85)::("TooSoon",302,.ref 97)::("MOST_STRETCHES",306,.int 5 305)::("MOST_RUN",308,.int 20 307)::("MOST_CLEAR",310,.int 5 309)::("MOST_TRAINS",312,.int 5 311)::("MOST_READY",314,.int 60 313)::t
def Gu (t:Y9):List (Str×Nat×Value):=("Line",359,.ref 130)::("check_line",368,.ref 141)::("way",378,.ref 148)::("check_train",389,.ref 155)::("ways",395,.ref 160)::("waits_of",415,.ref 167)::("check_orders",421,.ref 172)::t
def Gv (t:Y9):List (Str×Nat×Value):=("in_turn",430,.ref 179)::("freed",436,.ref 184)::("held_by",442,.ref 189)::("latest",459,.ref 196)::("whole_turn",467,.ref 203)::("least_enters",473,.ref 208)::("latest_enters",487,.ref 215)::t
def Gw (t:Y9):List (Str×Nat×Value):=("leaves_of",498,.ref 222)::("table_of",504,.ref 227)::("row_of",510,.ref 232)::("_law_drawn",523,.ref 239)::("_law_whole",530,.ref 246)::("_law_row",539,.ref 253)::("_law_rows",548,.ref 260)::t
def Gy (t:Y9):List (Str×Nat×Value):=("_law_line_by",554,.ref 265)::("_law_trains_by",568,.ref 272)::("_law_way",574,.ref 277)::("_law_users",580,.ref 282)::("_law_orders_by",586,.ref 287)::("_law_waits",600,.ref 294)::("_law_least",606,.ref 299)::t
def Gz (t:Y9):List (Str×Nat×Value):=("_law_told",619,.ref 306)::("_law_latest",625,.ref 311)::("law",631,.ref 316)::t
def Dh (P:Params) :Obj×Obj×Obj×Obj×Obj×Obj×Obj×Obj:=(kd P (Gq (Gr (Gs (Gu (Gv (Gw (Gy (Gz [])))))))) 52,kd P (("__module__",196,.str "haltline.errors" 187)::("__firstlineno__",200,.int 2 199)::("__static_attributes__",201,.ref 22)::("__weakref__",203,.ref 25)::("__doc__",204,.none)::[]) 3,⟨.type "type",none,.cls ⟨"HaltError",[.type "ValueError"],[.ref 24,.type "ValueError",.type "Exception",.type "BaseException",.type "object"],23,"HaltError",true,[],[.ref 37,.ref 49,.ref 61,.ref 73,.ref 85,.ref 97],false,none,false⟩,#[some (.ref 15),none,some (.str "HaltError" 189),some (.str "HaltError" 197),some (.builtin "ValueError.__new__"),some (.bool true)]⟩,kd P (("__module__",214,.str "haltline.errors" 187)::("__firstlineno__",218,.int 4 217)::("__static_attributes__",219,.ref 35)::("__doc__",220,.none)::[]) 2,⟨.type "type",none,.cls ⟨"BadLine",[.ref 24],[.ref 37,.ref 24,.type "ValueError",.type "Exception",.type "BaseException",.type "object"],36,"BadLine",true,[],[],false,none,false⟩,#[some (.ref 28),none,some (.str "BadLine" 207),some (.str "BadLine" 215),some (.builtin "ValueError.__new__"),some (.bool true)]⟩,kd P (("__module__",230,.str "haltline.errors" 187)::("__firstlineno__",234,.int 6 233)::("__static_attributes__",235,.ref 47)::("__doc__",236,.none)::[]) 2,⟨.type "type",none,.cls ⟨"BadTrains",[.ref 24],[.ref 49,.ref 24,.type "ValueError",.type "Exception",.type "BaseException",.type "object"],48,"BadTrains",true,[],[],false,none,false⟩,#[some (.ref 40),none,some (.str "BadTrains" 223),some (.str "BadTrains" 231),some (.builtin "ValueError.__new__"),some (.bool true)]⟩,kd P (("__module__",246,.str "haltline.errors" 187)::("__firstlineno__",250,.int 8 249)::("__static_attributes__",251,.ref 59)::("__doc__",252,.none)::[]) 2)
def Di (P:Params) :Obj×Obj×Obj×Obj×Obj×Obj×Obj×Obj:=(⟨.type "type",none,.cls ⟨"BadOrders",[.ref 24],[.ref 61,.ref 24,.type "ValueError",.type "Exception",.type "BaseException",.type "object"],60,"BadOrders",true,[],[],false,none,false⟩,#[some (.ref 52),none,some (.str "BadOrders" 239),some (.str "BadOrders" 247),some (.builtin "ValueError.__new__"),some (.bool true)]⟩,kd P (("__module__",262,.str "haltline.errors" 187)::("__firstlineno__",266,.int 10 265)::("__static_attributes__",267,.ref 71)::("__doc__",268,.none)::[]) 2,⟨.type "type",none,.cls ⟨"BadTable",[.ref 24],[.ref 73,.ref 24,.type "ValueError",.type "Exception",.type "BaseException",.type "object"],72,"BadTable",true,[],[],false,none,false⟩,#[some (.ref 64),none,some (.str "BadTable" 255),some (.str "BadTable" 263),some (.builtin "ValueError.__new__"),some (.bool true)]⟩,kd P (("__module__",278,.str "haltline.errors" 187)::("__firstlineno__",282,.int 12 281)::("__static_attributes__",283,.ref 83)::("__doc__",284,.none)::[]) 2,⟨.type "type",none,.cls ⟨"Sticks",[.ref 24],[.ref 85,.ref 24,.type "ValueError",.type "Exception",.type "BaseException",.type "object"],84,"Sticks",true,[],[],false,none,false⟩,#[some (.ref 76),none,some (.str "Sticks" 271),some (.str "Sticks" 279),some (.builtin "ValueError.__new__"),some (.bool true)]⟩,kd P (("__module__",294,.str "haltline.errors" 187)::("__firstlineno__",298,.int 14 297)::("__static_attributes__",299,.ref 95)::("__doc__",300,.none)::[]) 2,⟨.type "type",none,.cls ⟨"TooSoon",[.ref 24],[.ref 97,.ref 24,.type "ValueError",.type "Exception",.type "BaseException",.type "object"],96,"TooSoon",true,[],[],false,none,false⟩,#[some (.ref 88),none,some (.str "TooSoon" 287),some (.str "TooSoon" 295),some (.builtin "ValueError.__new__"),some (.bool true)]⟩,kc "__init__" "Line.__init__" 327 24 3 3 107 181 333)
def Dj (P:Params) :Obj×Obj×Obj×Obj×Obj×Obj×Obj×Obj:=(kf "__init__" "Line.__init__" (jV (top 14) 0) "haltline.line" 303 112,kc "runs" "Line.runs" 336 29 1 3 114 181 340,kf "runs" "Line.runs" (jV (top 14) 1) "haltline.line" 303 119,kc "clear" "Line.clear" 343 32 1 3 121 181 347,kf "clear" "Line.clear" (jV (top 14) 2) "haltline.line" 303 126,kd P (("__module__",322,.str "haltline.line" 303)::("__firstlineno__",326,.int 22 325)::("__init__",335,.ref 113)::("runs",342,.ref 120)::("clear",349,.ref 127)::("__static_attributes__",352,.ref 128)::("__dict__",354,.ref 131)::("__weakref__",356,.ref 132)::("__doc__",357,.none)::[]) 4,⟨.type "type",none,.cls ⟨"Line",[.type "object"],[.ref 130,.type "object"],129,"Line",true,[],[],false,none,false⟩,#[none,none,some (.str "Line" 315),some (.str "Line" 323),some (.builtin "object.__new__"),some (.bool true)]⟩,kc "check_line" "check_line" 360 34 2 3 135 181 366)
def Dk (P:Params) :Obj×Obj×Obj×Obj×Obj×Obj×Obj×Obj:=(kf "check_line" "check_line" (top 15) "haltline.line" 303 140,kc "way" "way" 369 42 2 3 142 181 376,kf "way" "way" (top 16) "haltline.line" 303 147,kc "check_train" "check_train" 379 49 2 3 149 181 387,kf "check_train" "check_train" (top 17) "haltline.line" 303 154,kn "ways" "ways" 390 61 2 3 156 181 393,kf "ways" "ways" (top 18) "haltline.line" 303 159,kc "waits_of" "waits_of" 398 66 3 3 161 181 413)
def Dl (P:Params) :Obj×Obj×Obj×Obj×Obj×Obj×Obj×Obj:=(kf "waits_of" "waits_of" (top 20) "haltline.waits" 396 166,kn "check_orders" "check_orders" 416 80 3 3 168 181 419,kf "check_orders" "check_orders" (top 21) "haltline.waits" 396 171,kc "in_turn" "in_turn" 422 87 1 3 173 181 428,kf "in_turn" "in_turn" (top 22) "haltline.waits" 396 178,kn "freed" "freed" 431 94 2 3 180 181 434,kf "freed" "freed" (top 23) "haltline.waits" 396 183,kn "held_by" "held_by" 437 96 3 3 185 181 440)
def Dm (P:Params) :Obj×Obj×Obj×Obj×Obj×Obj×Obj×Obj:=(kf "held_by" "held_by" (top 24) "haltline.waits" 396 188,kc "latest" "latest" 445 99 4 3 190 181 457,kf "latest" "latest" (top 26) "haltline.times" 443 195,kc "whole_turn" "whole_turn" 460 108 1 3 197 181 465,kf "whole_turn" "whole_turn" (top 27) "haltline.times" 443 202,kn "least_enters" "least_enters" 468 113 3 3 204 181 471,kf "least_enters" "least_enters" (top 28) "haltline.times" 443 207,kc "latest_enters" "latest_enters" 474 119 4 3 209 181 485)
def kk6 (P:Params) :Obj×Obj×Obj×Obj×Obj×Obj×Obj×Obj:=(kf "latest_enters" "latest_enters" (top 29) "haltline.times" 443 214,kc "leaves_of" "leaves_of" 488 128 2 3 216 181 496,kf "leaves_of" "leaves_of" (top 30) "haltline.times" 443 221,kn "table_of" "table_of" 499 134 2 3 223 181 502,kf "table_of" "table_of" (top 31) "haltline.times" 443 226,kn "row_of" "row_of" 505 136 3 3 228 181 508,kf "row_of" "row_of" (top 32) "haltline.times" 443 231,kc "_law_drawn" "_law_drawn" 513 139 3 3 233 181 521)
def Do (P:Params) :Obj×Obj×Obj×Obj×Obj×Obj×Obj×Obj:=(kf "_law_drawn" "_law_drawn" (top 34) "law_haltline_k07_latest_tables" 511 238,kc "_law_whole" "_law_whole" 524 146 1 3 240 181 528,kf "_law_whole" "_law_whole" (top 35) "law_haltline_k07_latest_tables" 511 245,kc "_law_row" "_law_row" 531 148 2 3 247 181 537,kf "_law_row" "_law_row" (top 36) "law_haltline_k07_latest_tables" 511 252,kc "_law_rows" "_law_rows" 540 155 2 3 254 181 546,kf "_law_rows" "_law_rows" (top 37) "law_haltline_k07_latest_tables" 511 259,kn "_law_line_by" "_law_line_by" 549 162 2 3 261 181 552)
def Dp (P:Params) :Obj×Obj×Obj×Obj×Obj×Obj×Obj×Obj:=(kf "_law_line_by" "_law_line_by" (top 38) "law_haltline_k07_latest_tables" 511 264,kc "_law_trains_by" "_law_trains_by" 555 166 4 3 266 181 566,kf "_law_trains_by" "_law_trains_by" (top 39) "law_haltline_k07_latest_tables" 511 271,kn "_law_way" "_law_way" 569 176 1 3 273 181 572,kf "_law_way" "_law_way" (top 40) "law_haltline_k07_latest_tables" 511 276,kn "_law_users" "_law_users" 575 180 2 3 278 181 578,kf "_law_users" "_law_users" (top 41) "law_haltline_k07_latest_tables" 511 281,kn "_law_orders_by" "_law_orders_by" 581 182 5 3 283 181 584)
def Dq (P:Params) :Obj×Obj×Obj×Obj×Obj×Obj×Obj×Obj:=(kf "_law_orders_by" "_law_orders_by" (top 42) "law_haltline_k07_latest_tables" 511 286,kc "_law_waits" "_law_waits" 587 197 3 3 288 181 598,kf "_law_waits" "_law_waits" (top 43) "law_haltline_k07_latest_tables" 511 293,kn "_law_least" "_law_least" 601 208 4 3 295 181 604,kf "_law_least" "_law_least" (top 44) "law_haltline_k07_latest_tables" 511 298,kc "_law_told" "_law_told" 607 226 4 3 300 181 617,kf "_law_told" "_law_told" (top 45) "law_haltline_k07_latest_tables" 511 305,kn "_law_latest" "_law_latest" 620 233 5 3 307 181 623)
def EG (P:Params) :Obj×Obj×Obj:=(kf "_law_latest" "_law_latest" (top 46) "law_haltline_k07_latest_tables" 511 310,kn "law" "law" 626 250 1 3 312 181 629,kf "law" "law" (top 47) "law_haltline_k07_latest_tables" 511 315)
def KK (P:Params):W.Frag:=
 (nat_lit 3,(Dh P).1) ::
 (nat_lit 23,(Dh P).2.1) ::
 (nat_lit 24,(Dh P).2.2.1) ::
 (nat_lit 36,(Dh P).2.2.2.1) ::
 (nat_lit 37,(Dh P).2.2.2.2.1) ::
 (nat_lit 48,(Dh P).2.2.2.2.2.1) ::
 (nat_lit 49,(Dh P).2.2.2.2.2.2.1) ::
 (nat_lit 60,(Dh P).2.2.2.2.2.2.2) ::
 (nat_lit 61,(Di P).1) ::
 (nat_lit 72,(Di P).2.1) ::
 (nat_lit 73,(Di P).2.2.1) ::
 (nat_lit 84,(Di P).2.2.2.1) ::
 (nat_lit 85,(Di P).2.2.2.2.1) ::
 (nat_lit 96,(Di P).2.2.2.2.2.1) ::
 (nat_lit 97,(Di P).2.2.2.2.2.2.1) ::
 (nat_lit 112,(Di P).2.2.2.2.2.2.2) ::
 (nat_lit 113,(Dj P).1) ::
 (nat_lit 119,(Dj P).2.1) ::
 (nat_lit 120,(Dj P).2.2.1) ::
 (nat_lit 126,(Dj P).2.2.2.1) ::
 (nat_lit 127,(Dj P).2.2.2.2.1) ::
 (nat_lit 129,(Dj P).2.2.2.2.2.1) ::
 (nat_lit 130,(Dj P).2.2.2.2.2.2.1) ::
 (nat_lit 140,(Dj P).2.2.2.2.2.2.2) ::
 (nat_lit 141,(Dk P).1) ::
 (nat_lit 147,(Dk P).2.1) ::
 (nat_lit 148,(Dk P).2.2.1) ::
 (nat_lit 154,(Dk P).2.2.2.1) ::
 (nat_lit 155,(Dk P).2.2.2.2.1) ::
 (nat_lit 159,(Dk P).2.2.2.2.2.1) ::
 (nat_lit 160,(Dk P).2.2.2.2.2.2.1) ::
 (nat_lit 166,(Dk P).2.2.2.2.2.2.2) ::
 (nat_lit 167,(Dl P).1) ::
 (nat_lit 171,(Dl P).2.1) ::
 (nat_lit 172,(Dl P).2.2.1) ::
 (nat_lit 178,(Dl P).2.2.2.1) ::
 (nat_lit 179,(Dl P).2.2.2.2.1) ::
 (nat_lit 183,(Dl P).2.2.2.2.2.1) ::
 (nat_lit 184,(Dl P).2.2.2.2.2.2.1) ::
 (nat_lit 188,(Dl P).2.2.2.2.2.2.2) ::
 (nat_lit 189,(Dm P).1) ::
 (nat_lit 195,(Dm P).2.1) ::
 (nat_lit 196,(Dm P).2.2.1) ::
 (nat_lit 202,(Dm P).2.2.2.1) ::
 (nat_lit 203,(Dm P).2.2.2.2.1) ::
 (nat_lit 207,(Dm P).2.2.2.2.2.1) ::
 (nat_lit 208,(Dm P).2.2.2.2.2.2.1) ::
 (nat_lit 214,(Dm P).2.2.2.2.2.2.2) ::
 (nat_lit 215,(kk6 P).1) ::
 (nat_lit 221,(kk6 P).2.1) ::
 (nat_lit 222,(kk6 P).2.2.1) ::
 (nat_lit 226,(kk6 P).2.2.2.1) ::
 (nat_lit 227,(kk6 P).2.2.2.2.1) ::
 (nat_lit 231,(kk6 P).2.2.2.2.2.1) ::
 (nat_lit 232,(kk6 P).2.2.2.2.2.2.1) ::
 (nat_lit 238,(kk6 P).2.2.2.2.2.2.2) ::
 (nat_lit 239,(Do P).1) ::
 (nat_lit 245,(Do P).2.1) ::
 (nat_lit 246,(Do P).2.2.1) ::
 (nat_lit 252,(Do P).2.2.2.1) ::
 (nat_lit 253,(Do P).2.2.2.2.1) ::
 (nat_lit 259,(Do P).2.2.2.2.2.1) ::
 (nat_lit 260,(Do P).2.2.2.2.2.2.1) ::
 (nat_lit 264,(Do P).2.2.2.2.2.2.2) ::
 (nat_lit 265,(Dp P).1) ::
 (nat_lit 271,(Dp P).2.1) ::
 (nat_lit 272,(Dp P).2.2.1) ::
 (nat_lit 276,(Dp P).2.2.2.1) ::
 (nat_lit 277,(Dp P).2.2.2.2.1) ::
 (nat_lit 281,(Dp P).2.2.2.2.2.1) ::
 (nat_lit 282,(Dp P).2.2.2.2.2.2.1) ::
 (nat_lit 286,(Dp P).2.2.2.2.2.2.2) ::
 (nat_lit 287,(Dq P).1) ::
 (nat_lit 293,(Dq P).2.1) ::
 (nat_lit 294,(Dq P).2.2.1) ::
 (nat_lit 298,(Dq P).2.2.2.1) ::
 (nat_lit 299,(Dq P).2.2.2.2.1) ::
 (nat_lit 305,(Dq P).2.2.2.2.2.1) ::
 (nat_lit 306,(Dq P).2.2.2.2.2.2.1) ::
 (nat_lit 310,(Dq P).2.2.2.2.2.2.2) ::
 (nat_lit 311,(EG P).1) ::
 (nat_lit 315,(EG P).2.1) ::
 (nat_lit 316,(EG P).2.2) ::
 []
end K07
def PySem.W.Fast.tw14136569693071809809 := 0
def PySem.W.Fast.tw13140766182851225965 := 0
def PySem.W.Fast.tw16424654445848304311 := 0
def PySem.W.Fast.tw17838682290646563931 := 0
def PySem.W.Fast.tw17026972472501232354 := 0
def PySem.W.Fast.tw11837141108498517321 := 0
def PySem.W.Fast.tw7405567777343633091 := 0
def PySem.W.Fast.tw6829101884272472303 := 0
def PySem.W.Fast.tw4328623162935232840 := 0
def PySem.W.Fast.tw904067974337864481 := 0
def PySem.W.Fast.tw8648177361776413953 := 0
def PySem.W.Fast.tw2469332280763403124 := 0
def PySem.W.Fast.tw15534202289178449820 := 0
def PySem.W.Fast.tw4286022262946211808 := 0
def PySem.W.Fast.tw940925605487776467 := 0
def PySem.W.Fast.tw10688968349867850414 := 0
def PySem.W.Fast.tw5408873418628660058 := 0
def PySem.W.Fast.tw8321155043627612305 := 0
def PySem.W.Fast.tw4255783557894644613 := 0
def PySem.W.Fast.tw361171323354889532 := 0
def PySem.W.Fast.tw12486434118725994892 := 0
def PySem.W.Fast.tw18090779517232902478 := 0
def PySem.W.Fast.tw2257047957057297050 := 0
open PySem PySem.W PyProof.Rows
set_option maxRecDepth 100000 in
set_option maxHeartbeats 0 in
theorem PySem.Challenge.cw_haltline_k07_latest_tables_holds : PySem.Challenge.rw_haltline_k07_latest_tables.Holds := by
 w_on;o_law;(o_head (kHook K07.KK (3::23::24::36::37::48::49::60::61::72::73::84::85::96::97::112::113::119::120::126::127::129::130::140::141::147::148::154::155::159::160::166::167::171::172::178::179::183::184::188::189::195::196::202::203::207::208::214::215::221::222::226::227::231::232::238::239::245::246::252::253::259::260::264::265::271::272::276::277::281::282::286::287::293::294::298::299::305::306::310::311::315::316::[]) (λ_=>by kernel_rfl)));(case hw=>w_witness2)
 k_fill
 refine L2.zC 7 (l:=PySem.Challenge.rw_haltline_k07_latest_tables) ⟨rfl,by decide,by decide⟩ rfl rfl (λw h Y=>PySem.W.kIn_of Y) ?F
 case F=>
  intro w mg fa h KX G hmg
  refine' K07.DL KX G hmg ?_ ?_ ?_ ?_ ?_ ?_ ?_ ?_ ?_ ?_ ?_ ?_ ?_ ?_ ?_ ?_ ?_ ?_ ?_ ?_ ?_ ?_ ?_ ?_ ?_ ?_ ?_ ?_ ?_ ?_ ?_ ?_ ?_ ?_ ?_ ?_ ?_ ?_ ?_ ?_ ?_ ?_ ?_ ?_ ?_ ?_ ?_ ?_ ?_ ?_ ?_ ?_ ?_ ?_ ?_ ?_ ?_ ?_ ?_ ?_ ?_ ?_ ?_ ?_ ?_ ?_ ?_ ?_ ?_ ?_ ?_ ?_ ?_ ?_ ?_ ?_ ?_ ?_ ?_ ?_ ?_ ?_ ?_ ?_ ?_ ?_ ?_ ?_ ?_ ?_ ?_ ?_ ?_ ?_ ?_ ?_ ?_ ?_ ?_ ?_ ?_ ?_ ?_ ?_ ?_ ?_ ?_
  all_goals first|k_is|exact⟨_,by k_is,_,_,_,by k_is,by k_is⟩|exact⟨_,_,_,_,_,_,_,_,_,_,_,_,_,_,_,_,by k_is,by kernel_rfl,by k_is,by kernel_rfl⟩|rfl|k_exc|decide|skip
#print axioms PySem.Challenge.cw_haltline_k07_latest_tables_holds
