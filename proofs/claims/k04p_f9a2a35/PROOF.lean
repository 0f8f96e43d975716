import PyProof.Rows.All
import Wide.All
import OpenK.AllK
import Wide.FinOn
import Lean
import PyProof.EqAt
import PyProof.EqKinds
import PyProof.TupleCall
import PyProof.NeKinds
import PyProof.StrLawsTight
import PyProof.Conv_int
import PyProof.StrLawsRepr
import PyProof.ReprStr
import KE.KSortTup
import KE.KRevSl
import PyProof.DictIter
import PyProof.DictValues
import PyProof.DictTruth
import KE.KDictList
import PyProof.Rows.SetFrom
import PySem.Challenge.RW_haltline_k04_whole_least_tables
open List(all_eq_true all_map any_cons any_map any_toArray append_assoc append_nil contains_iff_mem ext_getElem ext_getElem? filterMap_cons filterMap_eq_nil_iff filterMap_map filter_eq_nil_iff find?_cons flatMap_append flatMap_cons flatMap_singleton flatten_cons getD_eq_getElem?_getD getElem?_append_left getElem?_append_right getElem?_eq_none getElem?_map getElem?_set getElem?_set_ne getElem?_set_self getElem_inj getElem_map getElem_mem getElem_range length_append length_cons length_drop length_map length_nil length_range length_reverse length_set length_singleton length_take length_zip length_zipIdx lookup_cons map_append map_congr_left map_cons map_map map_nil mem_append mem_append_left mem_append_right mem_cons mem_cons_of_mem mem_cons_self mem_filter mem_filterMap mem_flatMap mem_map mem_of_getElem? mem_range mem_singleton nil_append nodup_append nodup_cons nodup_nil nodup_range not_mem_nil of_mem_zip pairwise_map replicate replicate_succ reverse_cons set_set size_toArray take_length take_of_length_le)
open Nat(le_add_right le_of_lt le_refl le_succ le_trans lt_irrefl lt_of_lt_of_le lt_succ_of_lt lt_succ_self ne_of_gt ne_of_lt not_lt sub_self zero_le)
open Bool(and_eq_true false_eq_true or_eq_true)
open Int(toNat_natCast)
open Array(getD_eq_getD_getElem? getElem?_eq_getElem getElem?_toList length_toList size_push toList)
open Option(bind_some getD_none getD_some isSome_some map_some)
set_option Elab.async false
set_option linter.all false
set_option maxRecDepth 100000
set_option bootstrap.genMatcherCode false
set_option genSizeOf false
set_option compiler.extract_closed false
section
open PySem
def Zx:=@wpAny_bind
def Zp:=@wpAny_pure
def Zk:=@decide_eq_true
def Zj:=@of_decide_eq_true
def Zh:=@decide_eq_false
def Za:=@PassesOwn.leaving
def Ys:=@Heap.lt_size
theorem Yj.{u} {c:Prop}{h:Decidable c}(k:c){α:Sort u}{t e:α}:ite c t e=t:=if_pos k
theorem Yi.{u} {c:Prop}{h:Decidable c}(k:¬c){α:Sort u}{t e:α}:ite c t e=e:=if_neg k
end
section
open PySem
abbrev Z9:=List (Addr×Obj)
abbrev Z8:=W.Frag
abbrev Z5:=Value→Shared→Prop
abbrev Z4:=Str→Option Value
abbrev Z3:=Shared
abbrev Z2:=List Int
abbrev Z1:=List Value
abbrev Z0:=List Nat
abbrev Zz:=Addr
abbrev Zw:=List Str
abbrev Zv:=Program
abbrev Zt:=List Addr
abbrev Zr:=List (List Nat)
abbrev Zo:=List (Option Nat)
abbrev Zn:=World
abbrev Zl:=Around
abbrev Zg:=Nat→List Addr
abbrev Ze:=List (Str×NameKind)
abbrev Zd:=List Expr
abbrev Zc:=Value
abbrev Y9:=FuncData
abbrev Y8:=List (Nat×Nat)
abbrev Y7:=List (Str×Nat×Value)
abbrev Y5:=Heap
abbrev Y4:=Addr→Prop
abbrev Y2:=List (Str×Addr)
abbrev Y1:=Expr
abbrev Yz:=Scope
abbrev Yy:=Option Int
abbrev Yx:=List Env
abbrev Yw:=Array (Option Nat)
abbrev Yv:=List (List Int)
abbrev Yu:=List (Str×Value)
abbrev Yt:=Result→Shared→Prop
abbrev Yr:=Bool→Shared→Prop
abbrev Yq:=Str
abbrev Yp:=Nat×Nat
abbrev Yo:=(Str→Option Value)→Heap→Prop
abbrev Yn:=Pos
abbrev Ym:=Array Value
abbrev Yl:=Stmt
abbrev Yk:=Str→Option NameKind
end
namespace L2
open PySem PySem.Spec PyProof.Rows
def d8 {α:Type}{l:List α}{i:Nat}{a:α}(h:l[i]?=some a):∃h:i<l.length,l[i]=a:=List.getElem?_eq_some_iff.mp h
def cN {α:Type}{a b:α}{l:List α}(h:a∈l):a∈b::l:=.tail _ h
def d_ {α:Type}{l:List α}{i:Nat}(h:i<l.length):l[i]?=some l[i]:=List.getElem?_eq_getElem h
abbrev bD:=Sum Int Str
def oW:bD→Value→Bool
 |.inl k,v=>Value.isInt k v
 |.inr x,v=>Value.isStrOf x v
def F3 (w:Zn):bD→Int
 |.inl k=>hashInt k
 |.inr x=>hashStr w x
theorem bP:∀{k:bD} {v:Value},oW k v=true→(∃i t,k=Sum.inl i∧v=Value.int i t)∨(∃x t,k=Sum.inr x∧v=Value.str x t)
 |.inl i,v,h=>by
  obtain⟨t,e⟩:=Value.isInt_shape (k:=i) (v:=v) h;exact .inl ⟨i,t,rfl,e⟩
 |.inr x,v,h=>by
  obtain⟨t,e⟩:=Value.isStrOf_shape (x:=x) (v:=v) h;exact .inr ⟨x,t,rfl,e⟩
def wq (i:Int)(t:Tok):oW (.inl i) (.int i t)=true:=by simp[oW,Value.isInt]
def wu (x:Yq)(t:Tok):oW (.inr x) (.str x t)=true:=by simp[oW,Value.isStrOf]
def Db (a b:Int):decide ((Sum.inl a:bD)=Sum.inl b)=(a==b):=by
 by_cases e:a=b
 ·subst e;simp
 ·have h:¬(Sum.inl a:bD)=Sum.inl b:=λq=>e (Sum.inl.inj q);rw[Zh h];exact(beq_eq_false_iff_ne.mpr e).symm
def Df (a b:Yq):decide ((Sum.inr a:bD)=Sum.inr b)=decide (a=b):=by
 by_cases e:a=b
 ·subst e;simp
 ·have h:¬(Sum.inr a:bD)=Sum.inr b:=λq=>e (Sum.inr.inj q);rw[Zh h,Zh e]
def Dc (a:Int)(b:Yq):decide ((Sum.inl a:bD)=Sum.inr b)=false:=Zh (λq=>nomatch q)
def De (a:Yq)(b:Int):decide ((Sum.inr a:bD)=Sum.inl b)=false:=Zh (λq=>nomatch q)
def bK (prog:Zv)(w:Zn):PySem.KeyKind prog w bD where
 is:=oW
 hash:=F3 w
 inj:=λv a b ha hb=>by
  rcases bP ha with ⟨i,t,rfl,rfl⟩|⟨x,t,rfl,rfl⟩
  ·rcases bP hb with ⟨j,u,rfl,e⟩|⟨y,u,rfl,e⟩
   ·injection e with e1 _;rw[e1]
   ·exact nomatch e
  ·rcases bP hb with ⟨j,u,rfl,e⟩|⟨y,u,rfl,e⟩
   ·exact nomatch e
   ·injection e with e1 _;rw[e1]
 byValue:=λk v h=>by
  rcases bP h with ⟨i,t,rfl,rfl⟩|⟨x,t,rfl,rfl⟩ <;> rfl
 pyHash:=λhv h=>by
  rcases bP hv with ⟨i,t,rfl,rfl⟩|⟨x,t,rfl,rfl⟩
  ·exact wpAny_pyHash_int h
  ·exact wpAny_pyHash_str h
 eqBool:=λhu hv h=>by
  rcases bP hu with ⟨i,t,rfl,rfl⟩|⟨x,t,rfl,rfl⟩
  ·rcases bP hv with ⟨j,u,rfl,rfl⟩|⟨y,u,rfl,rfl⟩
   ·rw[Db]at h;exact wpAny_eqBool_int h
   ·rw[Dc]at h;exact SeqAt.EqAt.int_str i t y u _ _ _ _ h
  ·rcases bP hv with ⟨j,u,rfl,rfl⟩|⟨y,u,rfl,rfl⟩
   ·rw[De]at h;exact SeqAt.EqAt.str_int x t j u _ _ _ _ h
   ·rw[Df]at h;exact wpAny_eqBool_str h
 «strs»:=λk x t v h=>by
  rcases bP h with ⟨i,u,rfl,e⟩|⟨y,u,rfl,e⟩
  ·exact nomatch e
  ·injection e with e1 _
   subst e1;cases v <;> rfl
def iX (prog:Zv)(w:Zn)(i:Int)(t:Tok):(bK prog w).is (.inl i) (.int i t)=true:=wq i t
def rY (prog:Zv)(w:Zn)(x:Yq)(t:Tok):(bK prog w).is (.inr x) (.str x t)=true:=wu x t
inductive V where
 |non|bl (b:Bool)|int (i:Int)|str (x:Str)|byt (b:Array UInt8)|flt (b:UInt64)|ref (a:Addr)|ty (n:String)
 deriving DecidableEq
def RelV:V→Value→Prop
 |.non,u=>u=Value.none
 |.bl b,u=>u=Value.bool b
 |.int i,u=>∃t,u=Value.int i t
 |.str x,u=>∃t,u=Value.str x t
 |.byt b,u=>∃t,u=Value.bytes b t
 |.flt b,u=>∃t,u=Value.float b t
 |.ref a,u=>u=Value.ref a
 |.ty n,u=>u=Value.type n
abbrev Vals:List V→List Value→Prop:=Paired RelV
def Vals.length {xs:List V}{us:Z1}(r:Vals xs us):xs.length=us.length:=Paired.length r
theorem Vals.get:∀{xs:List V} {us:Z1} {i:Nat} {x:V},Vals xs us→xs[i]?=some x→∃u,us[i]?=some u∧RelV x u
 |_,_,_,_,.nil,e=>by simp at e
 |_,_,0,_,.cons r _,e=>by simp at e;subst e;exact⟨_,rfl,r⟩
 |_,_,i+1,x,.cons _ t,e=>by
  obtain⟨u,h1,h2⟩:=Vals.get (i:=i) (x:=x) t (by simpa using e);exact⟨u,by simpa using h1,h2⟩
theorem Vals.set {x:V}(r:RelV x u):∀{xs:List V} {us:Z1} (i:Nat),Vals xs us→Vals (xs.set i x) (us.set i u)
 |_,_,_,.nil=>.nil
 |_,_,0,.cons _ t=>.cons r t
 |_,_,i+1,.cons q t=>.cons q (Vals.set r i t)
theorem Vals.append:∀{xs ys:List V} {us ws:List Value},Vals xs us→Vals ys ws→Vals (xs ++ ys) (us ++ ws)
 |_,_,_,_,.nil,s=>s
 |_,_,_,_,.cons r t,s=>.cons r (Vals.append t s)
theorem Vals.take:∀{xs:List V} {us:Z1} (n:Nat),Vals xs us→Vals (xs.take n) (us.take n)
 |_,_,0,_=>.nil
 |_,_,_+1,.nil=>.nil
 |_,_,n+1,.cons r t=>.cons r (Vals.take n t)
theorem Vals.drop:∀{xs:List V} {us:Z1} (n:Nat),Vals xs us→Vals (xs.drop n) (us.drop n)
 |_,_,0,r=>r
 |_,_,_+1,.nil=>.nil
 |_,_,n+1,.cons _ t=>Vals.drop n t
def RelO:Option V→Option Value→Prop
 |some v,some u=>RelV v u
 |none,none=>True
 |_,_=>False
def KV {κ:Type}:List (κ×V)→List (κ×Value)→Prop:=Paired λ(p:κ×V) (q:κ×Value)=>p.1=q.1∧RelV p.2 q.2
def kV:bD→V
 |.inl i=>.int i
 |.inr x=>.str x
inductive HO where
 /-- a list -/
 |lst (xs:List V)
 /-- a tuple (never changes) -/
 |tup (xs:List V)
 /-- a dict whose keys are ints and texts;one whose keys are tuples of ints and texts (the empty one is both) -/
 |dK (kvs:List (bD×V))|dT (kvs:List (List bD×V))
 /-- a set of ints:its members,its size -/
 |set (S:Int→Bool) (n:Nat)
 /-- an instance of the class at C,its dict at dx,its attributes -/
 |ins (C dx:Zz) (fs:List (Str×V))
 /-- the dict of the instance at x -/
 |own (x:Addr)
 /-- the dict of an exception -/
 |xd (fs:List (Str×V))
 /-- a bound method,f of x -/
 |met (f x:Addr)
 /-- a range object lo,lo+1,.. below hi -/
 |rng (lo hi:Int)
 /-- a thing that is known to the object (the script;a dict while a loop walks it):read,never written while it is so -/
 |frz (o:Obj) (u:HO)
 /-- a code object's table -/
 |tbl (ps:Array Value)
 /-- any other thing,by what is true of its one object (a def of one's own:SetO a S n:=HO.ext λh=> ..) -/
 |ext (φ:Heap→Prop)
abbrev Hp:=Addr→Option HO
def bc (H:Hp)(a:Zz)(o:HO):Hp:=λb=>if b=a then some o else H b
def ao {H:Hp}{o:HO}:bc H a o a=some o:=by unfold bc;rw[Yj rfl]
def aj {H:Hp}{o:HO}(h:b≠a):bc H a o b=H b:=by unfold bc;rw[Yi h]
def E8 {H:Hp}{o u:HO}(h:H a=some o)(h':H b=some u)(d:o≠u):a≠b:=by
 intro e;subst e;rw[h]at h';exact d (Option.some.inj h')
def aB {H:Hp}{o:HO}(h:H a=some o)(h':H b=none):a≠b:=by
 intro e;subst e;rw[h]at h';cases h'
section
variable(P:Zv)(w:World)
def ObjOk (H:Hp)(h:Y5)(a:Zz):HO→Prop
 |.lst xs=>xs.length≤sizeLine∧∃(its:Z1) (n:Nat),Vals xs its∧h.get? a=some {cls:=.type "list",data:=.seq its.toArray n}
 |.tup xs=>xs.length≤sizeLine∧∃its:List Value,Vals xs its∧IsTup h a its.toArray
 |.dK kvs=>kvs.length≤sizeLine∧(a==sysModules)=false∧∃vs,KV kvs vs∧h.DictOf (bK P w) a vs
 |.dT kvs=>kvs.length≤sizeLine∧(a==sysModules)=false∧∃xs:List (List bD×Addr×Value),
   Paired (λ(p:List bD×V) (q:List bD×Addr×Value)=>p.1=q.1∧H q.2.1=some (.tup (p.1.map kV))∧RelV p.2 q.2.2) kvs xs∧
   ∃o es ep,h.get? a=some o∧o.ExactDict∧o.data= .dict es ep∧es.toList=xs.map (entryOfKey (tupleKind (bK P w)))∧(xs.map (·.1)).Nodup
 |.set S n=>h.SetOf (intKind P w) a S n
 |.ins C dx fs=>H dx=some (.own a)∧fs.length≤1000∧dx≠a∧h.get? a=some (W.instObj C dx)∧
   ∃mA,h.Ns1 dx mA∧(∀f,RelO (fs.lookup f) (mA f))∧PySem.Within mA (fs.map (·.1))
 |.own _=>∃o,h.get? a=some o
 |.xd fs=>∃mA,h.Ns1 a mA∧∀f,RelO (fs.lookup f) (mA f)
 |.rng lo hi=>∃t u v,h.get? a=some {cls:=.type "range",data:=.fields #[.int lo t,.int hi u,.int 1 v]}
 |.frz o u=>h.get? a=some o∧ObjOk H h a u
 |.tbl ps=>h.get? a=some {cls:=.none,data:=.fields ps}
 |.met f x=>h.get? a=some (W.methodObj (.ref f) (.ref x))
 |.ext φ=>φ h∧(∃o,h.get? a=some o)∧∀h1 h2:Heap,φ h1→(∀o,h1.get? a=some o→h2.get? a=some o)→φ h2
def HOk (H:Hp)(h:Y5):Prop:=∀a o,H a=some o→ObjOk P w H h a o
end
section
variable{P:Zv}{w:Zn}{H H':Hp}{h h':Y5}{a:Zz}{o:HO}
def ObjOk.lt (x:ObjOk P w H h a o):a<h.objs.size:=by
 cases o with
 |lst xs=>obtain⟨_,_,_,_,e⟩:=x;exact Ys e
 |tup xs=>obtain⟨_,_,_,p⟩:=x;exact p.lt
 |dK kvs=>obtain⟨_,_,_,_,o,_,_,e,_⟩:=x;exact Ys e
 |dT kvs=>obtain⟨_,_,_,_,o,_,_,e,_⟩:=x;exact Ys e
 |set S n=>obtain⟨o,_,_,_,e,_⟩:=x;exact Ys e
 |ins C dx fs=>obtain⟨_,_,_,e,_⟩:=x;exact Ys e
 |own y=>obtain⟨_,e⟩:=x;exact Ys e
 |xd fs=>obtain⟨_,⟨_,_,_,e,_⟩,_⟩:=x;exact Ys e
 |rng lo hi=>obtain⟨_,_,_,e⟩:=x;exact Ys e
 |frz ob u=>obtain⟨e,_⟩:=x;exact Ys e
 |tbl ps=>exact Ys (show h.get? a=some _ from x)
 |met f y=>exact Ys (show h.get? a=some _ from x)
 |ext φ=>obtain⟨_,⟨_,e⟩,_⟩:=x;exact Ys e
theorem Paired.mapP {α β:Type}{F G:α→β→Prop}:∀{l₁:List α} {l₂:List β},Paired F l₁ l₂→(∀a b,F a b→G a b)→Paired G l₁ l₂
 |_,_,.nil,_=>.nil
 |_,_,.cons r t,f=>.cons (f _ _ r) (Paired.mapP t f)
def ObjOk.stay (x:ObjOk P w H h a o)(k:∀b u,(b=a∨H b=some (.own a))→h.get? b=some u→h'.get? b=some u)(ho:∀b,H b=some (.own a)→H' b=some (.own a)) (ht:∀b xs,H b=some (.tup xs)→H' b=some (.tup xs)):ObjOk P w H' h' a o:=by
 induction o with
 |lst xs=>obtain⟨z,its,n,r,e⟩:=x;exact⟨z,its,n,r,k _ _ (.inl rfl) e⟩
 |tup xs=>obtain⟨z,its,r,g,e,c⟩:=x;exact⟨z,its,r,g,k _ _ (.inl rfl) e,c⟩
 |dK kvs=>obtain⟨z,y,vs,r,g,j,i,e,c⟩:=x;exact⟨z,y,vs,r,g,j,i,k _ _ (.inl rfl) e,c⟩
 |dT kvs=>
  obtain⟨z,y,xs,r,g,j,i,e,c⟩:=x;exact⟨z,y,xs,Paired.mapP r λp q z=>⟨z.1,ht _ _ z.2.1,z.2.2⟩,g,j,i,k _ _ (.inl rfl) e,c⟩
 |set S n=>obtain⟨g,j,i,t,e,c⟩:=x;exact⟨g,j,i,t,k _ _ (.inl rfl) e,c⟩
 |ins C dx fs=>
  obtain⟨d,z,ne,e,mA,⟨od,j,i,e2,c⟩,r⟩:=x;exact⟨ho _ d,z,ne,k _ _ (.inl rfl) e,mA,⟨od,j,i,k _ _ (.inr d) e2,c⟩,r⟩
 |own y=>obtain⟨g,e⟩:=x;exact⟨g,k _ _ (.inl rfl) e⟩
 |xd fs=>obtain⟨mA,⟨od,j,i,e,c⟩,r⟩:=x;exact⟨mA,⟨od,j,i,k _ _ (.inl rfl) e,c⟩,r⟩
 |rng lo hi=>obtain⟨t,u,v,e⟩:=x;exact⟨t,u,v,k _ _ (.inl rfl) e⟩
 |frz g u ih=>obtain⟨e,q⟩:=x;exact⟨k _ _ (.inl rfl) e,ih q⟩
 |tbl ps=>
  have e:h.get? a=some {cls:=.none,data:=.fields ps}:=x;show h'.get? a=some {cls:=.none,data:=.fields ps};exact k a _ (.inl rfl) e
 |met f y=>
  have e:h.get? a=some (W.methodObj (.ref f) (.ref y)):=x;show h'.get? a=some (W.methodObj (.ref f) (.ref y));exact k a _ (.inl rfl) e
 |ext φ=>obtain⟨p,⟨o,e⟩,st⟩:=x;exact⟨st _ _ p λo q=>k _ _ (.inl rfl) q,⟨o,k _ _ (.inl rfl) e⟩,st⟩
def HOk.lt (x:HOk P w H h)(e:H a=some o):a<h.objs.size:=(x a o e).lt
def HOk.fresh (x:HOk P w H h)(e:h.objs.size≤a):H a=none:=by
 cases q:H a with
 |none=>rfl
 |some u=>exact absurd (lt_of_lt_of_le (x.lt q) e) (lt_irrefl _)
def HOk.kept (x:HOk P w H h)(k:∀b u,h.get? b=some u→h'.get? b=some u):HOk P w H h':=λa o e=>
 (x a o e).stay (λb u _ q=>k b u q) (λ_ q=>q) λ_ _ q=>q
def HOk.laid (x:HOk P w H h)(k:∀b u,h.get? b=some u→h'.get? b=some u)(hp:h.objs.size≤a)(new:ObjOk P w (bc H a o) h' a o):HOk P w (bc H a o) h':=λb u e=>by
 have hn:=x.fresh hp;by_cases hb:b=a
 ·subst hb;rw[ao]at e;cases e;exact new
 ·rw[aj hb]at e;exact(x b u e).stay (λc v _ q=>k c v q) (λc q=>by rw[aj (aB q hn)];exact q) λc xs q=>by rw[aj (aB q hn)];exact q
end
def Rd (H:Hp)(a:Zz)(u:HO):Prop:=H a=some u∨∃o,H a=some (.frz o u)
def Rd.ok {P:Zv}{w:Zn}{H:Hp}{h:Y5}{u:HO}(r:Rd H a u)(x:HOk P w H h):ObjOk P w H h a u:=by
 rcases r with r|⟨o,r⟩
 ·exact x a u r
 ·obtain⟨_,q⟩:=x a _ r;exact q
def Es:Option HO→Prop
 |some (.lst _)=>True
 |some (.dK _)=>True
 |some (.dT _)=>True
 |some (.set _ _)=>True
 |some (.ins _ _ _)=>True
 |some (.ext _)=>True
 |_=>False
section
variable{P:Zv}{w:Zn}{H:Hp}{h h':Y5}{x e:Zz}{o':HO}
def HOk.write (ok:HOk P w H h)(mu:Es (H x))(he:e=x∨H e=some (.own x))(k:∀b u,b≠e→h.get? b=some u→h'.get? b=some u)(heo:∃u,h'.get? e=some u)(new:ObjOk P w (bc H x o') h' x o'):HOk P w (bc H x o') h':=λb u q=>by
 have nown:∀c y,H c=some (.own y)→c≠x:=λc y r z=>by subst z;rw[r]at mu;exact mu
 have ntup:∀c xs,H c=some (.tup xs)→c≠x:=λc xs r z=>by subst z;rw[r]at mu;exact mu
 by_cases hb:b=x
 ·subst hb;rw[ao]at q;cases q;exact new
 ·rw[aj hb]at q;by_cases d:b=e
  ·have q':H b=some (.own x):=by
    rcases he with z|z
    ·exact absurd (d.trans z) hb
    ·rw[d];exact z
   rw[q]at q';cases q';obtain⟨v,hv⟩:=heo;exact⟨v,by rw[d];exact hv⟩
  ·refine(ok b u q).stay (λc v hc r=>k c v ?_ r) (λc r=>by rw[aj (nown c b r)];exact r) λc xs r=>by rw[aj (ntup c xs r)];exact r
   rcases hc with rfl|hc
   ·exact d
   ·rintro rfl
    rcases he with z|z
    ·exact nown c b hc z
    ·rw[hc]at z;cases z;exact hb rfl
end
structure Un (fs ex:Zt)(H H':Hp)(h h':Y5):Prop where
 keep:∀b o,h.get? b=some o→H b=none→b∉fs→b∉ex→h'.get? b=some o
 slot:∀b o,h.get? b=some o→H b=none→b∈fs→b∉ex→∃sl,h'.get? b=some {o with slots:=sl}
 free:∀b o,h.get? b=some o→H b=none→b∉ex→H' b=none
 there:∀b o,h.get? b=some o→b∉ex→∃o',h'.get? b=some o'
 tups:∀b xs,H b=some (.tup xs)→H' b=some (.tup xs)
 frzs:∀b o u,H b=some (.frz o u)→H' b=some (.frz o u)
 tbls:∀b ps,H b=some (.tbl ps)→∃more,H' b=some (.tbl (ps ++ more))
section
variable{fs fs' ex ex':Zt}{H H1 H2:Hp}{h h1 h2 h':Y5}{a x e:Zz}{o:HO}
def Un.any (u:Un fs ex H H1 h h1){b:Zz}{ob:Obj}(q:h.get? b=some ob)(n:H b=none)(hx:b∉ex):∃sl,h1.get? b=some {ob with slots:=sl}:=by
 by_cases hb:b∈fs
 ·exact u.slot b ob q n hb hx
 ·exact⟨ob.slots,u.keep b ob q n hb hx⟩
def Un.kept (k:∀b u,h.get? b=some u→h'.get? b=some u):Un fs ex H H h h':=
 ⟨λb ob q _ _ _=>k b ob q,λb ob q _ _ _=>⟨ob.slots,k b ob q⟩,λ_ _ _ n _=>n,λb ob q _=>⟨ob,k b ob q⟩,λ_ _ q=>q,λ_ _ _ q=>q,λ_ ps q=>⟨#[],by rw[q];simp⟩⟩
def Un.refl:Un fs ex H H h h:=Un.kept λ_ _ q=>q
def Un.laid (k:∀b u,h.get? b=some u→h'.get? b=some u)(hp:h.objs.size≤a)(hn:H a=none):Un fs ex H (bc H a o) h h' where
 keep:=λb u q _ _ _=>k b u q
 slot:=λb u q _ _ _=>⟨u.slots,k b u q⟩
 free:=λb u q n _=>by rw[aj (ne_of_lt (lt_of_lt_of_le (Ys q) hp))];exact n
 there:=λb u q _=>⟨u,k b u q⟩
 tups:=λb xs q=>by rw[aj (aB q hn)];exact q
 frzs:=λb u xs q=>by rw[aj (aB q hn)];exact q
 tbls:=λb ps q=>⟨#[],by rw[aj (aB q hn),q];simp⟩
def Un.write (mu:Es (H x))(he:e=x∨H e=some (.own x))(k:∀b u,b≠e→h.get? b=some u→h'.get? b=some u)(heo:∃u,h'.get? e=some u):Un fs ex H (bc H x o) h h':=by
 have hx:∀b,H b=none→b≠x:=λb n z=>by subst z;rw[n]at mu;exact mu
 have hb:∀b,H b=none→b≠e:=λb n z=>by
  subst z
  rcases he with r|r
  ·exact hx b n r
  ·rw[n]at r;cases r
 have hm:∀b u,H b=some u→¬Es (some u)→b≠x:=λb u q nm z=>by subst z;rw[q]at mu;exact nm mu
 refine⟨λb u q n _ _=>k b u (hb b n) q,λb u q n _ _=>⟨u.slots,k b u (hb b n) q⟩,λb u q n _=>by rw[aj (hx b n)];exact n,λb u q _=>?_,
  λb xs q=>by rw[aj (hm b _ q λz=>z)];exact q,λb u xs q=>by rw[aj (hm b _ q λz=>z)];exact q,λb ps q=>⟨#[],by rw[aj (hm b _ q λz=>z),q];simp⟩⟩
 by_cases hbe:b=e
 ·subst hbe;exact heo
 ·exact⟨u,k b u hbe q⟩
end
def FE (h:Y5)(H:Hp):List Addr:=(List.range h.objs.size).filter λa=>(H a).isSome
def ql (h:Y5)(H:Hp):Heap:=W.hideAll h (FE h H)
def wm (h:Y5)(H:Hp):(ql h H).objs.size=h.objs.size:=W.hideAll_size _ _
def xZ {h:Y5}{H:Hp}{o:Obj}(e:h.get? b=some o)(n:H b=none):(ql h H).get? b=some o:=
 W.hideAll_get _ e λhm=>by
  have q:(H b).isSome=true:=(mem_filter.mp hm).2;rw[n]at q;simp at q
def AQ {h:Y5}{H:Hp}{o:Obj}(e:(ql h H).get? b=some o):h.get? b=some o∧H b=none:=by
 have e':h.get? b=some o:=W.of_hideAll (FE h H) e;refine⟨e',?_⟩;cases q:H b with
 |none=>rfl
 |some x=>
  have hm:b∈FE h H:=mem_filter.mpr ⟨mem_range.mpr (Ys e'),by simp[q]⟩;have z:(ql h H).get? b=none:=W.hideAll_none (FE h H) hm;rw[z]at e;cases e
structure Mod (K:Z8)(mg:Z4)(base:Y5):Prop where
 kin:K.In base
 glob:base.Ns mainGlobals mg
 blt:∃mb,base.Ns builtinsNs mb∧∀x:Str,x≠ "__name__" →mb x=bootBuiltins x
 nolimit:base.NoLimit
structure Cx where
 prog:Program
 w:World
 K:W.Frag
 mg:Str→Option Value
 base:Heap
 A:Around
 N:List Str
 s₀:Shared
 H₀:Hp
 env:Env
 outer:List Env
 stack:List Env
 ex:List Addr
 fn:Str→Bool
 calm:Bool
 pn:List (Addr×Obj)
 xe:Value→Shared→Prop
abbrev zQ1(x:Yq):Prop:=(x==("__debug__":Str))=false
abbrev zQ2(X:Cx)(e:Y1)(es:Zd):Prop:=starEach (e::es) X.env=(false,eval e X.env)::starEach es X.env
def jG (l:Yx):List Addr:=l.filterMap (·.frame)
abbrev Cx.fs (X:Cx):List Addr:=jG X.outer
def tm (sc:Yz)(x:Yq):Prop:=sc.names.lookup x=some .local∨sc.names.lookup x=some .cell∨sc.names.lookup x=some .free
def qY (sc:Yz)(x:Yq):Prop:=sc.names.lookup x=some .local∨sc.names.lookup x=some .cell
def FJ (env:Env)(h:Y5)(m:Z4)(x:Yq)(u:Zc):Prop:=
 (env.kindOf x=some .local∧m x=some u)∨((env.kindOf x=some .cell∨env.kindOf x=some .free)∧∃c,env.cells.lookup x=some c∧h.IsCell c (some u))
structure Cx.Ok (X:Cx):Prop where
 mod:Mod X.K X.mg X.base
 kind:X.env.scope.kind= .function
 glob:X.env.globals=mainGlobals
 blt:X.env.builtins=builtinsNs
 above:X.s₀.heap.objs.size≤X.env.locals
 inj:∀x y c,X.env.cells.lookup x=some c→X.env.cells.lookup y=some c→x=y
 has:∀x,(X.env.kindOf x=some .cell∨X.env.kindOf x=some .free)→∃c,X.env.cells.lookup x=some c
 cab:∀x c,X.fn x=true→X.env.cells.lookup x=some c→X.s₀.heap.objs.size≤c
 hd:X.calm=true→X.A.handled=none
 frames:X.A.frames=some X.stack
 stk:X.stack=X.outer∨(X.stack=X.env::X.outer∧X.env.frame=some X.env.locals)
 exf:∀b∈X.ex,b≠X.env.locals∧∀x c,X.env.cells.lookup x=some c→c≠b
 bs:∀b o,X.base.get? b=some o→X.s₀.heap.get? b=some o∧X.H₀ b=none
 bsz:X.base.objs.size≤X.s₀.heap.objs.size
 noex:∀b o,X.base.get? b=some o→b∉X.ex
 exfs:∀b∈X.ex,b∉X.fs
 funs:X.s₀.heap.FunFrames X.base X.outer
 frf:∀b∈X.fs,X.H₀ b=none
structure Inv (X:Cx)(pins:Z9)(σ:List (Option V))(H:Hp)(s:Z3):Prop where
 ok:X.Ok
 os:s.os=X.s₀.os
 bare:AllBare s.gens
 base:Un X.fs X.ex X.H₀ H X.s₀.heap s.heap
 loc:∃m,s.heap.Ns X.env.locals m∧∀(i:Nat) (x:Yq) (v:V),X.N[i]?=some x→σ[i]?=some (some v)→tm X.env.scope x→∃u,RelV v u∧FJ X.env s.heap m x u
 cell:∀x c,X.env.cells.lookup x=some c→∃v,s.heap.IsCell c v
 free:H X.env.locals=none
 freeC:∀x c,X.env.cells.lookup x=some c→H c=none
 pin:∀p∈X.pn ++ pins,s.heap.get? p.1=some p.2∧H p.1=none∧p.1≠X.env.locals∧p.1∉X.fs∧∀v,p.2.data≠ .cell v
 hok:HOk X.prog X.w H s.heap
 len:σ.length=X.N.length
section
variable{X:Cx}{pins:Z9}{σ:List (Option V)}{H H':Hp}{s:Z3}{h':Heap}
def Cx.Ok.nofr (ok:X.Ok){b:Zz}{o:Obj}(e:X.base.get? b=some o):b∉X.fs:=λhb=>by
 have:=(ok.funs.mem hb).1;rw[e]at this;cases this
def Inv.bs (I:Inv X pins σ H s):∀b o,X.base.get? b=some o→s.heap.get? b=some o∧H b=none:=λb o e=>
 ⟨I.base.keep b o (I.ok.bs b o e).1 (I.ok.bs b o e).2 (I.ok.nofr e) (I.ok.noex b o e),I.base.free b o (I.ok.bs b o e).1 (I.ok.bs b o e).2 (I.ok.noex b o e)⟩
def Inv.bk (I:Inv X pins σ H s):∀b o,X.base.get? b=some o→s.heap.get? b=some o:=λb o e=>(I.bs b o e).1
def Inv.mod (I:Inv X pins σ H s):Mod X.K X.mg X.base:=I.ok.mod
def Inv.kIn (I:Inv X pins σ H s):X.K.In s.heap:=I.ok.mod.kin.keeps I.bk
def Inv.lt (I:Inv X pins σ H s):X.env.locals<s.heap.objs.size:=let ⟨_,hn,_⟩:=I.loc;hn.lt
def Inv.sz (I:Inv X pins σ H s):X.s₀.heap.objs.size≤s.heap.objs.size:=le_trans I.ok.above (le_of_lt I.lt)
def Inv.nofs (I:Inv X pins σ H s){a:Zz}(h:s.heap.objs.size≤a):a∉X.fs:=λhb=>by
 obtain⟨_,o,ho,_⟩:=I.ok.funs.mem hb;exact absurd (lt_of_lt_of_le (Ys ho) (le_trans I.sz h)) (lt_irrefl _)
def Inv.cne (I:Inv X pins σ H s):∀x c,X.env.cells.lookup x=some c→c≠X.env.locals:=λx c e z=>by
 obtain⟨v,o,ho,hd⟩:=I.cell x c e;obtain⟨m,⟨o',es,ep,ho',hd',_⟩,_⟩:=I.loc;rw[z,ho']at ho;cases ho;rw[hd']at hd;cases hd
def Inv.funs (I:Inv X pins σ H s):s.heap.FunFrames X.base X.outer:=by
 have all:∀(l:List Env),(∀b∈jG l,b∈X.fs)→X.s₀.heap.FunFrames X.base l→s.heap.FunFrames X.base l:=by
  intro l
  induction l with
  |nil=>intro _ _;trivial
  |cons env r ih=>
   intro hs hl;obtain⟨hk,⟨L,o,hf,hn,ho,hd⟩,hr⟩:=hl;have hL:L∈X.fs:=hs L (by unfold jG;rw[filterMap_cons,hf];exact mem_cons_self);obtain⟨sl,e⟩:=I.base.slot L o ho (I.ok.frf L hL) hL λz=>I.ok.exfs L z hL;exact⟨hk,⟨L,_,hf,hn,e,hd⟩,ih (λb hb=>hs b (by unfold jG;rw[filterMap_cons,hf];exact cN hb)) hr⟩
 exact all X.outer (λ_ hb=>hb) I.ok.funs
def Inv.stack (I:Inv X pins σ H s):s.heap.FunFrames X.base X.stack:=by
 rcases I.ok.stk with e|⟨e,hf⟩
 ·rw[e];exact I.funs
 ·rw[e];obtain⟨m,hn,_⟩:=I.loc;refine .cons (by rw[I.ok.kind];decide) hf hn ?_ I.funs;exact Heap.get?_none_of_le (le_trans I.ok.bsz I.ok.above)
def Inv.stkSub (I:Inv X pins σ H s):∀b∈jG X.stack,b∈X.env.locals::X.fs:=λb hb=>by
 rcases I.ok.stk with e|⟨e,hf⟩
 ·rw[e]at hb;exact cN hb
 ·rw[e]at hb;unfold jG at hb;rw[filterMap_cons,hf]at hb;exact hb
def Inv.stkFree (I:Inv X pins σ H s):∀b∈jG X.stack,H b=none:=λb hb=>by
 rcases mem_cons.mp (I.stkSub b hb) with e|hb
 ·rw[e];exact I.free
 ·obtain⟨_,o,ho,_⟩:=I.ok.funs.mem hb;exact I.base.free b o ho (I.ok.frf b hb) λz=>I.ok.exfs b z hb
def Inv.step {g':Array GenState}{t':Nat}{d':Drawn}{ch:Zt}(I:Inv X pins σ H s)(hch:∀b∈ch,(b∈X.ex∨X.s₀.heap.objs.size≤b)∧b≠X.env.locals∧(∀x c,X.env.cells.lookup x=some c→c≠b)∧∀p∈X.pn ++ pins,p.1≠b)(keep:∀b o,b≠X.env.locals→b∉X.fs→b∉ch→s.heap.get? b=some o→H b=none→h'.get? b=some o)(slot:∀b o,b≠X.env.locals→b∈X.fs→b∉ch→s.heap.get? b=some o→H b=none→∃sl,h'.get? b=some {o with slots:=sl}) (free:∀b o,b∉ch→s.heap.get? b=some o→H b=none→H' b=none)
  (there:∀b o,b∉ch→s.heap.get? b=some o→∃o',h'.get? b=some o')
  (tups:∀b xs,H b=some (.tup xs)→H' b=some (.tup xs)) (frzs:∀b o u,H b=some (.frz o u)→H' b=some (.frz o u)) (tbls:∀b ps,H b=some (.tbl ps)→∃more,H' b=some (.tbl (ps ++ more)))
  (ns:∀m,s.heap.Ns X.env.locals m→h'.Ns X.env.locals m) (hok:HOk X.prog X.w H' h') (hg:AllBare g') :
  Inv X pins σ H' {s with heap:=h',gens:=g',drawn:=d',toks:=t'}:=by
 have neL:∀b o,X.s₀.heap.get? b=some o→b≠X.env.locals:=λb o e=>ne_of_lt (lt_of_lt_of_le (Ys e) I.ok.above);have j:∀b o,X.s₀.heap.get? b=some o→b∉X.ex→b∉ch:=λb o e f hb=>by
  rcases (hch b hb).1 with z|z
  ·exact f z
  ·exact absurd (lt_of_lt_of_le (Ys e) z) (lt_irrefl _)
 have g:∀x c,X.env.cells.lookup x=some c→∀v,s.heap.IsCell c v→h'.IsCell c v:=λx c e v hZ49=>by
  obtain⟨o,ho,hd⟩:=hZ49;have h:c∉ch:=λz=>(hch c z).2.2.1 x c e rfl;by_cases hc:c∈X.fs
  ·obtain⟨sl,q⟩:=slot c o (I.cne x c e) hc h ho (I.freeC x c e);exact⟨_,q,hd⟩
  ·exact⟨o,keep c o (I.cne x c e) hc h ho (I.freeC x c e),hd⟩
 refine⟨I.ok,I.os,hg,⟨λb o e n hb f=>?_,λb o e n hb f=>?_,λb o e n f=>?_,λb o e f=>?_,λb xs e=>tups b xs (I.base.tups b xs e),λb o xs e=>frzs b o xs (I.base.frzs b o xs e),λb ps e=>?_⟩,?_,λx c e=>?_,?_,λx c e=>?_,λp hp=>?_,hok,I.len⟩
 ·exact keep b o (neL b o e) hb (j b o e f) (I.base.keep b o e n hb f) (I.base.free b o e n f)
 ·obtain⟨sl,t⟩:=I.base.slot b o e n hb f;obtain⟨sl',e2⟩:=slot b _ (neL b o e) hb (j b o e f) t (I.base.free b o e n f);exact⟨sl',e2⟩
 ·obtain⟨o',t⟩:=I.base.there b o e f;exact free b o' (j b o e f) t (I.base.free b o e n f)
 ·obtain⟨o',t⟩:=I.base.there b o e f;exact there b o' (j b o e f) t
 ·obtain⟨m1,t⟩:=I.base.tbls b ps e;obtain⟨m2,e2⟩:=tbls b _ t;exact⟨m1 ++ m2,by rw[e2,Array.append_assoc]⟩
 ·obtain⟨m,hn,hl⟩:=I.loc;refine⟨m,ns m hn,λi x v t e2 e3=>?_⟩;obtain⟨u,r,l⟩:=hl i x v t e2 e3;refine⟨u,r,?_⟩
  rcases l with l|⟨k,c,e,z⟩
  ·exact .inl l
  ·exact .inr ⟨k,c,e,g x c e _ z⟩
 ·obtain⟨v,z⟩:=I.cell x c e;exact⟨v,g x c e v z⟩
 ·obtain⟨m,⟨o,_,_,ho,_⟩,_⟩:=I.loc;exact free _ o (λz=>(hch _ z).2.1 rfl) ho I.free
 ·obtain⟨v,o,ho,hd⟩:=I.cell x c e;exact free c o (λz=>(hch c z).2.2.1 x c e rfl) ho (I.freeC x c e)
 ·obtain⟨e,n,ne,nf,d⟩:=I.pin p hp;have h:p.1∉ch:=λz=>(hch p.1 z).2.2.2 p hp rfl;exact⟨keep p.1 p.2 ne nf h e n,free p.1 p.2 h e n,ne,nf,d⟩
def Inv.un {t':Nat}(I:Inv X pins σ H s)(u:Un X.fs [] H H' s.heap h')(hok:HOk X.prog X.w H' h'):Inv X pins σ H' {s with heap:=h',toks:=t'}:=by
 obtain⟨m,⟨o,es,ep,ho,r⟩,_⟩:=id I.loc;obtain⟨sl,hL⟩:=u.any ho I.free (by simp);exact I.step (g':=s.gens) (d':=s.drawn) (ch:=[]) (λ_ z=>nomatch z) (λb o _ hb _ e n=>u.keep b o e n hb (by simp)) (λb o _ hb _ e n=>u.slot b o e n hb (by simp)) (λb o _ e n=>u.free b o e n (by simp)) (λb o _ e=>u.there b o e (by simp)) u.tups u.frzs u.tbls (λm' hm=>by
  obtain⟨o',es',ep',ho',r'⟩:=hm;rw[ho]at ho';cases ho';exact⟨_,es',ep',hL,r'⟩) hok I.bare
def Inv.call {g':Array GenState}{t':Nat}{d':Drawn}{ch:Zt}(I:Inv X pins σ H s)(u:Un (jG X.stack) ch H H' s.heap h')(hok:HOk X.prog X.w H' h')(hg:AllBare g')(hch:∀b∈ch,(b∈X.ex∨X.s₀.heap.objs.size≤b)∧b≠X.env.locals∧(∀x c,X.env.cells.lookup x=some c→c≠b)∧∀p∈X.pn ++ pins,p.1≠b) :
  Inv X pins σ H' {s with heap:=h',gens:=g',drawn:=d',toks:=t'}:=by
 obtain⟨m,⟨o,es,ep,ho,r⟩,_⟩:=id I.loc;obtain⟨sl,hL⟩:=u.any ho I.free λz=>(hch _ z).2.1 rfl;exact I.step (ch:=ch) hch (λb o hL hb hc e n=>u.keep b o e n (λz=>(mem_cons.mp (I.stkSub b z)).elim hL hb) hc) (λb o _ _ hc e n=>u.any e n hc) (λb o hc e n=>u.free b o e n hc) (λb o hc e=>u.there b o e hc) u.tups u.frzs u.tbls (λm' hm=>by
  obtain⟨o',es',ep',ho',r'⟩:=hm;rw[ho]at ho';cases ho';exact⟨_,es',ep',hL,r'⟩) hok hg
def Inv.turned {t':Nat}(I:Inv X pins σ H s)(k:∀b o,b≠it→s.heap.get? b=some o→h'.get? b=some o)(hn:H it=none)(hL:it≠X.env.locals)(h1:it∈X.ex∨X.s₀.heap.objs.size≤it) (h2:∀x c,X.env.cells.lookup x=some c→c≠it) (h3:∀p∈X.pn ++ pins,p.1≠it):Inv X pins σ H {s with heap:=h',toks:=t'}:=by
 have nit:∀b u,H b=some u→b≠it:=λb u e z=>by rw[z,hn]at e;cases e
 refine I.step (g':=s.gens) (d':=s.drawn) (ch:=[it]) (λb hb=>?_) (λb o _ _ hc e _=>k b o (λz=>hc (by simp[z])) e) (λb o _ _ hc e _=>⟨o.slots,k b o (λz=>hc (by simp[z])) e⟩) (λ_ _ _ _ n=>n)
  (λb o hc e=>⟨o,k b o (λz=>hc (by simp[z])) e⟩) (λ_ _ e=>e) (λ_ _ _ e=>e) (λb ps e=>⟨#[],by rw[e];simp⟩) (λm hm=>?_) (λb u e=>?_) I.bare
 ·have e:b=it:=by simpa using hb
  subst e;exact⟨h1,hL,h2,h3⟩
 ·obtain⟨o,es,ep,ho,r⟩:=hm;exact⟨o,es,ep,k _ o (Ne.symm hL) ho,r⟩
 ·refine(I.hok b u e).stay (λc v hc q=>k c v ?_ q) (λ_ q=>q) λ_ _ q=>q
  rcases hc with z|z
  ·rw[z];exact nit b u e
  ·exact nit c _ z
def Inv.tok (I:Inv X pins σ H s)(t:Nat):Inv X pins σ H {s with toks:=t}:=I.un (h':=s.heap) (t':=t) Un.refl I.hok
def Inv.kept {t':Nat}(I:Inv X pins σ H s)(k:∀b u,s.heap.get? b=some u→h'.get? b=some u):Inv X pins σ H {s with heap:=h',toks:=t'}:=I.un (Un.kept k) (I.hok.kept k)
def Inv.laid {o:HO}{t':Nat}(I:Inv X pins σ H s)(k:∀b u,s.heap.get? b=some u→h'.get? b=some u)(hp:s.heap.objs.size≤a)(new:ObjOk X.prog X.w (bc H a o) h' a o) :
  Inv X pins σ (bc H a o) {s with heap:=h',toks:=t'}:=I.un (Un.laid k hp (I.hok.fresh hp)) (I.hok.laid k hp new)
def Inv.write {o:HO}{t':Nat}(I:Inv X pins σ H s)(mu:Es (H x))(he:e=x∨H e=some (.own x))(k:∀b u,b≠e→s.heap.get? b=some u→h'.get? b=some u)(heo:∃u,h'.get? e=some u)(new:ObjOk X.prog X.w (bc H x o) h' x o):Inv X pins σ (bc H x o) {s with heap:=h',toks:=t'}:=I.un (Un.write mu he k heo) (I.hok.write mu he k heo new)
def Inv.weak {σ':List (Option V)}(I:Inv X pins σ H s)(hl:σ'.length=σ.length)(w:∀(i:Nat) v,σ'[i]?=some (some v)→σ[i]?=some (some v)):Inv X pins σ' H s:=
 ⟨I.ok,I.os,I.bare,I.base,let ⟨m,hn,hl'⟩:=I.loc;⟨m,hn,λi x v e1 e2 e3=>hl' i x v e1 (w i v e2) e3⟩,I.cell,I.free,I.freeC,I.pin,I.hok,hl.trans I.len⟩
def Inv.pins_of {pins':Z9}(I:Inv X pins σ H s)(h:∀p∈pins',s.heap.get? p.1=some p.2∧H p.1=none∧p.1≠X.env.locals∧p.1∉X.fs∧∀v,p.2.data≠ .cell v):Inv X pins' σ H s:=
 ⟨I.ok,I.os,I.bare,I.base,I.loc,I.cell,I.free,I.freeC,λp hp=>(mem_append.mp hp).elim (λz=>I.pin p (mem_append_left _ z)) (h p),I.hok,I.len⟩
def rZ {N:Zw}(hN:N.Nodup){i j:Nat}{x:Yq}(a:N[i]?=some x)(b:N[j]?=some x):i=j:=by
 obtain⟨h1,e1⟩:=d8 a;obtain⟨h2,e2⟩:=d8 b;exact(getElem_inj hN).mp (e1.trans e2.symm)
def pG {M:Model}{A:Zl}{E:Z5}{i:Nat}{v:V}{Q:Unit→Shared→Prop}(I:Inv X pins σ H s)(hN:X.N.Nodup)(hi:X.N[i]?=some x)(hx:qY X.env.scope x)(r:RelV v u)(h:∀s',Inv X pins (σ.set i (some v)) H s'→(∃a,Heap.SameBut a s.heap s'.heap∧(a=X.env.locals∨X.env.cells.lookup x=some a))→Q () s') (hf:X.fn x=true∨X.env.scope.names.lookup x=some .local:=by first|exact .inl rfl|exact .inr rfl|assumption):wpAny M A (storeName X.env x u) Q E s:=by
 obtain⟨m,hn,hl⟩:=id I.loc;have hcls:(X.env.scope.kind==.class||(X.env.scope.kind==.module&&X.env.locals != X.env.globals))=false:=by rw[I.ok.kind];rfl
 have hiσ:i<σ.length:=by rw[I.len];exact(d8 hi).1
 have cne:=I.cne;have t:∀{a:Zz} {h':Heap},(∃o,s.heap.get? a=some o∧H a=none)→Heap.SameBut a s.heap h'→HOk X.prog X.w H h':=λ{a h'} ha l b ob e=>by
  obtain⟨_,_,C⟩:=ha;refine(I.hok b ob e).stay (λc w' hc q=>(l.2 c ?_).trans q) (λ_ q=>q) λ_ _ q=>q;rintro rfl
  rcases hc with rfl|hc
  ·rw[C]at e;cases e
  ·rw[C]at hc;cases hc
 rcases hx with hk|hk
 ·refine wpAny_storeName_local hk hn (λh' hn' l=>?_) hcls;obtain⟨oL,_,_,hoL,_⟩:=id hn;refine h _ ⟨I.ok,I.os,I.bare,⟨λb o e n hb hx=>?_,λb o e n hb hx=>?_,I.base.free,λb o e hx=>?_,I.base.tups,I.base.frzs,I.base.tbls⟩,⟨_,hn',λj y v' B D e3=>?_⟩,λy c e=>?_,I.free,I.freeC,λp hp=>?_,t ⟨oL,hoL,I.free⟩ l,by simpa using I.len⟩ ⟨_,l,.inl rfl⟩
  ·exact(l.2 b (ne_of_lt (lt_of_lt_of_le (Ys e) I.ok.above))).trans (I.base.keep b o e n hb hx)
  ·obtain⟨sl,B⟩:=I.base.slot b o e n hb hx;exact⟨sl,(l.2 b (ne_of_lt (lt_of_lt_of_le (Ys e) I.ok.above))).trans B⟩
  ·obtain⟨o',B⟩:=I.base.there b o e hx;exact⟨o',(l.2 b (ne_of_lt (lt_of_lt_of_le (Ys e) I.ok.above))).trans B⟩
  ·by_cases hj:j=i
   ·subst hj;rw[hi]at B;cases B;rw[getElem?_set_self hiσ]at D;cases D;exact⟨u,r,.inl ⟨hk,by simp⟩⟩
   ·rw[getElem?_set_ne (Ne.symm hj)]at D;obtain⟨u',r',q⟩:=hl j y v' B D e3;refine⟨u',r',?_⟩
    rcases q with ⟨k,e⟩|⟨k,c,e,z⟩
    ·refine .inl ⟨k,?_⟩;have:y≠x:=λe=>hj (rZ hN B (e ▸ hi));simp[this,e]
    ·exact .inr ⟨k,c,e,z.sameBut l (cne y c e)⟩
  ·obtain⟨w',z⟩:=I.cell y c e;exact⟨w',z.sameBut l (cne y c e)⟩
  ·obtain⟨e,n,ne,nf,d⟩:=I.pin p hp;exact⟨(l.2 p.1 ne).trans e,n,ne,nf,d⟩
 ·have hfn:X.fn x=true:=by
   rcases hf with z|z
   ·exact z
   ·rw[z]at hk;cases hk
  obtain⟨c,hc⟩:=I.ok.has x (.inl hk);obtain⟨w',z⟩:=I.cell x c hc;refine wpAny_storeName_cell I.ok.kind hk hc z (λh' hc' l=>?_);obtain⟨oc,hoc,hocd⟩:=id z;refine h {s with heap:=h'} ⟨I.ok,I.os,I.bare,⟨λb o e n hb hx=>?_,λb o e n hb hx=>?_,I.base.free,λb o e hx=>?_,I.base.tups,I.base.frzs,I.base.tbls⟩,⟨m,hn.sameBut l (Ne.symm (cne x c hc)),λj y v' B D e3=>?_⟩,λy c' e=>?_,I.free,I.freeC,λp hp=>?_,t ⟨oc,hoc,I.freeC x c hc⟩ l,by simpa using I.len⟩ ⟨c,l,.inr hc⟩
  ·exact(l.2 b (ne_of_lt (lt_of_lt_of_le (Ys e) (I.ok.cab x c hfn hc)))).trans (I.base.keep b o e n hb hx)
  ·obtain⟨sl,B⟩:=I.base.slot b o e n hb hx;exact⟨sl,(l.2 b (ne_of_lt (lt_of_lt_of_le (Ys e) (I.ok.cab x c hfn hc)))).trans B⟩
  ·obtain⟨o',B⟩:=I.base.there b o e hx;exact⟨o',(l.2 b (ne_of_lt (lt_of_lt_of_le (Ys e) (I.ok.cab x c hfn hc)))).trans B⟩
  ·by_cases hj:j=i
   ·subst hj;rw[hi]at B;cases B;rw[getElem?_set_self hiσ]at D;cases D;exact⟨u,r,.inr ⟨.inl hk,c,hc,hc'⟩⟩
   ·rw[getElem?_set_ne (Ne.symm hj)]at D;obtain⟨u',r',q⟩:=hl j y v' B D e3;refine⟨u',r',?_⟩
    rcases q with q|⟨k,c',e,z'⟩
    ·exact .inl q
    ·refine .inr ⟨k,c',e,z'.sameBut l ?_⟩;rintro rfl;exact hj (rZ hN B (I.ok.inj _ _ _ e hc ▸ hi))
  ·by_cases hcc:c'=c
   ·subst hcc;exact⟨_,hc'⟩
   ·obtain⟨w2,z2⟩:=I.cell y c' e;exact⟨w2,z2.sameBut l hcc⟩
  ·obtain⟨e,n,ne,nf,d⟩:=I.pin p hp;refine⟨(l.2 p.1 ?_).trans e,n,ne,nf,d⟩;intro q;rw[q,hoc]at e;have q':oc=p.2:=Option.some.inj e;exact d w' (by rw[←q'];exact hocd)
def sM {M:Model}{A:Zl}{E:Z5}{i:Nat}{v:V}{Q:Unit→Shared→Prop}(I:Inv X pins σ H s)(hN:X.N.Nodup)(hi:X.N[i]?=some x)(hx:qY X.env.scope x)(r:RelV v u)(h:∀s',Inv X pins (σ.set i (some v)) H s'→Q () s') (hf:X.fn x=true∨X.env.scope.names.lookup x=some .local:=by first|exact .inl rfl|exact .inr rfl|assumption):wpAny M A (storeName X.env x u) Q E s:=
 pG I hN hi hx r (λs' I' _=>h s' I') hf
def Inv.call' {s':Z3}{ch:Zt}(I:Inv X pins σ H s)(ho:s'.os=s.os)(u:Un (jG X.stack) ch H H' s.heap s'.heap)(hok:HOk X.prog X.w H' s'.heap)(hg:AllBare s'.gens)(hch:∀b∈ch,(b∈X.ex∨X.s₀.heap.objs.size≤b)∧b≠X.env.locals∧(∀x c,X.env.cells.lookup x=some c→c≠b)∧∀p∈X.pn ++ pins,p.1≠b):Inv X pins σ H' s':=by
 obtain⟨h',g',d',t',o'⟩:=s';have e:o'=s.os:=ho;subst e;exact I.call (g':=g') (t':=t') (d':=d') u hok hg hch
end
abbrev XK:=Value→Option Addr→Hp→Prop
abbrev St:=List (Option V)
abbrev VK:=V→Hp→Prop
abbrev TE:=St→Hp→VK→Prop
abbrev TT:=St→Hp→(Bool→Hp→Prop)→Prop
abbrev TA:=St→Hp→(List V→Hp→Prop)→Prop
structure Ends where
 nx:St→Hp→Prop
 rt:VK
 bk:St→Hp→Prop:=λ_ _=>False
 ct:St→Hp→Prop:=λ_ _=>False
abbrev TS:=Ends→St→Hp→Prop
inductive EP (X:Cx)(pins:Z9)(σ:St)(Q:VK)(u:Zc)(s':Z3):Prop
 |mk (v:V) (H':Hp) (i:Inv X pins σ H' s') (r:RelV v u) (q:Q v H')
inductive TP (X:Cx)(pins:Z9)(σ:St)(Q:Bool→Hp→Prop)(b:Bool)(s':Z3):Prop
 |mk (H':Hp) (i:Inv X pins σ H' s') (q:Q b H')
inductive AP (X:Cx)(pins:Z9)(σ:St)(Q:List V→Hp→Prop)(us:Z1)(s':Z3):Prop
 |mk (vs:List V) (H':Hp) (i:Inv X pins σ H' s') (r:Vals vs us) (q:Q vs H')
inductive SN (X:Cx)(pins:Z9)(P:St→Hp→Prop)(s':Z3):Prop
 |mk (σ':St) (H':Hp) (i:Inv X pins σ' H' s') (q:P σ' H')
inductive SRt (X:Cx)(pins:Z9)(P:VK)(u:Zc)(s':Z3):Prop
 |mk (v:V) (σ':St) (H':Hp) (i:Inv X pins σ' H' s') (r:RelV v u) (q:P v H')
def SP (X:Cx)(pins:Z9)(D:Ends)(f:Flow)(s':Z3):Prop:=
 match f with
 |.next=>SN X pins D.nx s'
 |.brk=>SN X pins D.bk s'
 |.cont=>SN X pins D.ct s'
 |.ret u=>SRt X pins D.rt u s'
def PE (X:Cx)(e:Y1)(t:TE):Prop:=
 ∀(pins:Z9) (s:Z3) (σ:St) (H:Hp) (Q:VK),Inv X pins σ H s→t σ H Q→wpAny (model X.prog X.w) X.A (eval e X.env) (EP X pins σ Q) X.xe s
def PT (X:Cx)(e:Y1)(t:TT):Prop:=
 ∀(pins:Z9) (s:Z3) (σ:St) (H:Hp) (Q:Bool→Hp→Prop),Inv X pins σ H s→t σ H Q→wpAny (model X.prog X.w) X.A (isTrue e X.env (eval e X.env)) (TP X pins σ Q) X.xe s
def PA (X:Cx)(es:Zd)(t:TA):Prop:=
 ∀(pos:Yn) (pins:Z9) (s:Z3) (σ:St) (H:Hp) (Q:List V→Hp→Prop),Inv X pins σ H s→t σ H Q→wpAny (model X.prog X.w) X.A (spliced (backTo pos (starEach es X.env))) (AP X pins σ Q) X.xe s
def PS (X:Cx)(st:Yl)(t:TS):Prop:=
 ∀(pins:Z9) (s:Z3) (σ:St) (H:Hp) (D:Ends),Inv X pins σ H s→t D σ H→wpAny (model X.prog X.w) X.A (exec st X.env) (SP X pins D) X.xe s
def En (X:Cx)(st:List Stmt)(t:TS):Prop:=
 ∀(pins:Z9) (s:Z3) (σ:St) (H:Hp) (D:Ends),Inv X pins σ H s→t D σ H→wpAny (model X.prog X.w) X.A (execs st X.env) (SP X pins D) X.xe s
def aS {α:Type}{t:Sem α}{Q Q':α→Shared→Prop}{M:Model}{A:Zl}{E:Z5}{s:Z3}(h:wpAny M A t Q E s)(hQ:∀a s,Q a s→Q' a s):wpAny M A t Q' E s:=wpAny_mono h hQ λ_ _ x=>x
section
variable{X:Cx}
def Fw (i:Nat):TE:=λσ H Q=>∃v,σ[i]?=some (some v)∧Q v H
def tC (v:V):TE:=λ_ H Q=>Q v H
def eh {i:Nat}(hN:X.N[i]?=some x)(hv:tm X.env.scope x)(hd:zQ1 x:=by decide)(hcd:(x==("__classdict__" :Str))=false:=by decide):PE X (.Name x pos) (Fw i):=by
 intro pins s σ H Q I h;obtain⟨v,e,h⟩:=h;obtain⟨m,hn,hl⟩:=I.loc;obtain⟨u,r,l⟩:=hl i x v hN e hv;have fin:EP X pins σ Q u s:=⟨v,H,I,r,h⟩
 rcases l with ⟨hk,hm⟩|⟨hk,c,hc,n⟩
 ·exact wpAny_Name (wpAny_loadName_local I.ok.kind hk hn hm fin) hd
 ·rcases hk with hk|hk
  ·exact wpAny_Name (wpAny_loadName_cell I.ok.kind hk hc n fin) hd
  ·exact wpAny_Name (wpAny_loadName_free I.ok.kind hk hc n fin hcd) hd
def yJ {i j pos}:PE X (.Constant (.int i) j pos) (tC (.int i)):=λ_ _ _ H _ I h=>wpAny_Constant_int ⟨.int i,H,I.tok _,⟨_,rfl⟩,h⟩
def Fi {b j pos}:PE X (.Constant (.bool b) j pos) (tC (.bl b)):=λ_ _ _ H _ I h=>Constant_bool ⟨.bl b,H,I,rfl,h⟩
def DO {j pos}:PE X (.Constant .none j pos) (tC .non):=λ_ _ _ H _ I h=>Constant_none ⟨.non,H,I,rfl,h⟩
def DR {x j pos}:PE X (.Constant (.str x) j pos) (tC (.str x)):=λ_ _ _ H _ I h=>Calls.Constant_str ⟨.str x,H,I.tok _,⟨_,rfl⟩,h⟩
def Gl (X:Cx)(x:Yq):Prop:=X.env.kindOf x=some .globalImplicit
def qw {E:Z5}{pins:Z9}{s:Z3}{σ:St}{H:Hp}{pos:Yn}{Q:Z5}(I:Inv X pins σ H s)(hg:Gl X x)(hm:X.mg x=some u)(h:Q u s)(hd:zQ1 x:=by decide):wpAny (model X.prog X.w) X.A (eval (.Name x pos) X.env) Q E s:=
 Calls.Name_function_global I.ok.kind hg (Calls.loadGlobal_global (by rw[I.ok.glob];exact I.mod.glob.keeps I.bk) hm h) hd
def iW {E:Z5}{pins:Z9}{s:Z3}{σ:St}{H:Hp}{pos:Yn}{Q:Z5}(I:Inv X pins σ H s)(hg:Gl X x)(hm:X.mg x=none)(hv:bootBuiltins x=some u)(h:Q u s)(hn:x≠ "__name__" :=by decide) (hd:zQ1 x:=by decide):wpAny (model X.prog X.w) X.A (eval (.Name x pos) X.env) Q E s:=by
 obtain⟨mb,h1,h2⟩:=I.mod.blt;exact Calls.Name_function_global I.ok.kind hg (Calls.loadGlobal_builtin (by rw[I.ok.glob];exact I.mod.glob.keeps I.bk) hm (by rw[I.ok.blt];exact h1.keeps I.bk) ((h2 x hn).trans hv) h) hd
def A7 {v:V}(hg:Gl X x)(hm:X.mg x=some u)(r:RelV v u)(hd:zQ1 x:=by decide):PE X (.Name x pos) (tC v):=
 λ_ _ _ H _ I h=>qw I hg hm ⟨v,H,I,r,h⟩ hd
def qG {v:V}(hg:Gl X x)(hm:X.mg x=none)(hv:bootBuiltins x=some u)(r:RelV v u)(hn:x≠ "__name__" :=by decide)(hd:zQ1 x:=by decide):PE X (.Name x pos) (tC v):=
 λ_ _ _ H _ I h=>iW I hg hm hv ⟨v,H,I,r,h⟩ hn hd
variable{a b:Y1}{ta tb:TE}{pos:Pos}
variable{tA tB':TT}{rest:List Expr}
end
def f_ (K:Z8)(H:Hp)(a:Zz)(xs:List V):Prop:=
 Rd H a (.lst xs)∨
  ∃(o:Obj) (its:Ym) (n:Nat),K.lookup a=some o∧o.cls= .type "list" ∧o.dict=none∧o.data= .seq its n∧its.size≤sizeLine∧Vals xs its.toList
def lT (K:Z8)(H:Hp)(a:Zz)(xs:List V):Prop:=
 Rd H a (.tup xs)∨
  ∃(o:Obj) (its:Ym) (n:Nat),K.lookup a=some o∧o.cls= .type "tuple" ∧o.data= .seq its n∧its.size≤sizeLine∧Vals xs its.toList
def FO:Value→Option V
 |.none=>some .non
 |.bool b=>some (.bl b)
 |.int i _=>some (.int i)
 |.str x _=>some (.str x)
 |.bytes b _=>some (.byt b)
 |.float b _=>some (.flt b)
 |.ref a=>some (.ref a)
 |.type n=>some (.ty n)
 |_=>none
def RelV.abs {x:V}(r:RelV x u):FO u=some x:=by
 cases x with
 |non=>cases r;rfl
 |bl _=>cases r;rfl
 |int _=>obtain⟨t,rfl⟩:=r;rfl
 |str _=>obtain⟨t,rfl⟩:=r;rfl
 |byt _=>obtain⟨t,rfl⟩:=r;rfl
 |flt _=>obtain⟨t,rfl⟩:=r;rfl
 |ref _=>cases r;rfl
 |ty _=>cases r;rfl
def RelV.inj {x y:V}(r:RelV x u)(q:RelV y u):x=y:=Option.some.inj (r.abs.symm.trans q.abs)
theorem Vals.inj:∀{xs ys:List V} {us:List Value},Vals xs us→Vals ys us→xs=ys
 |_,_,_,.nil,.nil=>rfl
 |_,_,_,.cons r t,.cons r' t'=>by rw[r.inj r',Vals.inj t t']
section
variable{X:Cx}{pins:Z9}{σ:St}{H:Hp}{s:Z3}{a:Zz}{xs ys:List V}
def Inv.list (I:Inv X pins σ H s)(h:f_ X.K H a xs):∃its:List Value,Vals xs its∧PlainL s.heap a its.toArray∧xs.length≤sizeLine:=by
 rcases h with h|⟨o,its,n,hk,hc,hd,hs,hz,r⟩
 ·obtain⟨z,its,n,r,e⟩:=h.ok I.hok;exact⟨its,r,⟨_,n,e,rfl,rfl,rfl⟩,z⟩
 ·refine⟨its.toList,r,⟨o,n,I.kIn a o hk,hc,hd,by simpa using hs⟩,?_⟩;have e:=r.length;simp only[length_toList]at e;omega
def Inv.tuple (I:Inv X pins σ H s)(h:lT X.K H a xs):∃its:List Value,Vals xs its∧IsTup s.heap a its.toArray∧xs.length≤sizeLine:=by
 rcases h with h|⟨o,its,n,hk,hc,hs,hz,r⟩
 ·obtain⟨z,its,r,p⟩:=h.ok I.hok;exact⟨its,r,p,z⟩
 ·refine⟨its.toList,r,⟨o,I.kIn a o hk,hc,n,by simpa using hs⟩,?_⟩;have e:=r.length;simp only[length_toList]at e;omega
def Inv.list_inj (I:Inv X pins σ H s)(h:f_ X.K H a xs)(h':f_ X.K H a ys):xs=ys:=by
 obtain⟨its,r,⟨o,n,e,_,_,d⟩,_⟩:=I.list h;obtain⟨its',r',⟨o',n',e',_,_,d'⟩,_⟩:=I.list h';rw[e]at e';cases e';rw[d]at d';injection d' with d1 _
 have:its=its':=by simpa using congrArg toList d1
 subst this;exact r.inj r'
def Inv.tuple_inj (I:Inv X pins σ H s)(h:lT X.K H a xs)(h':lT X.K H a ys):xs=ys:=by
 obtain⟨its,r,⟨o,e,_,n,d⟩,_⟩:=I.tuple h;obtain⟨its',r',⟨o',e',_,n',d'⟩,_⟩:=I.tuple h';rw[e]at e';cases e';rw[d]at d';injection d' with d1 _
 have:its=its':=by simpa using congrArg toList d1
 subst this;exact r.inj r'
end
section
variable{X:Cx}{pins:Z9}{σ:St}{H:Hp}{s:Z3}{E:Value→Shared→Prop}
end
section
variable{X:Cx}{st:Yl}{rest:List Stmt}{t u:TS}{e:Y1}{te:TE}{pos:Pos}
def Gp (t u:TS):TS:=λD σ H=>t {D with nx:=u D} σ H
def sv (h1:PS X st t)(h2:En X rest u):En X (st::rest) (Gp t u):=by
 intro pins s σ H D I h;refine wpAny_execs_cons (aS (h1 pins s σ H {D with nx:=u D} I h) λf s1 q=>?_)
 cases f with
 |next=>
  obtain⟨σ',H',I',q⟩:=q;exact h2 pins s1 σ' H' D I' q
 |ret v=>exact q
 |brk=>exact q
 |cont=>exact q
def vq (h1:PS X st t):En X [st] t:=by
 intro pins s σ H D I h;refine wpAny_execs_cons (aS (h1 pins s σ H D I h) λf s1 q=>?_);cases f with
 |next=>exact wpAny_execs_nil q
 |ret v=>exact q
 |brk=>exact q
 |cont=>exact q
def Inv.quiet {pins:Z9}{σ:St}{H:Hp}{s:Z3}(I:Inv X pins σ H s):interactive X.env=false:=by simp[interactive,I.ok.kind]
def Fu (te:TE):TS:=λD σ H=>te σ H λ_ H1=>D.nx σ H1
def eQ (he:PE X e te)(hs:swapsWith e none pos.line X.env=pure false:=by rfl):PS X (.Expr e pos) (Fu te):=by
 intro pins s σ H D I h;exact wpAny_Expr_any (aS (he pins s σ H _ I h) λv s1 hZ50=>(by obtain⟨x,H1,I1,r1,q1⟩:=hZ50;exact⟨σ,H1,I1,q1⟩)) I.quiet hs
def Gn (te:TE):TS:=λD σ H=>te σ H D.rt
def ug (he:PE X e te):PS X (.Return (some e) pos) (Gn te):=by
 intro pins s σ H D I h;exact wpAny_Return_some (aS (he pins s σ H _ I h) λv s1 hZ51=>(by obtain⟨x,H1,I1,r1,q1⟩:=hZ51;exact⟨x,σ,H1,I1,r1,q1⟩))
end
abbrev TG:=V→St→Hp→(St→Hp→Prop)→Prop
abbrev Ci:=List V→St→Hp→(St→Hp→Prop)→Prop
def PG (X:Cx)(target:Y1)(t:TG):Prop:=
 ∀(pins:Z9) (s:Z3) (σ:St) (H:Hp) (v:V) (u:Zc) (Q:St→Hp→Prop),Inv X pins σ H s→RelV v u→t v σ H Q→
  wpAny (model X.prog X.w) X.A (assign target X.env u) (λ_ s'=>SN X pins Q s') X.xe s
def FC (X:Cx)(ts:Zd)(t:Ci):Prop:=
 ∀(pins:Z9) (s:Z3) (σ:St) (H:Hp) (vs:List V) (us:Z1) (Q:St→Hp→Prop),Inv X pins σ H s→Vals vs us→t vs σ H Q→
  wpAny (model X.prog X.w) X.A (assignInOrder ((assignEach ts X.env).map (·.2)) us) (λ_ s'=>SN X pins Q s') X.xe s
abbrev Cj:=V→V→V→Hp→(Hp→Prop)→Prop
def Eu (X:Cx)(t:Cj):Prop:=
 ∀(pins:Z9) (s:Z3) (σ:St) (H:Hp) (o i v:V) (ov iv u:Zc) (Q:Hp→Prop),Inv X pins σ H s→RelV o ov→RelV i iv→RelV v u→t o i v H Q→
  wpAny (model X.prog X.w) X.A (setItem ov iv u) (λ_ s'=>∃H',Inv X pins σ H' s'∧Q H') X.xe s
section
variable{X:Cx}{pos:Pos}
def cn (i:Nat):TG:=λv σ H Q=>Q (σ.set i (some v)) H
def dX {i:Nat}(hN:X.N.Nodup)(hi:X.N[i]?=some x)(hx:qY X.env.scope x)(hf:X.fn x=true∨X.env.scope.names.lookup x=some .local:=by first|exact .inl rfl|exact .inr rfl|assumption):PG X (.Name x pos) (cn i):=by
 intro pins s σ H v u Q I r h;exact wpAny_assign_Name (sM I hN hi hx r (λs' I'=>⟨_,H,I',h⟩) hf)
def wf:Ci:=λvs σ H Q=>vs=[]∧Q σ H
def iV (t:TG)(u:Ci):Ci:=λvs σ H Q=>∃v r,vs=v::r∧t v σ H λσ' H'=>u r σ' H' Q
def qH:FC X [] wf:=by
 intro pins s σ H vs us Q I r h;obtain⟨e,h⟩:=h;subst e;cases r;exact assignInOrder_nil ⟨σ,H,I,h⟩
def gB {t:TG}{u:Ci}(h1:PG X e t)(h2:FC X es u)(hs:(assignEach (e::es) X.env).map (·.2)=assign e X.env::(assignEach es X.env).map (·.2):=by rfl):FC X (e::es) (iV t u):=by
 intro pins s σ H vs us Q I r h;obtain⟨v,vr,e1,h⟩:=h;subst e1;cases r with
 |cons r rr=>
  rw[hs];refine assignInOrder_cons (aS (h1 pins s σ H _ _ _ I r h) λ_ s1 hZ52=>?_);obtain⟨σ1,H1,I1,q1⟩:=hZ52;exact h2 pins s1 σ1 H1 _ _ Q I1 rr q1
def wg (K:Z8)(n:Nat)(t:Ci):TG:=λv σ H Q=>∃a xs,v= .ref a∧lT K H a xs∧xs.length=n∧t xs σ H Q
def ud {k:Nat}{t:Ci}{n:Nat}(hc:X.calm=true)(h:FC X es t)(hn:(assignEach es X.env).length=n:=by rfl) (hst:(assignEach es X.env).findIdx? (·.1)=none:=by rfl):PG X (.Tuple es k pos) (wg X.K n t):=by
 intro pins s σ H v u Q I r hw;obtain⟨a,xs,e1,hq,hl,hw⟩:=hw;subst e1;cases r;obtain⟨its,rv,ht,hz⟩:=I.tuple hq;refine assign_Tuple_tuple (I.ok.hd hc) ht (by simp[hn,←hl,rv.length]) hst λh' hx=>?_;have I1:Inv X pins σ H {s with heap:=h'}:=I.kept (t':=s.toks) λb o e=>hx b o (ne_of_lt (Ys e)) e
 exact h pins _ σ H xs _ Q I1 (by simpa using rv) hw
def FX (to ti:TE)(t:Cj):TG:=λv σ H Q=>to σ H λo H1=>ti σ H1 λi H2=>t o i v H2 λH3=>Q σ H3
def DT {to ti:TE}{t:Cj}(ho:PE X o to)(hi:PE X i ti)(hs:Eu X t)(ha:∀v,assign (.Subscript o i pos) X.env v=(do
   let ov ←holding [v] (eval o X.env)
   let iv ←holding [v,ov] (eval i X.env)
   standAt pos
   holding [v,ov,iv] (setItem ov iv v)
   release [v,ov,iv] []):=by intro _;rfl):PG X (.Subscript o i pos) (FX to ti t):=by
 intro p s σ H v u Q I r h;rw[ha];refine Zx (wpAny_holding (aS (ho p s σ H _ I h) λov s1 hZ53=>?_));obtain⟨x,H1,I1,r1,q1⟩:=hZ53;refine Zx (wpAny_holding (aS (hi p s1 σ H1 _ I1 q1) λiv s2 hZ54=>?_));obtain⟨y,H2,I2,r2,q2⟩:=hZ54;refine Zx (wpAny_standAt (Zx (wpAny_holding (aS (hs p s2 σ H2 x y v ov iv u _ I2 r1 r2 r q2) λ_ s3 hZ55=>?_))));obtain⟨H3,I3,q3⟩:=hZ55;exact wpAny_release ⟨σ,H3,I3,q3⟩
def sN (te:TE)(g:TG):TS:=λD σ H=>te σ H λx H1=>g x σ H1 D.nx
def D3 {te:TE}{g:TG}(he:PE X e te)(hg:PG X tg g)(hs:swapsWithSole [tg] e pos.line X.env=pure false:=by rfl)(hw:swappedStores [tg] e X.env=pure none:=by rfl)(h1:(assignEach [tg] X.env).map (·.2)=[assign tg X.env]:=by rfl):PS X (.Assign [tg] e pos) (sN te g):=by
 intro pins s σ H D I h;refine wpAny_Assign_stores (aS (he pins s σ H _ I h) λv s1 hZ56=>?_) hs hw;obtain⟨x,H1,I1,r1,q1⟩:=hZ56;rw[h1];exact aS (hg pins s1 σ H1 x v _ I1 r1 q1) λ_ s2 q=>q
def D5 {i:Nat}{te:TE}(hN:X.N.Nodup)(hi:X.N[i]?=some x)(hx:qY X.env.scope x)(he:PE X e te)(hs:swapsWith e (some (.Name x pos')) pos.line X.env=pure false:=by rfl)(hf:X.fn x=true∨X.env.scope.names.lookup x=some .local:=by first|exact .inl rfl|exact .inr rfl|assumption) :
  PS X (.Assign [.Name x pos'] e pos) (sN te (cn i)):=by
 intro pins s σ H D I h;refine wpAny_Assign_Name (aS (he pins s σ H _ I h) λv s1 hZ57=>?_) hs;obtain⟨y,H1,I1,r1,q1⟩:=hZ57;exact sM I1 hN hi hx r1 (λs2 I2=>⟨_,H1,I2,q1⟩) hf
end
structure It where
 go:Nat→Hp→Prop
 yld:Nat→Hp→V→Hp→Prop
 stop:Nat→Hp→Prop
def iG (X:Cx)(pins:Z9)(H:Hp)(b:Zz):Prop:=
 H b=none∧b≠X.env.locals∧b∉X.fs∧(b∈X.ex∨X.s₀.heap.objs.size≤b)∧(∀x c,X.env.cells.lookup x=some c→c≠b)∧∀p∈X.pn ++ pins,p.1≠b
def Inv.fpOk {X:Cx}{pins:Z9}{σ:St}{H H':Hp}{s:Z3}(I:Inv X pins σ H s)(hb:s.heap.objs.size≤b)(hn:H' b=none):iG X pins H' b:=by
 refine⟨hn,ne_of_gt (lt_of_lt_of_le I.lt hb),I.nofs hb,.inr (le_trans I.sz hb),λx c e z=>?_,λp hp z=>?_⟩
 ·obtain⟨v,q⟩:=I.cell x c e;exact absurd (lt_of_lt_of_le q.lt (by rw[z];exact hb)) (lt_irrefl _)
 ·exact absurd (lt_of_lt_of_le (Ys (I.pin p hp).1) (by rw[z];exact hb)) (lt_irrefl _)
structure Turn (P:Zv)(w:Zn)(K:Z8)(tg:Y1)(J:It)(fp:Zt)(it:Zz)(tn:Nat→Heap→Prop):Prop where
 mem:it∈fp
 obj:∀i h,tn i h→∀b∈fp,∃o,h.get? b=some o∧∀v,o.data≠ .cell v
 keep:∀i h h',tn i h→(∀b∈fp,∀o,h.get? b=some o→h'.get? b=some o)→tn i h'
 item:∀(X:Cx),X.prog=P→X.w=w→X.K=K→X.calm=true→∀(i:Nat) (pins:Z9) (s:Z3) (σ:St) (H:Hp) (E:Value→Shared→Prop),Inv X pins σ H s→(∀b∈fp,iG X pins H b)→tn i s.heap→J.go i H→
  wpAny (model P w) X.A (pyNext (.ref it)) (λr s1=>∃u,r=some u∧
   wpAny (model P w) X.A (letOwnedTupleGo tg (.ref it) u) (λ_ s2=>∃x H',Inv X pins σ H' s2∧RelV x u∧J.yld i H x H'∧tn (i+1) s2.heap∧∀b∈fp,H' b=none) E s1) E s
 done:∀(X:Cx),X.prog=P→X.w=w→X.K=K→X.calm=true→∀(i:Nat) (pins:Z9) (s:Z3) (σ:St) (H:Hp) (E:Value→Shared→Prop),Inv X pins σ H s→(∀b∈fp,iG X pins H b)→tn i s.heap→J.stop i H→
  wpAny (model P w) X.A (pyNext (.ref it)) (λr s1=>r=none∧Inv X pins σ H s1) E s
 self:∀(A:Zl) (i:Nat) (s:Z3) (Q:Z5) (E:Value→Shared→Prop),tn i s.heap→Q (.ref it) s→wpAny (model P w) A (pyIter (.ref it)) Q E s
abbrev TI:=St→Hp→(It→Hp→Prop)→Prop
inductive PIE (X:Cx)(pins:Z9)(σ:St)(tg:Y1)(R:It→Hp→Prop)(itv:Zc)(s2:Z3):Prop
 |mk (it:Zz) (fp:Zt) (tn:Nat→Heap→Prop) (J:It) (H':Hp) (e:itv= .ref it) (i:Inv X pins σ H' s2) (T:Turn X.prog X.w X.K tg J fp it tn) (st:tn 0 s2.heap) (f:∀b∈fp,iG X pins H' b) (q:R J H')
def PI (X:Cx)(tg iter:Y1)(wi:TI):Prop:=
 ∀(pins:Z9) (s:Z3) (σ:St) (H:Hp) (R:It→Hp→Prop),Inv X pins σ H s→wi σ H R→
  wpAny (model X.prog X.w) X.A (eval iter X.env) (λv s1=>wpAny (model X.prog X.w) X.A (pyIter v) (PIE X pins σ tg R) X.xe s1) X.xe s
def uY {M:Model}{A:Zl}{E:Z5}{s:Z3}{tg:Y1}{u:Zc}{o:Obj}{n:String}{vs:Ym}{Q:Unit→Shared→Prop}(ho:s.heap.get? it=some o)(hc:o.cls= .type n)(hd:o.data= .fields vs)(hn:["enumerate","zip","dict_itemiterator","dict_reverseitemiterator","odict_iterator","itertools.zip_longest","itertools.pairwise"].contains n=false) (hQ:Q () s):wpAny M A (letOwnedTupleGo tg (.ref it) u) Q E s:=by
  unfold letOwnedTupleGo;cases tg <;> first
    |exact Zp hQ
    | (cases u <;> first
        |exact Zp hQ
        | (refine Zx (wpAny_load ho ?_)
           rw[hc,hd];show wpAny M A (if (["enumerate","zip","dict_itemiterator","dict_reverseitemiterator","odict_iterator","itertools.zip_longest","itertools.pairwise"].contains n&&vs[0]?==some (rawInt _))=true then _ else _) Q E s
           rw[Yi (by intro h;rw[hn,Bool.false_and]at h;cases h)];exact Zp hQ))
def BO (K:Z8)(a:Zz):It:=
 ⟨λi H=>∃xs x,f_ K H a xs∧xs[i]?=some x,λi H x H'=>H'=H∧∀xs,f_ K H a xs→xs[i]?=some x,λi H=>∃xs,f_ K H a xs∧xs.length≤i⟩
def FA (K:Z8)(a:Zz):It:=
 ⟨λi H=>∃xs x,lT K H a xs∧xs[i]?=some x,λi H x H'=>H'=H∧∀xs,lT K H a xs→xs[i]?=some x,λi H=>∃xs,lT K H a xs∧xs.length≤i⟩
def Er (lo:Int)(n:Nat):It:=⟨λi _=>i<n,λi H x H'=>H'=H∧x= .int (lo+i),λi _=>n≤i⟩
def wZ {P:Zv}{w:Zn}{K:Z8}(a it:Zz):Turn P w K tg (BO K a) [it] it (λi h=>h.IsListIter it a i) where
 mem:=by simp
 obj:=λi h q b hb=>by
  have e:b=it:=by simpa using hb
  subst e;obtain⟨o,e,c,d⟩:=q;exact⟨o,e,λv z=>by rw[d]at z;cases z⟩
 keep:=λi h h' q k=>q.at λo e=>k it (by simp) o e
 item:=by
  intro X hP hw hK hc i pins s σ H E I hf q hg;subst hP hw hK;obtain⟨xs,x,hq,hx⟩:=hg;obtain⟨its,rv,p,hz⟩:=I.list hq;obtain⟨u,hu,ru⟩:=rv.get hx;obtain⟨f0,f1,f2,f3,f4,f5⟩:=hf it (by simp);refine wpAny_pyNext_list_item q p.isList (x:=u) (by simpa using hu) λh' st' sb=>?_;have I1:Inv X pins σ H {s with heap:=h'}:=I.turned (t':=s.toks) (λb o hb e=>(sb.2 b hb).trans e) f0 f1 f3 f4 f5
  obtain⟨o,e,c,d⟩:=id st';exact⟨u,rfl,uY (s:={s with heap:=h'}) e c d (by decide) ⟨x,H,I1,ru,⟨rfl,λys hy=>by rw[I.list_inj hy hq];exact hx⟩,st',λb hb=>(hf b hb).1⟩⟩
 done:=by
  intro X hP hw hK hc i pins s σ H E I hf q hg;subst hP hw hK;obtain⟨xs,hq,hx⟩:=hg;obtain⟨its,rv,p,hz⟩:=I.list hq;obtain⟨f0,f1,f2,f3,f4,f5⟩:=hf it (by simp);have hl:=rv.length;exact wpAny_pyNext_list_end (I.ok.hd hc) q p.isList (by simp;omega) λh' eb=>⟨rfl,I.turned (t':=s.toks) (λb o hb e=>eb b o hb e) f0 f1 f3 f4 f5⟩
 self:=λ_ _ _ _ _ q h=>wpAny_pyIter_listiter q h
def uw {P:Zv}{w:Zn}{K:Z8}(a it:Zz):Turn P w K tg (FA K a) [it] it (λi h=>h.IsTupleIter it a i) where
 mem:=by simp
 obj:=λi h q b hb=>by
  have e:b=it:=by simpa using hb
  subst e;obtain⟨o,e,c,d⟩:=q;exact⟨o,e,λv z=>by rw[d]at z;cases z⟩
 keep:=λi h h' q k=>q.at λo e=>k it (by simp) o e
 item:=by
  intro X hP hw hK hc i pins s σ H E I hf q hg;subst hP hw hK;obtain⟨xs,x,hq,hx⟩:=hg;obtain⟨its,rv,p,hz⟩:=I.tuple hq;obtain⟨u,hu,ru⟩:=rv.get hx;obtain⟨f0,f1,f2,f3,f4,f5⟩:=hf it (by simp);refine wpAny_pyNext_tuple_item q (show s.heap.IsTuple a its.toArray from p) (x:=u) (by simpa using hu) λh' st' sb=>?_;have I1:Inv X pins σ H {s with heap:=h'}:=I.turned (t':=s.toks) (λb o hb e=>(sb.2 b hb).trans e) f0 f1 f3 f4 f5
  obtain⟨o,e,c,d⟩:=id st';exact⟨u,rfl,uY (s:={s with heap:=h'}) e c d (by decide) ⟨x,H,I1,ru,⟨rfl,λys hy=>by rw[I.tuple_inj hy hq];exact hx⟩,st',λb hb=>(hf b hb).1⟩⟩
 done:=by
  intro X hP hw hK hc i pins s σ H E I hf q hg;subst hP hw hK;obtain⟨xs,hq,hx⟩:=hg;obtain⟨its,rv,p,hz⟩:=I.tuple hq;obtain⟨f0,f1,f2,f3,f4,f5⟩:=hf it (by simp);have hl:=rv.length;exact wpAny_pyNext_tuple_end (I.ok.hd hc) q (show s.heap.IsTuple a its.toArray from p) (by simp;omega) λh' eb=>⟨rfl,I.turned (t':=s.toks) (λb o hb e=>eb b o hb e) f0 f1 f3 f4 f5⟩
 self:=λ_ _ _ _ _ q h=>wpAny_pyIter_tupleiter q h
def uv {P:Zv}{w:Zn}{K:Z8}(it:Zz)(lo:Int)(n:Nat):Turn P w K tg (Er lo n) [it] it (λi h=>IsRangeIter h it (lo+(i:Nat)*1) ((n:Int)-(i:Nat)) 1) where
 mem:=by simp
 obj:=λi h p b hb=>by
  have e:b=it:=by simpa using hb
  subst e;exact⟨_,p,λv z=>by
   have z':Data.fields _=Data.cell v:=z;cases z'⟩
 keep:=λi h h' p k=>k it (by simp) _ p
 item:=by
  intro X hP hw hK hc i pins s σ H E I hf p hg;subst hP hw hK;obtain⟨f0,f1,f2,f3,f4,f5⟩:=hf it (by simp);have W:=Walks.range (prog:=X.prog) (w:=X.w) (I.ok.hd hc) it lo 1 n;refine W.item i s _ _ hg p λv h' tk hv st' kk=>?_;obtain⟨t,rfl⟩:=hv;have I1:Inv X pins σ H {s with heap:=h',toks:=tk}:=I.turned (λb o hb e=>kk b o (by simpa using hb) e) f0 f1 f3 f4 f5
  refine⟨_,rfl,uY (s:={s with heap:=h',toks:=tk}) (n:= "range_iterator") st' rfl rfl (by decide) ⟨.int (lo+i),H,I1,⟨t,?_⟩,⟨rfl,rfl⟩,st',λb hb=>(hf b hb).1⟩⟩
  rw[Int.mul_one]
 done:=by
  intro X hP hw hK hc i pins s σ H E I hf p hg;subst hP hw hK;obtain⟨f0,f1,f2,f3,f4,f5⟩:=hf it (by simp);exact wpAny_pyNext_range_end (I.ok.hd hc) p (by have:n≤i:=hg;omega) λh' eb=>⟨rfl,I.turned (t':=s.toks) (λb o hb e=>eb b o hb e) f0 f1 f3 f4 f5⟩
 self:=λ_ _ _ _ _ p h=>wpAny_pyIter_rangeiter p h
section
variable{X:Cx}{tg:Expr}
def EN (K:Z8)(tl:TE):TI:=λσ H R=>tl σ H λx H1=>∃a,x= .ref a∧(∃xs,f_ K H1 a xs)∧R (BO K a) H1
def F0 (K:Z8)(tl:TE):TI:=λσ H R=>tl σ H λx H1=>∃a,x= .ref a∧(∃xs,lT K H1 a xs)∧R (FA K a) H1
def qI {tl:TE}(hl:PE X l tl):PI X tg l (EN X.K tl):=by
 intro pins s σ H R I h;refine aS (hl pins s σ H _ I h) λv s1 hZ58=>?_;obtain⟨x,H1,I1,r1,q1⟩:=hZ58;obtain⟨a,e,⟨xs,hq⟩,q⟩:=q1;subst e;cases r1;obtain⟨its,rv,p,hz⟩:=I1.list hq;refine wpAny_pyIter_list p.isList ?_;refine⟨s1.heap.objs.size,[s1.heap.objs.size],_,_,H1,rfl,I1.kept (t':=s1.toks) λb o e=>Heap.get?_push_of_some _ e,wZ a _,⟨_,Heap.get?_push_size _ rfl,rfl,rfl⟩,λb hb=>?_,q⟩;have e:b=s1.heap.objs.size:=by simpa using hb
 subst e;exact I1.fpOk (le_refl _) (I1.hok.fresh (le_refl _))
def DU {tl:TE}(hl:PE X l tl):PI X tg l (F0 X.K tl):=by
 intro pins s σ H R I h;refine aS (hl pins s σ H _ I h) λv s1 hZ59=>?_;obtain⟨x,H1,I1,r1,q1⟩:=hZ59;obtain⟨a,e,⟨xs,hq⟩,q⟩:=q1;subst e;cases r1;obtain⟨its,rv,p,hz⟩:=I1.tuple hq;refine wpAny_pyIter_tuple (show s1.heap.IsTuple a its.toArray from p) ?_;refine⟨s1.heap.objs.size,[s1.heap.objs.size],_,_,H1,rfl,I1.kept (t':=s1.toks) λb o e=>Heap.get?_push_of_some _ e,uw a _,⟨_,Heap.get?_push_size _ rfl,rfl,rfl⟩,λb hb=>?_,q⟩;have e:b=s1.heap.objs.size:=by simpa using hb
 subst e;exact I1.fpOk (le_refl _) (I1.hok.fresh (le_refl _))
def sw {pins:Z9}{σ:St}{H:Hp}{s:Z3}{R:It→Hp→Prop}{E:Z5}{lo hi:Int}{t u v:Tok}{tk:Nat}(I:Inv X pins σ H s)(h1: -(2 ^ 62)≤lo)(h2:lo<2 ^ 62)(h3: -(2 ^ 62)≤hi)(h4:hi<2 ^ 62)(q:R (Er lo (hi-lo).toNat) H):wpAny (model X.prog X.w) X.A (pyIter (.ref s.heap.objs.size)) (PIE X pins σ tg R) E {s with heap:=s.heap.push {cls:=.type "range",data:=.fields #[.int lo t,.int hi u,.int 1 v]},toks:=tk}:=by
 refine wpAny_pyIter_range (IsRange.new ..) (small_one h1 h2 h3 h4) ?_;have I1:Inv X pins σ H {s with heap:=s.heap.push {cls:=.type "range",data:=.fields #[.int lo t,.int hi u,.int 1 v]},toks:=tk}:=I.kept λb o e=>Heap.get?_push_of_some _ e
 refine⟨(s.heap.push {cls:=.type "range",data:=.fields #[.int lo t,.int hi u,.int 1 v]}).objs.size,[(s.heap.push {cls:=.type "range",data:=.fields #[.int lo t,.int hi u,.int 1 v]}).objs.size],_,_,H,rfl,
  I1.kept (t':=tk) λb o e=>Heap.get?_push_of_some _ e,uv _ lo (hi-lo).toNat,?_,λb hb=>?_,q⟩
 ·have e1:lo+((0:Nat):Int)*1=lo:=by simp
  have e2:(((hi-lo).toNat:Nat):Int)-((0:Nat):Int)=Builtin.Range.rangeSize lo hi 1:=by rw[rangeSize_one];split <;> omega
  show IsRangeIter _ _ (lo+((0:Nat):Int)*1) ((((hi-lo).toNat:Nat):Int)-((0:Nat):Int)) 1;rw[e1,e2];exact Heap.get?_push_size _ rfl
 ·have e:b=(s.heap.push {cls:=.type "range",data:=.fields #[.int lo t,.int hi u,.int 1 v]}).objs.size:=by simpa using hb
  subst e;exact I1.fpOk (le_refl _) (I1.hok.fresh (le_refl _))
def EO (ta:TA):TI:=λσ H R=>ta σ H λvs H1=>∃j:Int,vs=[.int j]∧ -(2 ^ 62)≤j∧j<2 ^ 62∧R (Er 0 j.toNat) H1
def EQ (ta:TA):TI:=λσ H R=>ta σ H λvs H1=>∃i j:Int,vs=[.int i,.int j]∧(-(2 ^ 62)≤i∧i<2 ^ 62∧ -(2 ^ 62)≤j∧j<2 ^ 62)∧R (Er i (j-i).toNat) H1
def pf {ta:TA}(hg:Gl X "range")(hm:X.mg "range" =none)(ha:PA X [a] ta)(hs:starEach [a] X.env=[(false,eval a X.env)]:=by rfl):PI X tg (.Call (.Name "range" p) [a] [] pos) (EO ta):=by
 intro pins s σ H R I h;refine Call_ (iW I hg hm boot_range (PyProof.Rows.callWith_type1 (aS (ha pos pins s σ H _ I h) λus s1 hZ60=>?_) hs rfl));obtain⟨vs,H1,I1,r1,q1⟩:=hZ60;obtain⟨j,e,q1,q2,q⟩:=q1;subst e;cases r1 with
 |cons r rr=>
  cases rr;obtain⟨t,rfl⟩:=r;exact call_range_1 (sw I1 (by omega) (by omega) q1 q2 (by simpa using q))
def wI {ta:TA}{p pos:Yn}(hg:Gl X "range")(hm:X.mg "range" =none)(ha:PA X [a,b] ta)(hs:starEach [a,b] X.env=[(false,eval a X.env),(false,eval b X.env)]:=by rfl)(hs2:starEach [b] X.env=[(false,eval b X.env)]:=by rfl) :
  PI X tg (.Call (.Name "range" p) [a,b] [] pos) (EQ ta):=by
 intro pins s σ H R I h;refine Call_ (iW I hg hm boot_range (PyProof.Rows.callWith_type1 (aS (ha pos pins s σ H _ I h) λus s1 hZ61=>?_) (by rw[hs,hs2]) (by rw[hs2];rfl)));obtain⟨vs,H1,I1,r1,q1⟩:=hZ61;obtain⟨i,j,e,⟨q1,q2,q3,q4⟩,q⟩:=q1;subst e;cases r1 with
 |cons r rr=>
  cases rr with
  |cons r' rr=>
   cases rr;obtain⟨t,rfl⟩:=r;obtain⟨t',rfl⟩:=r';exact call_range_2 (sw I1 q1 q2 q3 q4 q)
def Gk (wi:TI)(g:TG)(tb:TS):TS:=λD σ H=>wi σ H λJ H1=>∃W:Nat→Nat→St→Hp→Prop,(∃m,W 0 m σ H1)∧∀i m σ H,W i m σ H→
 (J.stop i H∧D.nx σ H)∨(J.go i H∧∃N:St→Hp→Prop,(∀σ' H',N σ' H'→∃m',m'<m∧W (i+1) m' σ' H')∧∀x H',J.yld i H x H'→g x σ H' λσ2 H2=>tb {D with nx:=N,ct:=N,bk:=D.nx} σ2 H2)
def lh (fp:Zt)(h:Y5):List (Addr×Obj):=fp.filterMap λb=>(h.get? b).map λo=>(b,o)
def dM {fp:Zt}{h:Y5}{o:Obj}(hb:b∈fp)(e:h.get? b=some o):(b,o)∈lh fp h:=mem_filterMap.mpr ⟨b,hb,by rw[e];rfl⟩
def wF {fp:Zt}{h:Y5}{p:Addr×Obj}(hp:p∈lh fp h):p.1∈fp∧h.get? p.1=some p.2:=by
 obtain⟨b,hb,e⟩:=mem_filterMap.mp hp;cases q:h.get? b with
 |none=>rw[q]at e;cases e
 |some o=>
  rw[q]at e;have e':(b,o)=p:=Option.some.inj e;subst e';exact⟨hb,q⟩
def Inv.pinned {pins:Z9}{σ:St}{H:Hp}{s:Z3}{fp:Zt}(I:Inv X pins σ H s)(hf:∀b∈fp,iG X pins H b)(ho:∀b∈fp,∃o,s.heap.get? b=some o∧∀v,o.data≠ .cell v):Inv X (pins ++ lh fp s.heap) σ H s:=
 I.pins_of λp hp=>(mem_append.mp hp).elim (λz=>I.pin p (mem_append_right _ z)) λz=>by
  obtain⟨hb,e⟩:=wF z;obtain⟨f0,f1,f2,_⟩:=hf p.1 hb;obtain⟨o,e',d⟩:=ho p.1 hb;rw[e]at e';cases e';exact⟨e,f0,f1,f2,d⟩
def Inv.unpinned {pins pl:Z9}{σ:St}{H:Hp}{s:Z3}(I:Inv X (pins ++ pl) σ H s):Inv X pins σ H s:=I.pins_of λp hp=>I.pin p (mem_append_right _ (mem_append_left _ hp))
def D4 {wi:TI}{g:TG}{tb:TS}{pos:Yn}(hp:PassesOwn (model X.prog X.w) X.A X.env X.xe)(hc:X.calm=true)(hi:PI X tg iter wi)(hg:PG X tg g)(hb:En X body tb)(hs:∀x,foldedSetIterable iter X.env x=pure x:=by intro _;rfl):PS X (.For tg iter body [] pos) (Gk wi g tb):=by
 intro p s σ H D I h;refine wpAny_For (aS (hi p s σ H _ I h) λv s1 h1=>aS h1 λitv s2 h2=>?_) hs;obtain⟨it,fp,tn,J,H2,e,I2,T,st2,f2,W,⟨m0,w0⟩,turn⟩:=h2;subst e
 -- what stays true of the iterator's objects through the loop
 have z:∀{H':Hp},(∀b∈fp,H' b=none)→∀b∈fp,iG X p H' b:=λhn b hb=>⟨hn b hb,(f2 b hb).2⟩;refine codeAny_forLoop_any (λn s'=>∃i σ' H',Inv X p σ' H' s'∧tn i s'.heap∧(∀b∈fp,H' b=none)∧W i n σ' H') ?_ m0 ⟨0,σ,H2,I2,st2,λb hb=>(f2 b hb).1,w0⟩;intro n s3 hZ1;obtain⟨i,C,H3,I3,st3,fr3,w3⟩:=hZ1
 rcases turn i n C H3 w3 with ⟨stop,qn⟩|⟨go,N,hN,step⟩
 ·refine wpAny_passesOwn hp (aS (T.done X rfl rfl rfl hc i p s3 C H3 X.xe I3 (z fr3) st3 stop) λr s4 hZ62=>?_);obtain⟨hr,I4⟩:=hZ62;subst hr;exact wpAny_execs_nil ⟨C,H3,I4,qn⟩
 ·refine wpAny_passesOwn hp (aS (T.item X rfl rfl rfl hc i p s3 C H3 X.xe I3 (z fr3) st3 go) λr s4 hZ63=>?_);obtain⟨u,hr,h4⟩:=hZ63;subst hr;refine wpAny_passesOwn hp (aS h4 λ_ s5 hZ64=>?_);obtain⟨x,H5,I5,r5,y5,st5,fr5⟩:=hZ64;have I5':=I5.pinned (z fr5) (T.obj _ _ st5);refine wpAny_passesOwn hp (aS (hg _ s5 C H5 x u _ I5' r5 (step x H5 y5)) λ_ s6 hZ65=>?_);obtain⟨σ6,H6,I6,q6⟩:=hZ65;refine wpAny_passesOwn hp (aS (hb _ s6 σ6 H6 _ I6 q6) λf s7 q7=>?_);have B:∀{q:St} {t:Hp},Inv X (p ++ lh fp s5.heap) q t s7→N q t→∃m,m<n∧∃i σ' H',Inv X p σ' H' s7∧tn i s7.heap∧(∀b∈fp,H' b=none)∧W i m σ' H':=λ{q t} y n7=>by
   obtain⟨m',hm,w7⟩:=hN q t n7;refine⟨m',hm,i+1,q,t,y.unpinned,T.keep _ _ _ st5 λb hb o e=>(y.pin (b,o) (mem_append_right _ (mem_append_right _ (dM hb e)))).1,λb hb=>?_,w7⟩;obtain⟨o,e,d⟩:=T.obj _ _ st5 b hb;exact(y.pin (b,o) (mem_append_right _ (mem_append_right _ (dM hb e)))).2.1
  cases f with
  |next=>obtain⟨q,t,y,n7⟩:=q7;exact B y n7
  |cont=>obtain⟨q,t,y,n7⟩:=q7;exact B y n7
  |brk=>obtain⟨q,t,y,q7⟩:=q7;exact⟨q,t,y.unpinned,q7⟩
  |ret v=>obtain⟨x7,q,t,y,r7,q7⟩:=q7;exact⟨x7,q,t,y.unpinned,r7,q7⟩
end
def xS {K:Z8}{xs:List V}{g:TG}{tb:TS}{D:Ends}{σ:St}{H:Hp}(Pv:Nat→St→Hp→Prop)(h0:Pv 0 σ H)(hl:∀i σ H,i≤xs.length→Pv i σ H→f_ K H a xs)(hs:∀i x σ H,xs[i]?=some x→Pv i σ H→g x σ H λσ2 H2=>tb {D with nx:=Pv (i+1),ct:=Pv (i+1),bk:=D.nx} σ2 H2) (hd:∀σ H,Pv xs.length σ H→D.nx σ H) :
  ∃W:Nat→Nat→St→Hp→Prop,(∃m,W 0 m σ H)∧∀i m σ H,W i m σ H→
   ((BO K a).stop i H∧D.nx σ H)∨((BO K a).go i H∧∃N:St→Hp→Prop,(∀σ' H',N σ' H'→∃m',m'<m∧W (i+1) m' σ' H')∧∀x H',(BO K a).yld i H x H'→g x σ H' λσ2 H2=>tb {D with nx:=N,ct:=N,bk:=D.nx} σ2 H2):=by
 refine⟨λi m σ H=>m=xs.length-i∧i≤xs.length∧Pv i σ H,⟨xs.length,by simp,zero_le _,h0⟩,?_⟩;intro i m σ H hZ2;obtain⟨rfl,hi,p⟩:=hZ2;have q:=hl i σ H hi p;by_cases hlt:i<xs.length
 ·refine .inr ⟨⟨xs,xs[i],q,by simp[hlt]⟩,Pv (i+1),λσ' H' p'=>⟨xs.length-(i+1),by omega,rfl,hlt,p'⟩,λx H' y=>?_⟩;obtain⟨e,y⟩:=y;subst e;exact hs i x σ _ (y xs q) p
 ·have e:i=xs.length:=by omega
  subst e;exact .inl ⟨⟨xs,q,le_refl _⟩,hd σ H p⟩
abbrev R2:=V→V→Hp→VK→Prop
def pQ (X:Cx)(f:Value→Value→Sem Value)(r:R2):Prop:=
 ∀(pins:Z9) (s:Z3) (σ:St) (H:Hp) (x y:V) (v u:Zc) (Q:VK),Inv X pins σ H s→RelV x v→RelV y u→r x y H Q→
  wpAny (model X.prog X.w) X.A (f v u) (EP X pins σ Q) X.xe s
def Gv (X:Cx)(f:Value→Sem Value)(r:V→Hp→VK→Prop):Prop:=
 ∀(pins:Z9) (s:Z3) (σ:St) (H:Hp) (x:V) (v:Zc) (Q:VK),Inv X pins σ H s→RelV x v→r x H Q→
  wpAny (model X.prog X.w) X.A (f v) (EP X pins σ Q) X.xe s
def dZ (X:Cx)(f:Zc)(r:List V→Hp→VK→Prop):Prop:=
 ∀(pins:Z9) (s:Z3) (σ:St) (H:Hp) (xs:List V) (us:Z1) (Q:VK),Inv X pins σ H s→Vals xs us→r xs H Q→
  wpAny (model X.prog X.w) X.A (call f us) (EP X pins σ Q) X.xe s
def GA (r:R2)(ta tb:TE):TE:=λσ H Q=>ta σ H λx H1=>tb σ H1 λy H2=>r x y H2 Q
def rI (C:Int→Int→Prop)(g:Int→Int→V):R2:=λx y H Q=>∃i j,x= .int i∧y= .int j∧C i j∧Q (g i j) H
def Bo (g:Int→Int→V):R2:=λx y H Q=>∃i j,x= .int i∧y= .int j∧Q (g i j) H
def rU (g:Int→V):V→Hp→VK→Prop:=λx H Q=>∃i,x= .int i∧Q (g i) H
section
variable{X:Cx}{a b c:Y1}{ta tb tc:TE}{pos:Pos}
def FV (ha:PE X a ta)(hb:PE X b tb){pins:Z9}{s:Z3}{σ:St}{H:Hp}{R:V→V→Hp→Prop}(I:Inv X pins σ H s)(h:ta σ H λx H1=>tb σ H1 λy H2=>R x y H2) {Q:Z5} {f:Value→Value→Sem Value}(hf:∀v u s2 x y H2,Inv X pins σ H2 s2→RelV x v→RelV y u→R x y H2→wpAny (model X.prog X.w) X.A (f v u) Q X.xe s2) :
  wpAny (model X.prog X.w) X.A (eval a X.env) (λv s₁=>wpAny (model X.prog X.w) X.A (eval b X.env) (λu s₂=>wpAny (model X.prog X.w) X.A (f v u) Q X.xe s₂) X.xe s₁) X.xe s:=by
 refine aS (ha pins s σ H _ I h) λv s1 hZ66=>?_;obtain⟨x,H1,I1,r1,q1⟩:=hZ66;refine aS (hb pins s1 σ H1 _ I1 q1) λu s2 hZ67=>?_;obtain⟨y,H2,I2,r2,q2⟩:=hZ67;exact hf v u s2 x y H2 I2 r1 r2 q2
def F8 {f:Value→Value→Sem Value}{C:Int→Int→Prop}{g:Int→Int→Int}(rule:∀(i j:Int) (t u:Tok) (s:Z3) (Q:Z5) (E:Value→Shared→Prop),C i j→Q (.int (g i j) s.toks) {s with toks:=s.toks+1}→wpAny (model X.prog X.w) X.A (f (.int i t) (.int j u)) Q E s) :
  pQ X f (rI C λi j=>.int (g i j)):=by
 intro pins s σ H x y v u Q I rx ry h;obtain⟨i,j,rfl,rfl,hc,q⟩:=h;obtain⟨t,rfl⟩:=rx;obtain⟨t',rfl⟩:=ry;exact rule i j t t' s _ _ hc ⟨.int (g i j),H,I.tok _,⟨_,rfl⟩,q⟩
def E_ {f:Value→Value→Sem Value}{g:Int→Int→Int}(rule:∀(i j:Int) (t u:Tok) (s:Z3) (Q:Z5) (E:Value→Shared→Prop),Q (.int (g i j) s.toks) {s with toks:=s.toks+1}→wpAny (model X.prog X.w) X.A (f (.int i t) (.int j u)) Q E s) :
  pQ X f (Bo λi j=>.int (g i j)):=by
 intro pins s σ H x y v u Q I rx ry h;obtain⟨i,j,rfl,rfl,q⟩:=h;obtain⟨t,rfl⟩:=rx;obtain⟨t',rfl⟩:=ry;exact rule i j t t' s _ _ ⟨.int (g i j),H,I.tok _,⟨_,rfl⟩,q⟩
def AZ {f:Value→Value→Sem Value}{g:Int→Int→Bool}(rule:∀(i j:Int) (t u:Tok) (s:Z3) (Q:Z5) (E:Value→Shared→Prop),Q (.bool (g i j)) s→wpAny (model X.prog X.w) X.A (f (.int i t) (.int j u)) Q E s) :
  pQ X f (Bo λi j=>.bl (g i j)):=by
 intro pins s σ H x y v u Q I rx ry h;obtain⟨i,j,rfl,rfl,q⟩:=h;obtain⟨t,rfl⟩:=rx;obtain⟨t',rfl⟩:=ry;exact rule i j t t' s _ _ ⟨.bl (g i j),H,I,rfl,q⟩
def xb (i j:Int):Prop:=0<j∧j<1073741824
def CMul (i j:Int):Prop:=(-(2 ^ 64)<i∧i<2 ^ 64)∨(-(2 ^ 64)<j∧j<2 ^ 64)
def CMul.ok {i j:Int}(h:CMul i j):IntMulOk i j:=by
 rcases h with ⟨h1,h2⟩|⟨h1,h2⟩
 ·exact .of_left (intBits_le_64 h1 h2)
 ·exact .of_right (intBits_le_64 h1 h2)
def Dx:pQ X (binaryOp .Add) (Bo λi j=>.int (i+j)):=E_ λ_ _ _ _ _ _ _ q=>add_int q
def DE:pQ X (binaryOp .Sub) (Bo λi j=>.int (i-j)):=E_ λ_ _ _ _ _ _ _ q=>sub_int q
def DB:pQ X (binaryOp .Mult) (rI CMul λi j=>.int (i*j)):=F8 λ_ _ _ _ _ _ _ hc q=>mul_int q hc.ok
def A0:pQ X (binaryOp .FloorDiv) (rI xb λi j=>.int (i / j)):=F8 λi j _ _ _ _ _ hc q=>by
 have h1:(0:Int)<j:=hc.1;have h2:j<1073741824:=hc.2;exact floordiv_int (by omega) (by rw[Int.fdiv_eq_ediv_of_nonneg i (by omega)];exact q) (.inl (PyProof.noPylong_small (by omega)))
def DA:pQ X (binaryOp .Mod) (rI (λ_ j=>0<j) λi j=>.int (i % j)):=F8 λi j _ _ _ _ _ hc q=>by
 have h1:(0:Int)<j:=hc;exact mod_int' (by omega) (by rw[Int.fmod_eq_emod_of_nonneg i (by omega)];exact q)
def GJ {f:Value→Sem Value}{g:Int→Int}(rule:∀(i:Int) (t:Tok) (s:Z3) (Q:Z5) (E:Value→Shared→Prop),Q (.int (g i) s.toks) {s with toks:=s.toks+1}→wpAny (model X.prog X.w) X.A (f (.int i t)) Q E s) :
  Gv X f (rU λi=>.int (g i)):=by
 intro pins s σ H x v Q I rx h;obtain⟨i,rfl,q⟩:=h;obtain⟨t,rfl⟩:=rx;exact rule i t s _ _ ⟨.int (g i),H,I.tok _,⟨_,rfl⟩,q⟩
def Ej:Gv X (unaryOp .USub) (rU λi=>.int (-i)):=GJ λ_ _ _ _ _ q=>neg_int q
def C3 {pins:Z9}{σ:St}{H:Hp}{s:Z3}{Q:VK}{k k':Bool}(I:Inv X pins σ H s)(q:Q (.bl k) H)(e:k=k'):EP X pins σ Q (.bool k') s:=by
 subst e;exact⟨.bl k,H,I,rfl,q⟩
def Ff:pQ X (compareOp .Lt) (Bo λi j=>.bl (decide (i<j))):=AZ λ_ _ _ _ _ _ _ q=>lt_int q
def Fe:pQ X (compareOp .LtE) (Bo λi j=>.bl (decide (i≤j))):=AZ λ_ _ _ _ _ _ _ q=>le_int q
def Fd:pQ X (compareOp .Gt) (Bo λi j=>.bl (decide (j<i))):=AZ λ_ _ _ _ _ _ _ q=>gt_int q
def Fc:pQ X (compareOp .GtE) (Bo λi j=>.bl (decide (j≤i))):=AZ λ_ _ _ _ _ _ _ q=>ge_int q
def Dz:pQ X (compareOp .Is) (λx y H Q=>y= .non∧Q (.bl (decide (x= .non))) H):=by
 intro pins s σ H x y v u Q I rx ry h;obtain⟨rfl,q⟩:=h;cases ry;refine is_none_gen (C3 I q ?_);cases x <;> first
  |(cases rx;rfl)
  |(obtain⟨t,rfl⟩:=rx;rfl)
def bd (b:Y1){op:CmpOp}(h:op≠ .In:=by decide)(h2:op≠ .NotIn:=by decide):behindInMarks op b=false:=by
 have e1:(op==CmpOp.In)=false:=by cases op <;> first|rfl|exact absurd rfl h
 have e2:(op==CmpOp.NotIn)=false:=by cases op <;> first|rfl|exact absurd rfl h2
 cases b <;> simp[behindInMarks,e1,e2]
def nh:(sizeLine:Nat)<2 ^ 63:=by rw[sizeLine_eq];decide
def t8:pQ X (binaryOp .Add) (λx y H Q=>∃i j,x= .str i∧y= .str j∧i.length+j.length≤sizeLine∧Q (.str (i ++ j)) H):=by
 intro pins s σ H x y v u Q I rx ry h;obtain⟨i,j,rfl,rfl,hz,q⟩:=h;obtain⟨t,rfl⟩:=rx;obtain⟨t',rfl⟩:=ry;exact add_str (λt' tk=>⟨.str (i ++ j),H,I.tok _,⟨_,rfl⟩,q⟩) hz
def i8 {x:V}{us:Z1}(r:Vals [x] us):∃u,us=[u]∧RelV x u:=by
 cases r with
 |cons r1 r2=>cases r2;exact⟨_,rfl,r1⟩
def zG {x y:V}{us:Z1}(r:Vals [x,y] us):∃u w',us=[u,w']∧RelV x u∧RelV y w':=by
 cases r with
 |cons r1 r2=>
  cases r2 with
  |cons r3 r4=>cases r4;exact⟨_,_,rfl,r1,r3⟩
end
structure ObjM (h:Y5)(x dx C:Zz)(mA:Z4):Prop where
 obj:h.get? x=some (W.instObj C dx)
 ns:h.Ns1 dx mA
 ne:dx≠x
def wA {h:Y5}{mA:Z4}(n:h.Ns1 dx mA):∃od,h.get? dx=some od∧∀name,W.lookIn name od=some (mA name):=by
 obtain⟨o,es,ep,ho,hd,hk,_,hm⟩:=n;refine⟨o,ho,λname=>?_⟩;have e:=hm name;unfold nsFind findBy at e;rw[←Array.find?_toList]at e;unfold W.lookIn;rw[hd];dsimp only;split
 ·rename_i y q;rw[q]at e;exact congrArg some e
 ·rename_i q;rw[q]at e;have a:es.toList.any (·.refKey)=false:=by
   rw[List.any_eq_false];intro y hy;obtain⟨z,t,hkey⟩:=hk y (Array.mem_toList_iff.mp hy);simp[DictEntry.refKey,hkey]
  have a':¬es.toList.any (·.refKey)=true:=by rw[a];exact Bool.false_ne_true
  rw[Yi a'];exact congrArg some e
def ObjM.look {h:Y5}{x dx C:Zz}{mA:Z4}(I:ObjM h x dx C mA):∃od,W.InstAt h x (W.instObj C dx) C (some od)∧∀name,W.lookIn name od=some (mA name):=
 let ⟨od,ho,hl⟩:=wA I.ns
 ⟨od,⟨I.obj,rfl,rfl,ho⟩,hl⟩
section
variable{prog:Zv}{w:Zn}{A:Zl}{E:Z5}{s:Z3}{K:Z8}{x dx C f:Zz}{mA:Z4}{name:Yq}{v:Value}
def AF {expr:Bool}{Q:Z5}(X:K.In s.heap)(I:ObjM s.heap x dx C mA)(hg:W.plainGet K C name=true)(hh:W.hasDictIn K C=true)(ha:W.findIn K (.ref C) name=some none) (hv:mA name=some v) (hv':W.handedIn v=true) (h:Q v {s with toks:=s.toks+1}) :
  wpAny (model prog w) A (getAttr (.ref x) name expr) Q E s:=by
 obtain⟨od,J,hl⟩:=I.look;exact W.get_value X J (W.plainGet_of hg).1 (W.findObj_own hh ha rfl (by rw[hl,hv])) hv' h
def xW {pl:Sem Bool}{Q:Value×List Value→Shared→Prop}(X:K.In s.heap)(I:ObjM s.heap x dx C mA)(hg:W.plainGet K C name=true)(hf:W.findIn K (.ref C) name=some (some (.ref f))) (ht:W.isFn K (.ref f)=true) (hv:mA name=none) (h:Q (.ref f,[.ref x]) s) :
  wpAny (model prog w) A (getMethod (.ref x) name pl) Q E s:=by
 obtain⟨od,J,hl⟩:=I.look;exact W.method_fn X J (W.plainGet_of hg).1 (W.plainGet_of hg).2 hf (beq_iff_eq.mp ht) (by show (W.lookIn name od).map (·.isSome)=some false;rw[hl,hv];rfl) h
def Bz {ns:Zw}{Q:Unit→Shared→Prop}(X:K.In s.heap)(I:ObjM s.heap x dx C mA)(hs:W.findIn K (.ref C) "__setattr__" =some (some (.builtin "object.__setattr__"))) (hp:W.plainOver K C=true) (ht:W.takerIn K C name=some none) (hh:W.hasDictIn K C=true)(hw:PySem.Within mA ns) (hsz:ns.length≤sizeLine)(h:∀h',ObjM h' x dx C (λy=>if y=name then some v else mA y)→Heap.SameBut dx s.heap h'→Q () {s with heap:=h',toks:=s.toks+2}) :
  wpAny (model prog w) A (setAttr (.ref x) name v) Q E s:=by
 obtain⟨od,J,hl⟩:=I.look;refine W.set_plain X J hs (W.osa_open (s:={s with toks:=s.toks+1}) (r:=none) X J hp ht λb=>?_)
 obtain⟨cd,hc,hd'⟩:=W.any_some hh;have hx:s.heap.get? x=some ⟨.ref C,some dx,.plain,#[]⟩:=I.obj;refine Zx (Zp (Zx (Zx (wpAny_loadPart hx (Zx (W.Looks.here (s:={s with toks:=s.toks+1}) (W.looks_clsIn X hc) ?_))))))
 rw[hd'];refine Zp (a:=some dx) (Zx (Zp (Zx ?_)));refine wpAny_nsSet1 (s:={s with toks:=s.toks+1}) I.ns λh' hn2 hs2=>?_
 obtain⟨oD,esD,epD,hoD,hdD,hcD⟩:=hn2.count (PySem.Within.cons name v hw);refine Zx (wpAny_lookBehind hoD (by rw[hdD];exact pastItsLine_dict (le_trans hcD (by rw[length_cons];omega))) ?_);exact Zp (h _ ⟨(hs2.2 _ (Ne.symm I.ne)).trans I.obj,hn2,I.ne⟩ hs2)
def yq {R:Yt}{vs:Z1}{kw:Yu}(X:K.In s.heap)(hm:W.makesIn K C=true)(hi:W.findIn K (.ref C) "__init__" =some (some (.ref f))) (hf:W.typeIn K (.ref f)=some (.type "function"))(h:codeAny (model prog w) (A.under (.builtin "type.__call__" ⟨.ref C::vs,kw⟩)) (.call (.ref f) ⟨.ref (s.heap.objs.size+1)::vs,kw⟩) (W.InitBack (s.heap.objs.size+1) R) {s with heap:=(s.heap.push W.emptyDict).push (W.instObj C s.heap.objs.size)}) :
  codeAny (model prog w) A (.call (.ref C) ⟨vs,kw⟩) R s:=by
 obtain⟨hh,g,d,t,os⟩:=s;exact W.make_core (W.makes_of X hm) (W.looks_findIn X hi) (λself=>W.bind_fn X self hf) (.inl rfl) h
end
def ik (f:Yq)(v:V):List (Str×V)→List (Str×V)
 | []=>[(f,v)]
 |(g,x)::r=>if g=f then (g,v)::r else (g,x)::ik f v r
theorem lI (f g:Yq)(v:V):∀fs:List (Str×V),(ik f v fs).lookup g=if g=f then some v else fs.lookup g
 | []=>by
  show List.lookup g [(f,v)]=_;by_cases h:g=f
  ·have w:(g==f)=true:=beq_iff_eq.mpr h;simp only[List.lookup,w,Yj h]
  ·have w:(g==f)=false:=beq_eq_false_iff_ne.mpr h;simp only[List.lookup,w,Yi h]
 |(k,x)::r=>by
  have ih:=lI f g v r;rw[show ik f v ((k,x)::r)=(if k=f then (k,v)::r else (k,x)::ik f v r) from rfl]
  by_cases hk:k=f
  ·rw[Yj hk];by_cases h:g=k
   ·have w:(g==k)=true:=beq_iff_eq.mpr h;simp only[List.lookup,w,Yj (h.trans hk)]
   ·have w:(g==k)=false:=beq_eq_false_iff_ne.mpr h;simp only[List.lookup,w,Yi (λe:g=f=>h (e.trans hk.symm))]
  ·rw[Yi hk];by_cases h:g=k
   ·have w:(g==k)=true:=beq_iff_eq.mpr h;simp only[List.lookup,w,Yi (λe:g=f=>hk (h.symm.trans e))]
   ·have w:(g==k)=false:=beq_eq_false_iff_ne.mpr h;simp only[List.lookup,w];exact ih
theorem kY (f:Yq)(v:V):∀fs:List (Str×V),f∈(ik f v fs).map (·.1)∧∀g,g∈fs.map (·.1)→g∈(ik f v fs).map (·.1)
 | []=>⟨by simp[ik],λg h=>by simp at h⟩
 |(k,x)::r=>by
  obtain⟨i1,i2⟩:=kY f v r;rw[show ik f v ((k,x)::r)=(if k=f then (k,v)::r else (k,x)::ik f v r) from rfl]
  by_cases hk:k=f
  ·rw[Yj hk];subst hk;exact⟨by simp,λg h=>by simpa using h⟩
  ·rw[Yi hk];refine⟨?_,λg h=>?_⟩
   ·rw[map_cons];exact cN i1
   ·rw[map_cons]at h ⊢
    rcases mem_cons.mp h with e|e
    ·exact mem_cons.mpr (.inl e)
    ·exact cN (i2 g e)
theorem lE (f:Yq)(v:V):∀fs:List (Str×V),(ik f v fs).length≤fs.length+1
 | []=>by simp[ik]
 |(k,x)::r=>by
  have ih:=lE f v r;rw[show ik f v ((k,x)::r)=(if k=f then (k,v)::r else (k,x)::ik f v r) from rfl]
  by_cases hk:k=f
  ·rw[Yj hk,length_cons,length_cons];omega
  ·rw[Yi hk,length_cons,length_cons];omega
def RelO.some_of {v:V}{o:Option Value}(r:RelO (some v) o):∃u,o=some u∧RelV v u:=by
 cases o with
 |none=>exact(show False from r).elim
 |some u=>exact⟨u,rfl,r⟩
def RelO.none_of {o:Option Value}(r:RelO none o):o=none:=by
 cases o with
 |none=>rfl
 |some u=>exact(show False from r).elim
def wk {v:V}(r:RelV v u):W.handedIn u=true:=by
 cases v with
 |non=>cases (show u=Value.none from r);rfl
 |bl b=>cases (show u=Value.bool b from r);rfl
 |int i=>obtain⟨t,e⟩:=(show ∃t,u=Value.int i t from r);cases e;rfl
 |str x=>obtain⟨t,e⟩:=(show ∃t,u=Value.str x t from r);cases e;rfl
 |byt b=>obtain⟨t,e⟩:=(show ∃t,u=Value.bytes b t from r);cases e;rfl
 |flt b=>obtain⟨t,e⟩:=(show ∃t,u=Value.float b t from r);cases e;rfl
 |ref a=>cases (show u=Value.ref a from r);rfl
 |ty n=>cases (show u=Value.type n from r);rfl
section
variable{P:Zv}{w:Zn}{H H':Hp}{h h':Y5}{a C dx:Zz}{fs fs':List (Str×V)}
def qp (hok:HOk P w H h)(e:H a=some (.ins C dx fs)):∃mA,ObjM h a dx C mA∧(∀f,RelO (fs.lookup f) (mA f))∧PySem.Within mA (fs.map (·.1))∧fs.length≤1000∧H dx=some (.own a):=by
 obtain⟨d,z,ne,ob,mA,n,r,q⟩:=(show ObjOk P w H h a (.ins C dx fs) from hok a _ e);exact⟨mA,⟨ob,n,ne⟩,r,q,z,d⟩
end
structure Cls (K:Z8)(C:Zz):Prop where
 pg:W.plainGet K C Str.empty=true
 hd:W.hasDictIn K C=true
 po:W.plainOver K C=true
 sa:W.findIn K (.ref C) "__setattr__" =some (some (.builtin "object.__setattr__"))
def Cls.get {K:Z8}{C:Zz}(c:Cls K C)(f:Yq):W.plainGet K C f=true:=c.pg
def NoAttr (K:Z8)(C:Zz)(f:Yq):Prop:=W.findIn K (.ref C) f=some none
def NoAttr.taker {K:Z8}{C:Zz}(n:NoAttr K C f):W.takerIn K C f=some none:=by
 unfold W.takerIn;rw[show W.findIn K (.ref C) f=some none from n];rfl
structure Meth (K:Z8)(C:Zz)(m:Yq)(f:Zz):Prop where
 at_:W.findIn K (.ref C) m=some (some (.ref f))
 fn:W.isFn K (.ref f)=true
 kp:W.keepIn K (.ref f)=true
section
variable{X:Cx}{pins:Z9}{σ:St}{H:Hp}{s:Z3}{a C dx:Zz}{fs:List (Str×V)}{f:Yq}{v:V}{A:Zl}{E:Value→Shared→Prop}
def tM {b:Bool}{Q:Z5}(I:Inv X pins σ H s)(e:H a=some (.ins C dx fs))(c:Cls X.K C)(n:NoAttr X.K C f)(l:fs.lookup f=some v)(h:∀u s',Inv X pins σ H s'→RelV v u→Q u s'):wpAny (model X.prog X.w) A (getAttr (.ref a) f b) Q E s:=by
 obtain⟨mA,O,r,_,_,_⟩:=qp I.hok e;obtain⟨u,hu,ru⟩:=RelO.some_of (v:=v) (o:=mA f) (by rw[←l];exact r f);exact AF I.kIn O (c.get f) c.hd n hu (wk ru) (h u _ (I.tok _) ru)
def tO {pl:Sem Bool}{Q:Value×List Value→Shared→Prop}(I:Inv X pins σ H s)(e:H a=some (.ins C dx fs))(c:Cls X.K C)(k:Meth X.K C m g)(l:fs.lookup m=none)(h:Q (.ref g,[.ref a]) s):wpAny (model X.prog X.w) A (getMethod (.ref a) m pl) Q E s:=by
 obtain⟨mA,O,r,_,_,_⟩:=qp I.hok e;have hn:mA m=none:=RelO.none_of (by rw[←l];exact r m);exact xW I.kIn O (c.get m) k.at_ k.fn hn h
def uq {y:V}{Q:Unit→Shared→Prop}(I:Inv X pins σ H s)(e:H a=some (.ins C dx fs))(c:Cls X.K C)(n:NoAttr X.K C f)(hl:fs.length<1000)(ry:RelV y u)(h:∀s',Inv X pins σ (bc H a (.ins C dx (ik f y fs))) s'→Q () s'):wpAny (model X.prog X.w) A (setAttr (.ref a) f u) Q E s:=by
 obtain⟨mA,O,r,wi,_,ho⟩:=qp I.hok e;have hz:(fs.map (·.1)).length≤sizeLine:=by rw[length_map,sizeLine_eq];omega
 refine Bz I.kIn O c.sa c.po n.taker c.hd wi hz λh' O' sb=>h _ ?_;have hd:∃o,h'.get? dx=some o:=let ⟨o,_,_,e',_⟩:=O'.ns;⟨o,e'⟩
 refine I.write (x:=a) (e:=dx) (by rw[e];exact True.intro) (.inr ho) (λb q hb z=>(sb.2 b hb).trans z) hd ?_;refine⟨by rw[aj O.ne];exact ho,?_,O.ne,O'.obj,_,O'.ns,λg=>?_,λg hg=>?_⟩
 ·have:=lE f y fs;omega
 ·show RelO ((ik f y fs).lookup g) (if g=f then some u else mA g)
  rw[lI];by_cases q:g=f
  ·rw[Yj q,Yj q];exact ry
  ·rw[Yi q,Yi q];exact r g
 ·by_cases q:g=f
  ·rw[q];exact(kY f y fs).1
  ·refine(kY f y fs).2 g (wi g λz=>hg ?_);show (if g=f then some u else mA g)=none
   rw[Yi q];exact z
def Inv.made (I:Inv X pins σ H s):Inv X pins σ (bc (bc H s.heap.objs.size (.own (s.heap.objs.size+1))) (s.heap.objs.size+1) (.ins C s.heap.objs.size [])) {s with heap:=(s.heap.push W.emptyDict).push (W.instObj C s.heap.objs.size)}:=by
 have e1:(s.heap.push W.emptyDict).get? s.heap.objs.size=some W.emptyDict:=Heap.get?_push_size s.heap rfl;have e2:((s.heap.push W.emptyDict).push (W.instObj C s.heap.objs.size)).get? (s.heap.objs.size+1)=some (W.instObj C s.heap.objs.size):=by
  have:=Heap.get?_push_size (s.heap.push W.emptyDict) (o:=W.instObj C s.heap.objs.size) rfl;rwa[Heap.size_push]at this
 have e3:(s.heap.push W.emptyDict).Ns s.heap.objs.size (λ_=>none):=⟨W.emptyDict,#[],_,e1,rfl,(λe he=>absurd he (by simp)),λ_=>rfl⟩;have I1:=I.laid (a:=s.heap.objs.size) (o:=.own (s.heap.objs.size+1)) (h':=s.heap.push W.emptyDict) (t':=s.toks) (λb u q=>Heap.get?_push_of_some _ q) (le_refl _) ⟨_,e1⟩;refine I1.laid (a:=s.heap.objs.size+1) (o:=.ins C s.heap.objs.size []) (t':=s.toks) (λb u q=>Heap.get?_push_of_some _ q) (Nat.le_of_eq (Heap.size_push _ _)) ?_;have ne:s.heap.objs.size≠s.heap.objs.size+1:=ne_of_lt (lt_succ_self _);refine⟨by rw[aj ne,ao],zero_le _,ne,e2,λ_=>none,(Heap.Ns1.of_empty e3).at λo q=>Heap.get?_push_of_some _ q,λ_=>True.intro,λy hy=>absurd rfl hy⟩
def zW {prog:Zv}{w:Zn}{env:Env}{f:Yq}{pos:Yn}{s:Z3}{Q:Z5}(hb:attributeBase e f env (eval e env)=eval e env)(h:wpAny (model prog w) A (eval e env) (λo s₁=>wpAny (model prog w) A (getAttr o f true) Q E s₁) E s):wpAny (model prog w) A (eval (.Attribute e f pos) env) Q E s:=
 Attribute_any_ h (by rw[arm_eval_Attribute,hb])
end
def Gj (K:Z8)(ta:TE)(f:Yq):TE:=λσ H Q=>ta σ H λx H1=>∃a C dx fs v,x= .ref a∧H1 a=some (.ins C dx fs)∧Cls K C∧NoAttr K C f∧fs.lookup f=some v∧Q v H1
def Gf (K:Z8)(ta tv:TE)(f:Yq):TS:=λD σ H=>tv σ H λy H1=>ta σ H1 λx H2=>∃a C dx fs,x= .ref a∧H2 a=some (.ins C dx fs)∧Cls K C∧NoAttr K C f∧fs.length<1000∧
 D.nx σ (bc H2 a (.ins C dx (ik f y fs)))
section
variable{X:Cx}{o e value:Y1}{f:Yq}{pos pos' tpos:Yn}{ta tv:TE}
def DN (he:PE X e ta)(hb:attributeBase e f X.env (eval e X.env)=eval e X.env):PE X (.Attribute e f pos) (Gj X.K ta f):=by
 intro pins s σ H Q I h;refine zW hb (aS (he pins s σ H _ I h) λu s1 hZ68=>?_);obtain⟨x,H1,I1,rx,a,C,dx,fs,v,ex,ea,c,n,l,q⟩:=hZ68;subst ex;obtain rfl:u=Value.ref a:=rx;exact tM I1 ea c n l λu' s2 I2 ru=>⟨v,H1,I2,ru,q⟩
def yY (ha:PE X o ta)(hv:PE X value tv)(hs:swapsWith value (some (.Attribute o f pos')) pos.line X.env=pure false):PS X (.Assign [.Attribute o f pos'] value pos) (Gf X.K ta tv f):=by
 intro pins s σ H D I h;refine plainObj_wpAny_Assign_Attribute (aS (hv pins s σ H _ I h) λu s1 ⟨y,H1,I1,ry,q⟩=>aS (ha pins s1 σ H1 _ I1 q) λov s2 hZ70=>?_) hs;obtain⟨x,H2,I2,rx,a,C,dx,fs,ex,ea,c,n,l,q2⟩:=hZ70;subst ex;obtain rfl:ov=Value.ref a:=rx;exact uq I2 ea c n l ry λs3 I3=>⟨σ,_,I3,q2⟩
end
section
variable{X:Cx}{pins:Z9}{σ:St}{H:Hp}{s:Z3}{A:Zl}{E:Z5}{Q:Z5}{c:Zc}{b:Bool}
end
structure Room (k:Nat)(A:Zl):Prop where
 hd:A.handled=none
 dp:A.depth+3*k+5<recursionLimit
 un:A.units+16*k+200<cLine
 gd:A.guards=some []
def Room.mono {j k:Nat}{A:Zl}(r:Room k A)(h:j≤k):Room j A:=⟨r.hd,by have:=r.dp;omega,by have:=r.un;omega,r.gd⟩
def Room.deeper {k:Nat}{A:Zl}(r:Room (k+1) A)(env:Env):Room k (A.deeper env):=
 ⟨r.hd,by have:=r.dp;show A.depth+1+3*k+5<_;omega,by have:=r.un;show A.units+3+16*k+200<_;omega,r.gd⟩
def tV {A:Zl}{C:Zz}{us:Z1}{kw:Yu}:(A.under (.builtin "type.__call__" ⟨.ref C::us,kw⟩)).depth=A.depth+1:=by
 first|rfl|simp[Around.under,Code.weight,Code.isCreation,Code.isGuard,Code.isCaller,Code.frames,Code.isFrame,guardIds]
def tW {A:Zl}{C:Zz}{us:Z1}{kw:Yu}:(A.under (.builtin "type.__call__" ⟨.ref C::us,kw⟩)).units=A.units+1:=by
 first|rfl|simp[Around.under,Code.cUnits,Code.frames,Code.isFrame]
def Room.make {k:Nat}{A:Zl}(r:Room (k+1) A)(C:Zz)(us:Z1)(kw:Yu):Room k (A.under (.builtin "type.__call__" ⟨.ref C::us,kw⟩)):=
 ⟨r.hd,by have:=r.dp;rw[tV];omega,by have:=r.un;rw[tW];omega,by first|exact r.gd|(simp[Around.under,Code.weight,Code.isCreation,Code.isGuard,Code.isCaller,Code.frames,Code.isFrame,guardIds,r.gd])⟩
def Room.depth {k:Nat}{A:Zl}(r:Room k A):A.depth<recursionLimit:=by have:=r.dp;omega
def Room.units {k:Nat}{A:Zl}(r:Room k A):A.units+64<cLine:=by have:=r.un;omega
def BH:TA:=λ_ H Q=>Q [] H
def vB (ta:TE)(tr:TA):TA:=λσ H Q=>ta σ H λx H1=>tr σ H1 λxs H2=>Q (x::xs) H2
section
variable{X:Cx}{e:Y1}{es:Zd}{te:TE}{t:TA}{pos:Pos}
def ef:PA X [] BH:=λ_ _ _ _ H Q I h=>Calls.spliced_nil ⟨[],H,I,.nil,h⟩
def cf (ha:PE X e te)(hr:PA X es t)(hs:zQ2 X e es:=by rfl):PA X (e::es) (vB te t):=by
 intro pos pins s σ H Q I h;rw[hs];show wpAny _ _ (spliced ((false,eval e X.env)::backTo pos (starEach es X.env))) _ _ s;refine Calls.spliced_cons (aS (ha pins s σ H _ I h) λu s1 hZ71=>?_);obtain⟨x,H1,I1,r1,q1⟩:=hZ71;exact aS (hr pos pins s1 σ H1 _ I1 q1) λus s2 hZ72=>(by obtain⟨xs,H2,I2,r2,q2⟩:=hZ72;exact⟨x::xs,H2,I2,.cons r1 r2,q2⟩)
def Gq (t:TA):TE:=λσ H Q=>t σ H λxs H1=>xs.length≤sizeLine∧∀p,H1 p=none→Q (.ref p) (bc H1 p (.tup xs))
def Gm (t:TA):TE:=λσ H Q=>t σ H λxs H1=>xs.length≤sizeLine∧∀p,H1 p=none→Q (.ref p) (bc H1 p (.lst xs))
def yM {x1}(h:PA X es t):PE X (.Tuple es x1 pos) (Gq t):=by
 intro pins s σ H Q I hq;refine wpAny_Tuple_spliced (aS (h pos pins s σ H _ I hq) λus s1 ⟨xs,H1,I1,r,z,q⟩=>⟨by rw[←r.length];exact z,?_⟩);have hf:H1 s1.heap.objs.size=none:=I1.hok.fresh (le_refl _);refine⟨.ref s1.heap.objs.size,bc H1 s1.heap.objs.size (.tup xs),I1.laid (t':=s1.toks) (λb u e=>Heap.get?_push_of_some _ e) (le_refl _) ?_,rfl,q _ hf⟩;exact⟨z,us,r,⟨_,Heap.get?_push_size _ rfl,rfl,_,rfl⟩⟩
def ub (h:PA X es t):PE X (.List es pos) (Gm t):=by
 intro pins s σ H Q I hq;refine wpAny_List_spliced (aS (h pos pins s σ H _ I hq) λus s1 ⟨xs,H1,I1,r,z,q⟩=>⟨by rw[←r.length];exact z,?_⟩);have hf:H1 s1.heap.objs.size=none:=I1.hok.fresh (le_refl _);refine⟨.ref s1.heap.objs.size,bc H1 s1.heap.objs.size (.lst xs),I1.laid (t':=s1.toks) (λb u e=>Heap.get?_push_of_some _ e) (le_refl _) ?_,rfl,q _ hf⟩;exact⟨z,us,0,r,Heap.get?_push_size _ rfl⟩
end
abbrev Sp:=List V→Hp→VK→XK→Prop
abbrev qX:=List Env→Hp→Shared→XK→Value→Shared→Prop
structure Env0 (P:Zv)(w:Zn)(K:Z8)(mg:Z4)(base:Y5)(A:Zl)(outer:Yx)(s:Z3)(H:Hp):Prop where
 frames:A.frames=some outer
 mod:Mod K mg base
 bs:∀b o,base.get? b=some o→s.heap.get? b=some o∧H b=none
 bsz:base.objs.size≤s.heap.objs.size
 funs:s.heap.FunFrames base outer
 frf:∀b∈jG outer,H b=none
 hok:HOk P w H s.heap
 bare:AllBare s.gens
inductive CE (outer:Yx)(P:Zv)(w:Zn)(H:Hp)(s:Z3)(Q:VK)(u:Zc)(s':Z3):Prop
 |mk (v:V) (H':Hp) (o:s'.os=s.os) (g:AllBare s'.gens) (n:Un (jG outer) [] H H' s.heap s'.heap) (h:HOk P w H' s'.heap) (r:RelV v u) (q:Q v H')
def CR (CX:qX)(outer:Yx)(P:Zv)(w:Zn)(H:Hp)(s:Z3)(Q:VK)(E:XK)(r:Result)(s':Z3):Prop:=
 match r with
 |.ok (.ret u)=>CE outer P w H s Q u s'
 |.ok _=>False
 |.error e=>CX outer H s E e s'
structure FnOk (P:Zv)(w:Zn)(K:Z8)(mg:Z4)(base:Y5)(CX:qX)(k:Nat)(f:Zz)(fd:Y9)(ps:Zw)(sp:Sp):Prop where
 len:∀vs H Q E,sp vs H Q E→vs.length=ps.length
 run:∀(A:Zl) (outer:Yx) (s:Z3) (H:Hp) (args:Args) (us:Z1) (vs:List V) (Q:VK) (E:XK),Room k A→Env0 P w K mg base A outer s H→BindsTo s fd args (ps.zip us)→Vals vs us→sp vs H Q E→
  codeAny (model P w) A (.call (.ref f) args) (CR CX outer P w H s Q E) s
def FnOk.imp {P:Zv}{w:Zn}{K:Z8}{mg:Z4}{base:Y5}{CX:qX}{k:Nat}{fd:Y9}{ps:Zw}{sp sp':Sp}(F:FnOk P w K mg base CX k f fd ps sp)(h:∀vs H Q E,sp' vs H Q E→sp vs H Q E):FnOk P w K mg base CX k f fd ps sp':=
 ⟨λvs H Q E q=>F.len vs H Q E (h _ _ _ _ q),λA outer s H args us vs Q E hr he hb hv hs=>F.run A outer s H args us vs Q E hr he hb hv (h _ _ _ _ hs)⟩
def Env0.make {P:Zv}{w:Zn}{K:Z8}{mg:Z4}{base:Y5}{A:Zl}{outer:Yx}{s:Z3}{H:Hp}(e:Env0 P w K mg base A outer s H)(C:Zz)(us:Z1)(kw:Yu) :
  Env0 P w K mg base (A.under (.builtin "type.__call__" ⟨.ref C::us,kw⟩)) outer s H:=⟨by first|exact e.frames|(simpa [Around.under,Code.envs,Code.isFrame,pushEnvs] using e.frames),e.mod,e.bs,e.bsz,e.funs,e.frf,e.hok,e.bare⟩
section
variable{X:Cx}{pins:Z9}{σ:St}{H:Hp}{s s':Shared}
def Inv.env0 (I:Inv X pins σ H s):Env0 X.prog X.w X.K X.mg X.base X.A X.stack s H:=
 ⟨I.ok.frames,I.ok.mod,I.bs,le_trans I.ok.bsz I.sz,I.stack,I.stkFree,I.hok,I.bare⟩
def Inv.after {Q:VK}(I:Inv X pins σ H s)(h:CE X.stack X.prog X.w H s Q u s'):EP X pins σ Q u s':=by
 obtain⟨v,H',os,bare,un,hok,r,q⟩:=h;obtain⟨hh,g,d,t,os'⟩:=s';obtain rfl:os'=s.os:=os;exact⟨v,H',I.call (h':=hh) (g':=g) (d':=d) (t':=t) (ch:=[]) un hok bare (λb z=>absurd z (by simp)),r,q⟩
end
def Ft (sp:Sp)(dvs:List V)(E:XK)(t:TA):TE:=λσ H Q=>t σ H λvs H1=>sp (vs ++ dvs) H1 Q E
def Cb (C:Zz)(m:Yq)(sp:Sp)(dvs:List V)(E:XK)(ta:TE)(t:TA):TE:=λσ H Q=>ta σ H λx H1=>∃a dx fs,x= .ref a∧H1 a=some (.ins C dx fs)∧fs.lookup m=none∧
 t σ H1 λvs H2=>sp (x::(vs ++ dvs)) H2 Q E
def Ca (C:Zz)(sp:Sp)(dvs:List V)(E:XK)(t:TA):TE:=λσ H Q=>t σ H λvs H1=>∀x dx,H1 x=none→H1 dx=none→dx≠x→
 sp (.ref x::(vs ++ dvs)) (bc (bc H1 dx (.own x)) x (.ins C dx [])) (λv H2=>v= .non∧Q (.ref x) H2) E
def Binds (K:Z8)(fd:Y9)(ps:Zw)(ds:Z1):Prop:=
 ∀(s:Z3) (us:List Value),K.In s.heap→(us ++ ds).length=ps.length→BindsTo s fd ⟨us,[]⟩ (ps.zip (us ++ ds))
def Binds.all {K:Z8}{fd:Y9}{ps:Zw}(h:∀us:List Value,us.length=ps.length→bindArgs fd ⟨us,[]⟩=pure (ps.zip us)):Binds K fd ps []:=λs us _ hl=>by
 rw[append_nil]at hl ⊢;exact .of_eq (h us hl)
def cQ (CX:qX)(X:Cx)(E:XK):Prop:=∀(pins:Z9) (σ:St) (H:Hp) (s:Z3) (e:Zc) (s':Shared),Inv X pins σ H s→CX X.stack H s E e s'→X.xe e s'
section
variable{X:Cx}{CX:qX}{k:Nat}{f C:Zz}{fd:Y9}{ps:Zw}{sp:Sp}{dvs:List V}{ds:Z1}{E:XK}{x m:Yq}{p pos apos:Yn}{e o:Y1}{es:Zd}{ta:TE}{t:TA}
def zf {pins:Z9}{σ:St}{H:Hp}{s:Z3}{Q:VK}{us:Z1}{vs:List V}(F:FnOk X.prog X.w X.K X.mg X.base CX k f fd ps sp)(hr:Room k X.A)(hb:Binds X.K fd ps ds)(hd:Vals dvs ds)(hx:cQ CX X E)(I:Inv X pins σ H s) (r:Vals vs us) (h:sp (vs ++ dvs) H Q E):wpAny (model X.prog X.w) X.A (call (.ref f) us) (EP X pins σ Q) X.xe s:=by
 have r2:Vals (vs ++ dvs) (us ++ ds):=r.append hd;have hl:(us ++ ds).length=ps.length:=by rw[←r2.length];exact F.len _ _ _ _ h
 refine wpAny_call (codeAny_mono (F.run X.A X.stack s H ⟨us,[]⟩ (us ++ ds) (vs ++ dvs) Q E hr I.env0 (hb s us I.kIn hl) r2 h) λr s' hq=>?_);cases r with
 |error e=>exact hx pins σ H s e s' I hq
 |ok fl=>
  cases fl with
  |ret u=>exact I.after hq
  |next=>exact False.elim hq
  |brk=>exact False.elim hq
  |cont=>exact False.elim hq
def A6 (F:FnOk X.prog X.w X.K X.mg X.base CX k f fd ps sp)(hr:Room k X.A)(hg:Gl X x)(hm:X.mg x=some (.ref f))(hk:W.keepIn X.K (.ref f)=true)(hb:Binds X.K fd ps ds)(hd:Vals dvs ds)(hx:cQ CX X E)(ha:PA X (e::es) t) (hdb:zQ1 x:=by decide) (he:zQ2 X e es:=by rfl) (hpl:(backTo pos (starEach es X.env)).any (·.1)=false:=by rfl) :
  PE X (.Call (.Name x p) (e::es) [] pos) (Ft sp dvs E t):=by
 intro pins s σ H Q I h;refine wpAny_Call_Name_kw (qw I hg hm ?_ hdb);refine W.callWith_K (h₀:=X.base) I.ok.mod.kin hk (aS (ha pos pins s σ H _ I h) λus s1 ⟨vs,H1,I1,r,q⟩=>⟨I1.kIn,?_⟩) he hpl;exact zf F hr hb hd hx I1 r q
def yK {pl:Sem Bool}(he:PE X o ta)(c:Cls X.K C)(hm:Meth X.K C m f)(F:FnOk X.prog X.w X.K X.mg X.base CX k f fd ps sp)(hr:Room k X.A)(hb:Binds X.K fd ps ds)(hd:Vals dvs ds)(hx:cQ CX X E)(ht:eval (.Call (.Attribute o m apos) [] [] pos) X.env=(do
   let ov ←eval o X.env
   standAt apos.atName
   let (f,first) ←holding [ov] (getMethod ov m pl)
   callWith pos f first (backTo pos (starEach [] X.env)) (backToKw pos (keywordEach [] X.env))):=by rfl) :
  PE X (.Call (.Attribute o m apos) [] [] pos) (Cb C m sp dvs E ta BH):=by
 intro pins s σ H Q I h;refine W.methodCall_KW (pl:=pl) (aS (he pins s σ H _ I h) λu s1 hZ76=>?_) ht;obtain⟨x,H1,I1,rx,a,dx,fs,ex,ea,l,q⟩:=hZ76;subst ex;obtain rfl:u=Value.ref a:=rx;refine tO I1 ea c hm l ?_;exact W.callWith_K0 (first:=[.ref a]) I1.kIn hm.kp (zf (us:=[.ref a]) (vs:=[.ref a]) F hr hb hd hx I1 (.cons rfl .nil) q)
structure Mk (K:Z8)(C f:Zz):Prop where
 makes:W.makesIn K C=true
 init:W.findIn K (.ref C) "__init__" =some (some (.ref f))
 fn:W.isFn K (.ref f)=true
 kp:W.keepIn K (.ref C)=true
def zg {pins:Z9}{σ:St}{H:Hp}{s:Z3}{Q:VK}{us:Z1}{vs:List V}(M:Mk X.K C f)(F:FnOk X.prog X.w X.K X.mg X.base CX k f fd ps sp)(hr:Room (k+1) X.A)(hb:Binds X.K fd ps ds)(hd:Vals dvs ds)(hx:cQ CX X E) (I:Inv X pins σ H s) (r:Vals vs us)(h:∀x dx,H x=none→H dx=none→dx≠x→sp (.ref x::(vs ++ dvs)) (bc (bc H dx (.own x)) x (.ins C dx [])) (λv H2=>v= .non∧Q (.ref x) H2) E) :
  wpAny (model X.prog X.w) X.A (call (.ref C) us) (EP X pins σ Q) X.xe s:=by
 have hq:=h (s.heap.objs.size+1) s.heap.objs.size (I.hok.fresh (le_succ _)) (I.hok.fresh (le_refl _)) (ne_of_lt (lt_succ_self _));have I2:=Inv.made (C:=C) I;have r2:Vals (V.ref (s.heap.objs.size+1)::(vs ++ dvs)) (Value.ref (s.heap.objs.size+1)::(us ++ ds)):=.cons rfl (r.append hd);have hl:(Value.ref (s.heap.objs.size+1)::us ++ ds).length=ps.length:=by
  have e:=r2.length;rw[F.len _ _ _ _ hq]at e;exact e.symm
 refine wpAny_call (yq (f:=f) I.kIn M.makes M.init (beq_iff_eq.mp M.fn) (codeAny_mono (F.run _ X.stack _ _ ⟨Value.ref (s.heap.objs.size+1)::us,[]⟩ (Value.ref (s.heap.objs.size+1)::(us ++ ds)) _ _ E (hr.make C us [])
  (I2.env0.make C us []) (hb _ (Value.ref (s.heap.objs.size+1)::us) I2.kIn hl) r2 hq) λr s' y=>?_))
 cases r with
 |error e=>exact hx pins σ _ _ e s' I2 y
 |ok fl=>
  cases fl with
  |ret u=>
   obtain⟨v,H',I3,rv,ev,q3⟩:=I2.after y;subst ev;exact⟨rv,⟨V.ref (s.heap.objs.size+1),H',I3,rfl,q3⟩⟩
  |next=>exact False.elim y
  |brk=>exact False.elim y
  |cont=>exact False.elim y
def A8 (M:Mk X.K C f)(F:FnOk X.prog X.w X.K X.mg X.base CX k f fd ps sp)(hr:Room (k+1) X.A)(hg:Gl X x)(hm:X.mg x=some (.ref C))(hb:Binds X.K fd ps ds)(hd:Vals dvs ds)(hx:cQ CX X E)(ha:PA X (e::es) t) (hdb:zQ1 x:=by decide) (he:zQ2 X e es:=by rfl) (hpl:(backTo pos (starEach es X.env)).any (·.1)=false:=by rfl) :
  PE X (.Call (.Name x p) (e::es) [] pos) (Ca C sp dvs E t):=by
 intro pins s σ H Q I h;refine wpAny_Call_Name_kw (qw I hg hm ?_ hdb);refine W.callWith_K (h₀:=X.base) I.ok.mod.kin M.kp (aS (ha pos pins s σ H _ I h) λus s1 ⟨vs,H1,I1,r,q⟩=>⟨I1.kIn,?_⟩) he hpl;exact zg M F hr hb hd hx I1 r q
end
section
variable{X:Cx}{CX:qX}{k:Nat}{f C:Zz}{fd:Y9}{ps ks:Zw}{sp:Sp}{E:XK}{x m:Yq}{p pos apos kpos:Yn}{e o:Y1}{es:Zd}{kws:List Keyword}{te ta:TE}{t tk:TA}{nm:Option Str}
variable{g:List Value→List Value→List Value}{gV:List V→List V→List V}
end
structure FnScope (N P:Zw)(sc:Yz):Prop where
 kind:sc.kind= .function
 co:sc.isCoroutine=false
 gen:sc.isGenerator=false
 nd:N.Nodup
 pre:N.take P.length=P
 par:∀x∈P,sc.names.lookup x=some .local∨sc.names.lookup x=some .cell
 nofree:∀y∈sc.names,y.2≠ .free
theorem oC {kindOf:Yk}:∀{binds:Yu} {m:Str→Option Value},(∀v,(x,v)∉binds)→bindL kindOf binds m x=m x
 | [],_,_=>rfl
 |(n,v)::r,m,h=>by
  unfold bindL;rw[oC λw hw=>h w (cN hw)];split
  ·have:x≠n:=by rintro rfl;exact h v mem_cons_self
   simp[this]
  ·rfl
theorem oA {kindOf:Yk}:∀{binds:Yu} {m:Str→Option Value},(∀v,(x,v)∉binds)→bindC kindOf binds m x=m x
 | [],_,_=>rfl
 |(n,v)::r,m,h=>by
  unfold bindC;rw[oA λw hw=>h w (cN hw)];split
  ·rfl
  ·have:x≠n:=by rintro rfl;exact h v mem_cons_self
   simp[this]
theorem oB {kindOf:Yk}:∀{P:Zw} {vs:Z1} {i:Nat} {m:Str→Option Value},P.Nodup→P[i]?=some x→vs[i]?=some v→kindOf x=some .local→
  bindL kindOf (P.zip vs) m x=some v
 | [],_,_,_,_,h,_,_=>by simp at h
 |_::_,[],_,_,_,_,h,_=>by simp at h
 |p::P,w::vs,0,m,nd,h1,h2,hk=>by
  simp at h1 h2;subst h1;subst h2;show bindL kindOf ((p,w)::P.zip vs) m p=_;unfold bindL;rw[oC λv hv=>(nodup_cons.mp nd).1 (of_mem_zip hv).1,Yj hk];simp
 |p::P,w::vs,i+1,m,nd,h1,h2,hk=>by
  show bindL kindOf ((p,w)::P.zip vs) m x=_;unfold bindL;exact oB (i:=i) (nodup_cons.mp nd).2 (by simpa using h1) (by simpa using h2) hk
theorem oz {kindOf:Yk}:∀{P:Zw} {vs:Z1} {i:Nat} {m:Str→Option Value},P.Nodup→P[i]?=some x→vs[i]?=some v→kindOf x≠some .local→
  bindC kindOf (P.zip vs) m x=some v
 | [],_,_,_,_,h,_,_=>by simp at h
 |_::_,[],_,_,_,_,h,_=>by simp at h
 |p::P,w::vs,0,m,nd,h1,h2,hk=>by
  simp at h1 h2;subst h1;subst h2;show bindC kindOf ((p,w)::P.zip vs) m p=_;unfold bindC;rw[oA λv hv=>(nodup_cons.mp nd).1 (of_mem_zip hv).1,Yi hk];simp
 |p::P,w::vs,i+1,m,nd,h1,h2,hk=>by
  show bindC kindOf ((p,w)::P.zip vs) m x=_;unfold bindC;exact oz (i:=i) (nodup_cons.mp nd).2 (by simpa using h1) (by simpa using h2) hk
def fN (N:Zw)(vs:List V):St:=vs.map some ++ replicate (N.length-vs.length) none
def rB (CX:qX)(P:Zv)(w:Zn)(K:Z8)(mg:Z4)(base:Y5)(N:Zw)(qual:Yq)(scope:Yz)(f:Zz)(cd:Zc)(A:Zl)(outer:Yx)(s:Z3)(H:Hp)(E:XK):Cx where
 prog:=P
 w:=w
 K:=K
 mg:=mg
 base:=base
 A:=A.deeper (envOfC qual scope s.heap.objs.size f cd)
 N:=N
 s₀:=s
 H₀:=H
 env:=envOfC qual scope s.heap.objs.size f cd
 outer:=outer
 stack:=envOfC qual scope s.heap.objs.size f cd::outer
 ex:=[]
 calm:=true
 fn:=λ_=>true
 pn:=[]
 xe:=λe s'=>wpAny (model P w) (A.deeper (envOfC qual scope s.heap.objs.size f cd)) (leaving (envOfC qual scope s.heap.objs.size f cd) e) (λ_ s''=>CX outer H s E e s'') (λe' s''=>CX outer H s E e' s'') s'
def rn {sc:Yz}{n:Nat}(h:sc.names.lookup x=some .cell):∃c,(cellsFrom n sc.names []).lookup x=some c:=by
 have q:=W.cellsFrom_some sc.names n [] (.inl h);exact Option.isSome_iff_exists.mp q
def wn {CX:qX}{P:Zv}{w:Zn}{K:Z8}{mg:Z4}{base:Y5}{N ps:Zw}{qual:Yq}{scope:Yz}{f:Zz}{cd:Zc}{A:Zl}{outer:Yx}{s s1:Z3}{H:Hp}{E:XK}{us:Z1}{vs:List V}(S:FnScope N ps scope) (hd:A.handled=none) (e0:Env0 P w K mg base A outer s H) (hl:vs.length=ps.length) (r:Vals vs us)(x:InCallC s s.heap.objs.size (bindL (envOfC qual scope s.heap.objs.size f cd).kindOf (ps.zip us) λ_=>none) (cellsFrom (s.heap.objs.size+1) scope.names []) (bindC (envOfC qual scope s.heap.objs.size f cd).kindOf (ps.zip us) λ_=>none) s1) :
  Inv (rB CX P w K mg base N qual scope f cd A outer s H E) [] (fN N vs) H s1:=by
 have hpl:ps.length≤N.length:=by have:=congrArg List.length S.pre;rw[length_take]at this;omega
 obtain ⟨h1,tk,rfl,hk⟩:=x.done;have noA:∀ b:Addr,b∉(rB CX P w K mg base N qual scope f cd A outer s H E).ex:=λb z=>absurd (show b∈([]:Zt) from z) (by simp);refine ⟨⟨e0.mod,S.kind,rfl,rfl,le_refl _,λy z c h1 B=> ?_,λy hy=> ?_,λy c _ h=> ?_,λ_=>hd,Around.frames_deeper e0.frames,.inr ⟨rfl,rfl⟩,λb z=>absurd z (noA b),e0.bs,e0.bsz,λb _ _=>noA b,λb z=>absurd z (noA b),e0.funs,e0.frf⟩,
  rfl,e0.bare,Un.kept hk,⟨_,x.toInCall.ns,λi y v h1 B h3=>?_⟩,λy c h=>⟨_,x.cell y c h⟩,e0.hok.fresh (le_refl _),λy c h=>?_,λp hp=>absurd (show p∈([]:Z9) from hp) (by simp),e0.hok.kept hk,?_⟩
 ·exact name_of_addr x.apart (PySem.mem_of_lookup h1) (PySem.mem_of_lookup B)
 ·have hy:scope.names.lookup y=some .cell∨scope.names.lookup y=some .free:=hy
  rcases hy with hy|hy
  ·exact rn hy
  ·exact absurd rfl (S.nofree _ (PySem.mem_of_lookup hy))
 ·exact le_of_lt (x.above y c (PySem.mem_of_lookup h))
 ·have hi:i<vs.length:=by
   unfold fN at B;by_cases hi:i<vs.length
   ·exact hi
   ·rw[getElem?_append_right (by simpa using hi)]at B;rw[List.getElem?_replicate]at B;split at B <;> cases B
  have ha:vs[i]?=some v:=by
   unfold fN at B;rw[getElem?_append_left (by simpa using hi),getElem?_map]at B;cases e:vs[i]? with
   |none=>rw[e]at B;cases B
   |some a=>rw[e]at B;cases B;rfl
  obtain⟨u,hu,rv⟩:=r.get ha;have hp:ps[i]?=some y:=by
   rw[←S.pre,List.getElem?_take_of_lt (by omega)];exact h1
  have ndP:ps.Nodup:=by rw[←S.pre];exact S.nd.sublist (List.take_sublist _ _)
  refine⟨u,rv,?_⟩
  rcases S.par y (mem_of_getElem? hp) with k|k
  ·exact .inl ⟨k,oB ndP hp hu k⟩
  ·obtain⟨c,e⟩:=rn (n:=s.heap.objs.size+1) k;refine .inr ⟨.inl k,c,e,?_⟩;have q:=x.cell y c e;rw[oz ndP hp hu (by show scope.names.lookup y≠_;rw[k];decide)]at q;exact q
 ·exact e0.hok.fresh (le_of_lt (x.above y c (PySem.mem_of_lookup h)))
 ·unfold fN;show _=N.length;rw[length_append,length_map,List.length_replicate];omega
def xQ {CX:qX}{P:Zv}{w:Zn}{K:Z8}{mg:Z4}{base:Y5}{k:Nat}{params:Arguments}{scope:Yz}{dV kV doc pm cdv ct oc:Zc}{an od:Option Addr}{osl:Array (Option Value)}{N ps:Zw}{sp:Sp} (lk:K.lookup f=some ⟨oc,od,.func (W.fnOf name qual params body scope dV kV doc pm an cdv ct),osl⟩) (hcd:W.codeIn K cdv qual=true) (S:FnScope N ps scope)(len:∀vs H Q E,sp vs H Q E→vs.length=ps.length)(hbody:∀(A:Zl) (outer:Yx) (s:Z3) (H:Hp) (vs:List V) (Q:VK) (E:XK),Room k (A.deeper (envOfC qual scope s.heap.objs.size f cdv))→sp vs H Q E→
   ∃t,En (rB CX P w K mg base N qual scope f cdv A outer s H E) body t∧t {nx:=λ_ H'=>Q .non H',rt:=Q} (fN N vs) H) :
  FnOk P w K mg base CX (k+1) f (W.fnOf name qual params body scope dV kV doc pm an cdv ct) ps sp:=by
 refine⟨len,λA outer s H args us vs Q E hr e0 hb r hsp=>?_⟩;have hl:=len _ _ _ _ hsp;have KX:K.In s.heap:=e0.mod.kin.keeps λb o e=>(e0.bs b o e).1;have lim:s.heap.NoLimit:=e0.mod.nolimit.keeps λb o e=>(e0.bs b o e).1;have hkind:∀y∈ps.zip us,scope.names.lookup y.1=some .local∨(scope.names.lookup y.1=some .cell∧((cellsFrom (s.heap.objs.size+1) scope.names []).lookup y.1).isSome=true):=λ⟨n,v⟩ hy=>by
  rcases S.par n (of_mem_zip hy).1 with q|q
  ·exact .inl q
  ·exact .inr ⟨q,W.cellsFrom_some _ _ _ (.inl q)⟩
 refine codeAny_call_function hr.depth (KX _ _ lk) rfl S.co S.gen rfl (W.codeRec_of KX hcd) (hb _ _ _ _ ?_);refine wpAny_newFunctionEnv_cells S.kind hkind λenv he s1 x=>?_;subst he;refine⟨lim.keeps x.toInCall.keep,codeAny_func ?_⟩;obtain⟨t,ht,hq⟩:=hbody A outer s H vs Q E (hr.deeper _) hsp;have I:Inv (rB CX P w K mg base N qual scope f cdv A outer s H E) [] (fN N vs) H s1:=wn S hr.hd e0 hl r x;refine wpAny_mono (ht [] s1 (fN N vs) H _ I hq) (λfl s' hs=>?_) λe s' hs=>hs;have fin:∀{z:St} {H':Hp} {v:V} {u:Value},Inv (rB CX P w K mg base N qual scope f cdv A outer s H E) [] z H' s'→RelV v u→Q v H'→CE outer P w H s Q u s':=
  λ{z H' v u} J rv q=>⟨v,H',J.os,J.bare,J.base,J.hok,rv,q⟩
 cases fl with
 |ret u=>
  obtain⟨v,z,H',J,rv,q⟩:=hs;exact fin J rv q
 |next=>
  obtain⟨z,H',J,q⟩:=hs;exact fin (v:=V.non) (u:=Value.none) J rfl q
 |brk=>
  obtain⟨_,_,_,q⟩:=hs;exact False.elim q
 |cont=>
  obtain⟨_,_,_,q⟩:=hs;exact False.elim q
section
variable{X:Cx}{x:Yq}{p pos:Yn}{e:Y1}{es:Zd}{t:TA}{id T:String}{r:List V→Hp→VK→Prop}
def Gi (r:List V→Hp→VK→Prop)(t:TA):TE:=λσ H Q=>t σ H λvs H1=>r vs H1 Q
def ny (hc:dZ X (.builtin id) r)(hg:Gl X x)(hm:X.mg x=none)(hv:bootBuiltins x=some (.builtin id))(ha:PA X (e::es) t)(hn:x≠ "__name__" :=by decide)(hdb:zQ1 x:=by decide)(he:zQ2 X e es:=by rfl) (hpl:(backTo pos (starEach es X.env)).any (·.1)=false:=by rfl):PE X (.Call (.Name x p) (e::es) [] pos) (Gi r t):=by
 intro pins s σ H Q I h;refine wpAny_Call_Name_kw (iW I hg hm hv ?_ hn hdb);exact PyProof.Rows.callWith_builtin1 (aS (ha pos pins s σ H _ I h) λus s1 hZ78=>(by obtain⟨vs,H1,I1,r1,q1⟩:=hZ78;exact hc pins s1 σ H1 vs us Q I1 r1 q1)) he hpl
def cS (hc:dZ X (.type T) r)(hg:Gl X x)(hm:X.mg x=none)(hv:bootBuiltins x=some (.type T))(ha:PA X (e::es) t)(hn:x≠ "__name__" :=by decide)(hdb:zQ1 x:=by decide)(he:zQ2 X e es:=by rfl) (hpl:(backTo pos (starEach es X.env)).any (·.1)=false:=by rfl):PE X (.Call (.Name x p) (e::es) [] pos) (Gi r t):=by
 intro pins s σ H Q I h;refine wpAny_Call_Name_kw (iW I hg hm hv ?_ hn hdb);exact PyProof.Rows.callWith_type1 (aS (ha pos pins s σ H _ I h) λus s1 hZ79=>(by obtain⟨vs,H1,I1,r1,q1⟩:=hZ79;exact hc pins s1 σ H1 vs us Q I1 r1 q1)) he hpl
end
end L2
namespace HT
open PySem PyProof.Rows
def iE:List Int→List Int→Bool
 | [],[]=>false
 | [],_::_=>true
 |_::_,[]=>false
 |x::xs,y::ys=>if x=y then iE xs ys else decide (x<y)
def tU (x y:Int)(xs ys:Z2):iE (x::xs) (y::ys)=if x=y then iE xs ys else decide (x<y):=rfl
def oh:iE [] []=false:=rfl
def ng (y:Int)(ys:Z2):iE [] (y::ys)=true:=rfl
def m_ (x:Int)(xs:Z2):iE (x::xs) []=false:=rfl
section
open PySem.SeqAt
open PySem.AutoSeq1 (wpAny_loadPart')
open PySem.MeetsSeq PySem.MeetsSeq2 PySem.MeetsSeq3
end
section
variable{prog:Zv}{w:Zn}{A:Zl}{E:Z5}{s:Shared}
def cG (n d:Nat):Option Int→Nat
 |none=>d
 |some v=>if v<0 then (v+(n:Int)).toNat else min v.toNat n
def Bv (n d k:Nat):cG n d (some (k:Int))=min k n:=by
 show (if (k:Int)<0 then ((k:Int)+(n:Int)).toNat else min (k:Int).toNat n)=min k n
 rw[Yi (by omega),toNat_natCast]
def Ec (n d:Nat)(hd:d≤n)(o:Yy):cG n d o≤n:=by
 cases o with
 |none=>exact hd
 |some v=>
  show (if v<0 then (v+(n:Int)).toNat else min v.toNat n)≤n
  by_cases hv:v<0
  ·rw[Yj hv];omega
  ·rw[Yi hv];exact Nat.min_le_right _ _
def l5 (v:Int)(n d:Nat):(if v<0 then max (v+(n:Int)) 0 else min v (n:Int))=((cG n d (some v):Nat):Int):=by
 show (if v<0 then max (v+(n:Int)) 0 else min v (n:Int))=(((if v<0 then (v+(n:Int)).toNat else min v.toNat n):Nat):Int)
 by_cases hv:v<0
 ·simp only[Yj hv];omega
 ·simp only[Yi hv];omega
def tt (lo hi:Yy)(n:Nat):Builtin.Slice.sliceAdjust lo hi 1 (n:Int)=(((cG n 0 lo:Nat):Int),((cG n n hi:Nat):Int)):=by
 have h1:¬((1:Int)<0):=by omega
 unfold Builtin.Slice.sliceAdjust;simp only[h1,if_false];refine Prod.ext ?_ ?_
 ·cases lo with
  |none=>rfl
  |some v=>exact l5 v n 0
 ·cases hi with
  |none=>rfl
  |some v=>exact l5 v n n
def ue (i j:Nat):Builtin.Slice.slicePlaces (i:Int) (j:Int) 1=j-i:=by
 unfold Builtin.Slice.slicePlaces;have h1:(1:Int)>0:=by omega
 simp only[h1,if_true,Int.ediv_one];split <;> omega
def nN {o:Yy}{Q:Option Int→Shared→Prop}(p:IsPart v o)(h:Q o s):wpAny (model prog w) A (Builtin.Slice.slicePartIndex v) Q E s:=by
 cases p with
 |none=>exact slicePart_none h
 |int i t=>exact slicePart_int h
def lm {lo hi:Yy}{n:Nat}{Q:Int×Int×Nat→Shared→Prop}(hs:s.heap.IsSliceOf sl vl vu .none)(pl:IsPart vl lo)(pu:IsPart vu hi)(h:Q (((cG n 0 lo:Nat):Int),1,cG n n hi-cG n 0 lo) s):wpAny (model prog w) A (Builtin.Slice.sliceApplied (.ref sl) (pure (n:Int))) Q E s:=by
 obtain⟨os,hos,hcs,hds⟩:=id hs;unfold Builtin.Slice.sliceApplied Builtin.Slice.sliceFields;refine Zx (Zx (wpAny_field hos hds (x:=vl) rfl (Zx (wpAny_field hos hds (x:=vu) rfl (Zx (wpAny_field hos hds (x:=.none) rfl (Zp ?_)))))));refine Zx (slicePart_none ?_);show wpAny _ _ (if ((1:Int)==0)=true then _ else _) _ _ s
 rw[Yi (by decide)];refine Zx (nN pl (Zx (nN pu (Zx (Zp ?_)))));show wpAny _ _ (match Builtin.Slice.sliceAdjust lo hi 1 (n:Int) with|(lo,hi)=>pure (lo,(1:Int),Builtin.Slice.slicePlaces lo hi 1)) _ _ s
 rw[tt lo hi n];show wpAny _ _ (pure (((cG n 0 lo:Nat):Int),(1:Int),Builtin.Slice.slicePlaces ((cG n 0 lo:Nat):Int) ((cG n n hi:Nat):Int) 1)) _ _ s;rw[ue];exact Zp h
def yN (xs:Ym)(i k:Nat):((List.range k).filterMap λ(m:Nat)=>xs[((i:Int)+(m:Int)*1).toNat]?).toArray=((xs.toList.drop i).take k).toArray:=by
 have e:(λ(m:Nat)=>xs[((i:Int)+(m:Int)*1).toNat]?)=λm=>xs[i+m]?:=by
  funext m;have:((i:Int)+(m:Int)*1).toNat=i+m:=by omega
  rw[this]
 rw[e];have:=pick_run xs i k;rw[filterMap_map]at this;have e2:((λx=>xs[x]?) ∘ λx=>i+x)=λm=>xs[i+m]?:=rfl;rw[e2]at this;rw[this]
def j5 {items:Ym}{lo hi:Yy}{Q:Z5}(ht:IsTup s.heap t items)(hs:s.heap.IsSliceOf sl vl vu .none)(pl:IsPart vl lo)(pu:IsPart vu hi)(hw:¬(cG items.size 0 lo=0∧cG items.size items.size hi=items.size))(h:Q (.ref s.heap.objs.size) {s with heap:=s.heap.push {cls:=.type "tuple",data:=.seq ((items.toList.drop (cG items.size 0 lo)).take (cG items.size items.size hi-cG items.size 0 lo)).toArray}})
  (hsz:items.size≤sizeLine):wpAny (model prog w) A (getItem (.ref t) (.ref sl)) Q E s:=by
 have B:sizeOk (.seq ((items.toList.drop (cG items.size 0 lo)).take (cG items.size items.size hi-cG items.size 0 lo)).toArray):=by
  show ((items.toList.drop (cG items.size 0 lo)).take (cG items.size items.size hi-cG items.size 0 lo)).toArray.size≤sizeLine;rw[size_toArray,length_take,length_drop,length_toList];omega
 have hj:cG items.size items.size hi≤items.size:=Ec _ _ (le_refl _) hi;obtain⟨os,hos,hcs,hds⟩:=id hs;have hTs:s.TypeIs (.ref sl) "slice" :=⟨os,hos,hcs⟩;unfold getItem
 try with_reducible refine wpAny_holding ?_
 first|refine Zx (Zp ?_)|skip
 refine Zx (wpAny_sequenceKey ht.typeIs (by decide) ?_);refine Zx (wpAny_callSpecial?_slot (name:=Str.ofString "__getitem__") ht.typeIs PyProof.Rows.slot_tuple_getitem
  (wpAny_call_entry PyProof.Rows.slot_tuple_getitem ht.typeIs entry_tuple_getitem ?_ (args_tuple_getitem _ _)))
 show wpAny _ _ (Builtin.Tuple.tupleItemsOf (.ref t) >>= _) _ _ s;refine Zx (tupleItemsOf_ ht ?_);refine Zx (wpAny_typeOf hTs ?_);rw[Yj (by decide)];refine Zx (lm hs pl pu ?_);have hno:¬((((cG items.size 0 lo:Nat):Int)==0&&(1:Int)==1&&(cG items.size items.size hi-cG items.size 0 lo)==items.size)=true):=by
  intro q;rw[and_eq_true,and_eq_true]at q;have q1:((cG items.size 0 lo:Nat):Int)=0:=eq_of_beq q.1.1;have q2:cG items.size items.size hi-cG items.size 0 lo=items.size:=eq_of_beq q.2;exact hw ⟨by omega,by omega⟩
 show wpAny _ _ (if (((cG items.size 0 lo:Nat):Int)==0&&(1:Int)==1&&(cG items.size items.size hi-cG items.size 0 lo)==items.size)=true then _ else _) _ _ s
 rw[Yi hno,yN]
 first
  |exact Zx (m:=Builtin.Tuple.tupleExact _) (wpAny_newObj_type (Zp ⟨_,rfl,Zp h⟩) B)
  |exact Zx (m:=Builtin.Tuple.tupleExact _) (wpAny_newObj_type (Zx (Zp (Zp ⟨_,rfl,Zp h⟩))) B)
  |exact Zx (Zx (m:=Builtin.Tuple.tupleExact _) (wpAny_newObj_type (Zp (Zp ⟨_,rfl,Zp h⟩)) B))
  |exact Zx (Zx (m:=Builtin.Tuple.tupleExact _) (wpAny_newObj_type (Zp ⟨_,rfl,Zp h⟩) B))
end
end HT
namespace L2
open PySem PySem.Spec PyProof.Rows
abbrev TO:=St→Hp→(Option Int→Hp→Prop)→Prop
def PO (X:Cx)(e:Option Expr)(t:TO):Prop:=
 ∀(pins:Z9) (s:Z3) (σ:St) (H:Hp) (Q:Option Int→Hp→Prop),Inv X pins σ H s→t σ H Q→
  wpAny (model X.prog X.w) X.A (evalPart e X.env) (λu s'=>∃o H',Inv X pins σ H' s'∧IsPart u o∧Q o H') X.xe s
def BI:TO:=λ_ H Q=>Q none H
def Fv (t:TE):TO:=λσ H Q=>t σ H λx H1=>∃i,x= .int i∧Q (some i) H1
def jI {ns:Z2}:∀{us:List Value},Vals (ns.map V.int) us→IntsAre us ns:=by
 induction ns with
 |nil=>intro us r;rw[map_nil]at r;cases r;exact .nil
 |cons n ns ih=>
  intro us r;rw[map_cons]at r;cases r with
  |cons r1 r2=>
   obtain⟨t,e⟩:=r1;subst e;exact .cons n t (ih r2)
section
variable{X:Cx}{e:Y1}{te:TE}{lo hi:Option Expr}{tl th:TO}{pos p2:Pos}
def Bj:PO X none BI:=by
 intro pins s σ H Q I h;rw[evalPart_none];exact Zp ⟨none,H,I,.none,h⟩
def Bk (h:PE X e te):PO X (some e) (Fv te):=by
 intro pins s σ H Q I hw;rw[evalPart_some];refine aS (h pins s σ H _ I hw) λu s1 hZ80=>?_;obtain⟨x,H1,I1,r1,q1⟩:=hZ80;obtain⟨i,rfl,q⟩:=q1;obtain⟨t,rfl⟩:=r1;exact⟨some i,H1,I1,.int i t,q⟩
def SlR (X:Cx)(r:V→Option Int→Option Int→Hp→VK→Prop):Prop:=
 ∀(pins:Z9) (s:Z3) (σ:St) (H:Hp) (x:V) (v vl vu:Zc) (lo hi:Yy) (sl:Zz) (Q:VK),Inv X pins σ H s→RelV x v→s.heap.IsSliceOf sl vl vu .none→IsPart vl lo→IsPart vu hi→r x lo hi H Q→
  ∃T id,typeLookup (.type T) "__getitem__" =pure (some (.builtin id))∧s.TypeIs v T∧wpAny (model X.prog X.w) X.A (getItem v (.ref sl)) (EP X pins σ Q) X.xe s
def SlR.or {r r':V→Option Int→Option Int→Hp→VK→Prop}(h:SlR X r)(h':SlR X r'):SlR X (λx lo hi H Q=>r x lo hi H Q∨r' x lo hi H Q):=by
 intro pins s σ H x v vl vu lo hi sl Q I rx hs pl pu q
 rcases q with q|q
 ·exact h pins s σ H x v vl vu lo hi sl Q I rx hs pl pu q
 ·exact h' pins s σ H x v vl vu lo hi sl Q I rx hs pl pu q
def GI (r:V→Option Int→Option Int→Hp→VK→Prop)(te:TE)(tl th:TO):TE:=λσ H Q=>te σ H λx H1=>tl σ H1 λl H2=>th σ H2 λu H3=>r x l u H3 Q
def sf {r:V→Option Int→Option Int→Hp→VK→Prop}(hr:SlR X r)(he:PE X e te)(hl:PO X lo tl)(hu:PO X hi th):PE X (.Subscript e (.Slice lo hi none p2) pos) (GI r te tl th):=by
 intro o s σ H Q I h;refine Subscript_ (aS (he o s σ H _ I h) λv s1 hZ81=>?_);obtain⟨x,H1,I1,r1,q1⟩:=hZ81;refine wpAny_Slice (aS (hl o s1 σ H1 _ I1 q1) λvl s2 ⟨l,H2,I2,pl,q2⟩=>aS (hu o s2 σ H2 _ I2 q2) λvu B hZ83=>?_);obtain⟨u,H3,I3,pu,q3⟩:=hZ83;rw[evalPart_none];refine Zp ?_;have I4:Inv X o σ H3 {B with heap:=B.heap.push {cls:=.type "slice",data:=.fields #[vl,vu,.none]}}:=I3.kept (t':=B.toks) λb ob q=>Heap.get?_push_of_some _ q
 obtain⟨T,id,hT,ht,hg⟩:=hr o {B with heap:=B.heap.push {cls:=.type "slice",data:=.fields #[vl,vu,.none]}} σ H3 x v vl vu l u B.heap.objs.size Q I4 r1 (Heap.IsSliceOf.new ..) pl pu q3
 show wpAny (model X.prog X.w) X.A (subscriptTail e (.Slice lo hi none p2) v (.ref B.heap.objs.size)) (EP X o σ Q) X.xe {B with heap:=B.heap.push {cls:=.type "slice",data:=.fields #[vl,vu,.none]}}
 exact tail_any (ops:=[.ref B.heap.objs.size,v]) ht hT hg (by with_unfolding_all rfl)
def rq (xs:List V)(lo hi:Yy):List V:=(xs.drop (HT.cG xs.length 0 lo)).take (HT.cG xs.length xs.length hi-HT.cG xs.length 0 lo)
def ly (xs:List V)(lo hi:Yy):(rq xs lo hi).length≤xs.length:=by
 unfold rq;rw[length_take,length_drop];omega
def Gd (K:Z8):V→Option Int→Option Int→Hp→VK→Prop:=λx lo hi H Q=>∃a xs,x= .ref a∧lT K H a xs∧
 ¬(HT.cG xs.length 0 lo=0∧HT.cG xs.length xs.length hi=xs.length)∧∀p,H p=none→Q (.ref p) (bc H p (.tup (rq xs lo hi)))
def zq:SlR X (Gd X.K):=by
 intro pins s σ H x v vl vu lo hi sl Q I rx hs pl pu h;obtain⟨a,xs,rfl,hx,hw,q⟩:=h;cases rx;obtain⟨its,r,ht,hz⟩:=I.tuple hx;have C:its.toArray.size=xs.length:=by rw[size_toArray];exact r.length.symm
 refine⟨"tuple",_,PyProof.Rows.slot_tuple_getitem.lookup,ht.typeIs,?_⟩;refine HT.j5 ht hs pl pu (by rw[C];exact hw) ?_ (by rw[C];exact hz);rw[C];refine⟨.ref s.heap.objs.size,_,I.laid (t':=s.toks) (o:=.tup (rq xs lo hi)) (λb ob q=>Heap.get?_push_of_some _ q) (le_refl _) ?_,rfl,q _ (I.hok.fresh (le_refl _))⟩;exact⟨le_trans (ly xs lo hi) hz,_,(r.drop (HT.cG xs.length 0 lo)).take (HT.cG xs.length xs.length hi-HT.cG xs.length 0 lo),IsTup.new _ _⟩
end
def oU (n:Nat)(i:Int):Option Nat:=if 0≤i then (if i<n then some i.toNat else none) else if -(n:Int)≤i then some (i+n).toNat else none
def atI {α:Type}(xs:List α)(i:Int):Option α:=(oU xs.length i).bind λj=>xs[j]?
def ia {n:Nat}{i:Int}{j:Nat}(h:oU n i=some j):seqIndex? i n=some j∧j<n∧ -(n:Int)≤i∧i<n:=by
 unfold oU at h;by_cases h0:0≤i
 ·rw[Yj h0]at h;by_cases D:i<n
  ·rw[Yj D]at h;have e:i.toNat=j:=Option.some.inj h;exact⟨by rw[seqIndex_of h0 D,e],by omega,by omega,D⟩
  ·rw[Yi D]at h;cases h
 ·rw[Yi h0]at h;by_cases D: -(n:Int)≤i
  ·rw[Yj D]at h;have e:(i+n).toNat=j:=Option.some.inj h;exact⟨by rw[seqIndex_neg (by omega) D,e],by omega,D,by omega⟩
  ·rw[Yi D]at h;cases h
def pT {α:Type}{xs:List α}{i:Int}{v:α}(h:atI xs i=some v):∃j,seqIndex? i xs.length=some j∧xs[j]?=some v∧j<xs.length∧ -(xs.length:Int)≤i∧i<xs.length:=by
 unfold atI at h;cases e:oU xs.length i with
 |none=>rw[e]at h;cases h
 |some j=>
  rw[e]at h;obtain⟨h1,h2,h3,h4⟩:=ia e;exact⟨j,h1,h,h2,h3,h4⟩
def uG {α:Type}{xs:List α}{j:Nat}{v:α}(h:xs[j]?=some v):atI xs (j:Int)=some v:=by
 have hj:j<xs.length:=(d8 h).1;have e:oU xs.length (j:Int)=some j:=by
  unfold oU;rw[Yj (by omega),Yj (by omega)];simp
 unfold atI;rw[e];exact h
def pR (b:Y1):Prop:=∀o i,subscripted b false o i=operate [o,i] (getItem o i)
def IxR (X:Cx)(r:R2):Prop:=
 ∀(value slice:Y1) (pins:Z9) (s:Z3) (σ:St) (H:Hp) (x y:V) (v u:Zc) (Q:VK),Inv X pins σ H s→RelV x v→RelV y u→r x y H Q→
  subscripted slice false v u=operate [v,u] (getItem v u)→wpAny (model X.prog X.w) X.A (subscriptTail value slice v u) (EP X pins σ Q) X.xe s
def xh (X:Cx)(id:String)(r:V→List V→Hp→VK→Prop):Prop:=
 ∀(pins:Z9) (s:Z3) (σ:St) (H:Hp) (x:V) (xs:List V) (v:Zc) (us:Z1) (Q:VK),Inv X pins σ H s→RelV x v→Vals xs us→r x xs H Q→
  wpAny (model X.prog X.w) X.A (call (.builtin id) (v::us)) (EP X pins σ Q) X.xe s
section
variable{X:Cx}{a b:Y1}{ta tb:TE}{pos:Pos}
def IxR.or {r r':R2}(h:IxR X r)(h':IxR X r'):IxR X (λx y H Q=>r x y H Q∨r' x y H Q):=by
 intro E F pins s σ H x y v u Q I rx ry q hs
 rcases q with q|q
 ·exact h E F pins s σ H x y v u Q I rx ry q hs
 ·exact h' E F pins s σ H x y v u Q I rx ry q hs
def B6 {r:R2}(hr:IxR X r)(ha:PE X a ta)(hb:PE X b tb)(hs:pR b):PE X (.Subscript a b pos) (GA r ta tb):=by
 intro pins s σ H Q I h;exact Subscript_ (FV ha hb I h λv u s2 x y H2 I2 rx ry q=>hr a b pins s2 σ H2 x y v u Q I2 rx ry q (hs _ _))
def Fl (K:Z8):R2:=λx y H Q=>∃p xs i v,x= .ref p∧y= .int i∧f_ K H p xs∧atI xs i=some v∧Q v H
def Fo (K:Z8):R2:=λx y H Q=>∃p xs i v,x= .ref p∧y= .int i∧lT K H p xs∧atI xs i=some v∧Q v H
def Fm:R2:=λx y H Q=>∃z i c,x= .str z∧y= .int i∧z.length≤sizeLine∧atI z.cps.toList i=some c∧Q (.str ⟨#[c]⟩) H
def ix_list:IxR X (Fl X.K):=by
 intro value slice pins s σ H x y v u Q I rx ry h hs;obtain⟨p,xs,i,z,rfl,rfl,hq,he,q⟩:=h;cases rx;obtain⟨t,rfl⟩:=ry;obtain⟨its,r,pl,hz⟩:=I.list hq;obtain⟨j,h1,h2,h3,h4,h5⟩:=pT he;obtain⟨w,ew,rw'⟩:=r.get h2;have hl:=r.length;have hn:=nh;have fin:EP X pins σ Q w s:=⟨z,H,I,rw',q⟩;by_cases h0:0≤i
 ·have hj:i.toNat=j:=by
   rw[seqIndex_of h0 h5]at h1;exact Option.some.inj h1
  exact item_listR pl.isList h0 (by omega) (by rw[hj];simpa using ew) fin hs
 ·have hj:(i+(its.toArray.size:Int)).toNat=j:=by
   rw[seqIndex_neg (by omega) h4]at h1;rw[size_toArray,←hl];exact Option.some.inj h1
  exact subscriptTail_builtinR (x:=w) pl.isList.typeIs slot_list_getitem.lookup
   (wpAny_getItem_list_neg (Q:=λr s'=>r=w∧EP X pins σ Q r s') pl.isList (by omega) (by rw[size_toArray] <;> omega) (by omega) (by rw[hj];simpa using ew) ⟨rfl,fin⟩) hs
def ix_tup:IxR X (Fo X.K):=by
 intro value slice pins s σ H x y v u Q I rx ry h hs;obtain⟨p,xs,i,z,rfl,rfl,hq,he,q⟩:=h;cases rx;obtain⟨t,rfl⟩:=ry;obtain⟨its,r,pl,hz⟩:=I.tuple hq;obtain⟨j,h1,h2,h3,h4,h5⟩:=pT he;obtain⟨w,ew,rw'⟩:=r.get h2;have hl:=r.length;have hn:=nh;have fin:EP X pins σ Q w s:=⟨z,H,I,rw',q⟩;exact subscriptTail_builtinR (x:=w) pl.typeIs slot_tuple_getitem.lookup
  (getItem_tuple (j:=j) (Q:=λr s'=>r=w∧EP X pins σ Q r s') pl (by omega) (by omega) (by rw[size_toArray,←hl];exact h1) (by simpa using ew) ⟨rfl,fin⟩) hs
def Da:IxR X Fm:=by
 intro value slice pins s σ H x y v u Q I rx ry h hs;obtain⟨z,i,c,rfl,rfl,hz,he,q⟩:=h;obtain⟨t,rfl⟩:=rx;obtain⟨t',rfl⟩:=ry;obtain⟨j,h1,h2,h3,h4,h5⟩:=pT he;have hl:z.cps.toList.length=z.length:=by simp[Str.length]
 rw[hl]at h1 h4 h5;have hn:=nh;exact tail_any (typeIs_str s z t) slot_str_getitem.lookup (getItem_str (c:=c) (by
  have e1:decide (i < -(2 ^ 63:Int))=false:=Zh (by omega);have e2:decide (i ≥ 2 ^ 63)=false:=Zh (by omega);rw[e1,e2,Bool.or_false]) (by rw[h1];simpa using h2) ⟨.str ⟨#[c]⟩,H,I.tok _,⟨_,rfl⟩,q⟩) hs
def GG (K:Z8):R2:=λx y H Q=>Fl K x y H Q∨Fo K x y H Q∨Fm x y H Q
def C_:IxR X (GG X.K):=ix_list.or (ix_tup.or Da)
def tX (its:Z1)(n j:Nat)(u:Zc):Obj.mapSeq (·.setIfInBounds j u) {cls:=.type "list",data:=.seq its.toArray n}={cls:=.type "list",data:=.seq (its.set j u).toArray n}:=by
 simp[Obj.mapSeq]
def Inv.lst {pins:Z9}{σ:St}{H:Hp}{s:Z3}{xs:List V}(I:Inv X pins σ H s)(h:H p=some (.lst xs)) :
  ∃(its:Z1) (n:Nat),Vals xs its∧s.heap.get? p=some {cls:=.type "list",data:=.seq its.toArray n}∧xs.length≤sizeLine:=by
 obtain⟨z,its,n,r,e⟩:=I.hok p _ h;exact⟨its,n,r,e,z⟩
def Inv.lstUpd {pins:Z9}{σ:St}{H:Hp}{s:Z3}{xs ys:List V}{its its':Z1}{n n':Nat}{f:Obj→Obj}(I:Inv X pins σ H s)(h:H p=some (.lst xs))(ho:s.heap.get? p=some {cls:=.type "list",data:=.seq its.toArray n}) (hf:f {cls:=.type "list",data:=.seq its.toArray n}={cls:=.type "list",data:=.seq its'.toArray n'}) (r:Vals ys its') (hz:ys.length≤sizeLine) (t:Nat) :
  Inv X pins σ (bc H p (.lst ys)) {s with heap:=s.heap.update p f,toks:=t}:=by
 have e:(s.heap.update p f).get? p=some {cls:=.type "list",data:=.seq its'.toArray n'}:=by
  rw[Heap.get?_update_self f ho (by rw[hf] <;> rfl),hf]
 refine I.write (x:=p) (e:=p) (by rw[h];trivial) (.inl rfl) (λb u hb q=>(Heap.get?_update_other _ _ (Ne.symm hb)).trans q) ⟨_,e⟩ ?_;exact⟨hz,its',n',r,e⟩
def Fp:V→V→V→Hp→(Hp→Prop)→Prop:=λo i v H Q=>∃p xs k j,o= .ref p∧i= .int k∧H p=some (.lst xs)∧oU xs.length k=some j∧Q (bc H p (.lst (xs.set j v)))
def zo:Eu X Fp:=by
 intro pins s σ H o i v ov iv u Q I ro ri rv h;obtain⟨p,xs,k,j,rfl,rfl,hp,hj,q⟩:=h;cases ro;obtain⟨t,rfl⟩:=ri;obtain⟨its,n,r,ho,hz⟩:=I.lst hp;obtain⟨h1,h2,h3,h4⟩:=ia hj;have hl:=r.length;have hn:=nh;have I':Inv X pins σ (bc H p (.lst (xs.set j v))) {s with heap:=s.heap.update p (Obj.mapSeq (·.setIfInBounds j u))}:=
  I.lstUpd hp ho (tX its n j u) (r.set rv j) (by rw[length_set];exact hz) s.toks
 by_cases h0:0≤k
 ·have hk:k.toNat=j:=by
   rw[seqIndex_of h0 h4]at h1;exact Option.some.inj h1
  exact W.ki_setAt ho h0 (by omega) (by rw[size_toArray,←hl];exact h4) (by rw[hk];exact⟨_,I',q⟩)
 ·have hk:(k+(its.toArray.size:Int)).toNat=j:=by
   rw[seqIndex_neg (by omega) h3]at h1;rw[size_toArray,←hl];exact Option.some.inj h1
  exact W.ki_setBack ho (by omega) (by rw[size_toArray,←hl];exact h3) (by omega) (by rw[hk];exact⟨_,I',q⟩)
def BR (i n:Int)(hn:0≤n):max 0 (min (if i<0 then i+n else i) n)=if i<0 then max (i+n) 0 else min i n:=by
 by_cases h:i<0
 ·rw[Yj h,Yj h,Int.min_eq_left (by omega),Int.max_comm]
 ·rw[Yi h,Yi h,Int.max_eq_right (Int.le_min.mpr ⟨Int.not_lt.mp h,hn⟩)]
def qT (lo hi:Yy)(n:Nat):(sliceBounds lo hi none n).1=((HT.cG n 0 lo:Nat):Int)∧(sliceBounds lo hi none n).2.1=((HT.cG n n hi:Nat):Int)∧(sliceBounds lo hi none n).2.2=1:=by
 refine⟨?_,?_,rfl⟩
 ·cases lo with
  |none=>simp[sliceBounds,HT.cG]
  |some i=>
   rw[←HT.l5 i n 0,←BR i n (Int.natCast_nonneg n)];simp only[sliceBounds,getD_none,show (1:Int)>0 by decide,if_true]
 ·cases hi with
  |none=>simp[sliceBounds,HT.cG]
  |some i=>
   rw[←HT.l5 i n n,←BR i n (Int.natCast_nonneg n)];simp only[sliceBounds,getD_none,show (1:Int)>0 by decide,if_true]
def oq (its:Z1)(lo hi:Yy):slicePick its.toArray lo hi none=((its.drop (HT.cG its.length 0 lo)).take (HT.cG its.length its.length hi-HT.cG its.length 0 lo)).toArray:=by
 obtain⟨h1,h2,h3⟩:=qT lo hi its.toArray.size;unfold slicePick;rw[h1,h2,h3];simp only[sliceRange_one,pick_run,size_toArray] <;> rfl
def Gc (K:Z8):V→Option Int→Option Int→Hp→VK→Prop:=λx lo hi H Q=>∃a xs,x= .ref a∧f_ K H a xs∧∀p,H p=none→Q (.ref p) (bc H p (.lst (rq xs lo hi)))
def sl_list:SlR X (Gc X.K):=by
 intro pins s σ H x v vl vu lo hi sl Q I rx hs pl pu h;obtain⟨a,xs,rfl,hx,q⟩:=h;cases rx;obtain⟨its,r,ht,hz⟩:=I.list hx;have hlen:=r.length;refine⟨"list",_,slot_list_getitem.lookup,ht.isList.typeIs,?_⟩;refine wpAny_getItem_list_slice ht.isList hs pl pu .none (by simp) ?_ (by rw[size_toArray] <;> omega);rw[oq,←hlen];refine⟨.ref s.heap.objs.size,_,I.laid (t':=s.toks) (o:=.lst (rq xs lo hi)) (λb ob q=>Heap.get?_push_of_some _ q) (le_refl _) ?_,rfl,q _ (I.hok.fresh (le_refl _))⟩;exact⟨le_trans (ly xs lo hi) hz,_,0,(r.drop (HT.cG xs.length 0 lo)).take (HT.cG xs.length xs.length hi-HT.cG xs.length 0 lo),Heap.get?_push_size _ rfl⟩
def pU:dZ X (.builtin "len") (λxs H Q=>∃p ys,xs=[.ref p]∧(f_ X.K H p ys∨lT X.K H p ys)∧Q (.int ys.length) H):=by
 intro pins s σ H xs us Q I r h;obtain⟨p,ys,rfl,hq,q⟩:=h;obtain⟨u,rfl,rx⟩:=i8 r;cases rx;have hn:=nh
 rcases hq with hq|hq
 ·obtain⟨its,r',pl,hz⟩:=I.list hq;have C:=r'.length;exact Calls.call_len_list pl.isList (by simp only[size_toArray] <;> omega) ⟨.int ys.length,H,I.tok _,⟨s.toks+1,by rw[size_toArray,C]⟩,q⟩
 ·obtain⟨its,r',pl,hz⟩:=I.tuple hq;have C:=r'.length;exact len_tuple pl (by simp only[size_toArray] <;> omega) ⟨.int ys.length,H,I.tok _,⟨s.toks+1,by rw[size_toArray,C]⟩,q⟩
def g_:dZ X (.type "list") (λxs H Q=>∃p ys,xs=[.ref p]∧(f_ X.K H p ys∨lT X.K H p ys)∧∀l,H l=none→Q (.ref l) (bc H l (.lst ys))):=by
 intro pins s σ H xs us Q I r h;obtain⟨p,ys,rfl,hq,q⟩:=h;obtain⟨u,rfl,rx⟩:=i8 r;cases rx;have fin:∀(G:List Value),Vals ys G→ys.length≤sizeLine→∀(J:Y5) (c':Nat),(∀b o',s.heap.get? b=some o'→J.get? b=some o')→
   J.get? s.heap.objs.size=some {cls:=.type "list",dict:=none,data:=.seq G.toArray c',slots:= #[]}→EP X pins σ Q (.ref s.heap.objs.size) {s with heap:=J}:=λG r' hz J c' kp e=>
  ⟨.ref s.heap.objs.size,_,I.laid (t':=s.toks) kp (le_refl _) (show ObjOk X.prog X.w _ J _ (.lst ys) from ⟨hz,G,c',r',e⟩),rfl,q _ (I.hok.fresh (le_refl _))⟩
 rcases hq with hq|hq
 ·obtain⟨G,r',pl,hz⟩:=I.list hq;have hlen:=r'.length;obtain⟨o,ho,hc,n,hd⟩:=pl.isList;exact call_list_seq p (.inl rfl) ho hc hd (λJ c' kp e=>fin G r' hz J c' kp e) (by simp only[size_toArray] <;> omega)
 ·obtain⟨G,r',pl,hz⟩:=I.tuple hq;have hlen:=r'.length;obtain⟨o,ho,hc,n,hd⟩:=pl;exact call_list_seq p (.inr rfl) ho hc hd (λJ c' kp e=>fin G r' hz J c' kp e) (by simp only[size_toArray] <;> omega)
def nZ:dZ X (.type "tuple") (λxs H Q=>∃p ys,xs=[.ref p]∧((f_ X.K H p ys∧∀l,H l=none→Q (.ref l) (bc H l (.tup ys)))∨(lT X.K H p ys∧Q (.ref p) H))):=by
 intro pins s σ H xs us Q I r h;obtain⟨p,ys,rfl,h⟩:=h;obtain⟨u,rfl,rx⟩:=i8 r;cases rx
 rcases h with ⟨hq,q⟩|⟨hq,q⟩
 ·obtain⟨its,r',pl,hz⟩:=I.list hq;have hlen:=r'.length;refine call_tuple_list pl.isList (λh' kp=>?_) (by simp only[size_toArray] <;> omega);have I1:Inv X pins σ H {s with heap:=h'}:=I.kept (t':=s.toks) kp
  have I2:Inv X pins σ (bc H h'.objs.size (.tup ys)) {s with heap:=h'.push {cls:=.type "tuple",data:=.seq its.toArray}}:=
   I1.laid (t':=s.toks) (λb o e=>Heap.get?_push_of_some _ e) (le_refl _) (show ObjOk X.prog X.w _ _ _ (.tup ys) from ⟨hz,its,r',IsTup.new _ _⟩)
  exact⟨.ref h'.objs.size,_,I2,rfl,q _ (I1.hok.fresh (le_refl _))⟩
 ·obtain⟨its,r',pl,hz⟩:=I.tuple hq;exact call_tuple_same pl ⟨.ref p,H,I,rfl,q⟩
def Gs (K:Z8)(T:String)(x:V)(H:Hp):Prop:=match x with
 |.str _=>T= "str"
 |.int _=>T= "int"
 |.ref p=>(T= "list" ∧∃xs,f_ K H p xs)∨(T= "tuple" ∧∃o,K.lookup p=some o∧o.cls= .type "tuple" ∧o.dict=none)∨
   (T= "dict" ∧((∃kvs,H p=some (.dK kvs))∨∃kvs,H p=some (.dT kvs)))∨(T= "set" ∧∃S n,H p=some (.set S n))
 |_=>False
def zD {pins:Z9}{σ:St}{H:Hp}{s:Z3}{T:String}{x:V}(I:Inv X pins σ H s)(r:RelV x v)(ty:Gs X.K T x H) :
  s.TypeIs v T∧∀a,v= .ref a→∃ob,s.heap.get? a=some ob∧ob.dict=none:=by
 cases x with
 |str z=>
  obtain⟨t,rfl⟩:=r;cases (show T= "str" from ty);exact⟨typeIs_str s z t,λ_ e=>nomatch e⟩
 |int i=>
  obtain⟨t,rfl⟩:=r;cases (show T= "int" from ty);exact⟨typeIs_int s i t,λ_ e=>nomatch e⟩
 |ref p=>
  cases r
  rcases ty with ⟨rfl,xs,hq⟩|⟨rfl,o,J,hc,hd⟩|⟨rfl,J⟩|⟨rfl,S,n,J⟩
  ·obtain⟨its,_,pl,_⟩:=I.list hq;refine⟨pl.isList.typeIs,λa e=>?_⟩;cases e;obtain⟨o,n,e,c,hd,_⟩:=pl;exact⟨o,e,hd⟩
  ·refine⟨⟨o,I.kIn p o J,hc⟩,λa e=>?_⟩;cases e;exact⟨o,I.kIn _ o J,hd⟩
  ·have z:∃o,s.heap.get? p=some o∧o.ExactDict:=by
    rcases J with ⟨kvs,J⟩|⟨kvs,J⟩
    ·obtain⟨_,_,_,_,o,_,_,e,L,_⟩:=I.hok p _ J;exact⟨o,e,L⟩
    ·obtain⟨_,_,_,_,o,_,_,e,L,_⟩:=I.hok p _ J;exact⟨o,e,L⟩
   obtain⟨o,e,L⟩:=z;refine⟨⟨o,e,L.1⟩,λa e2=>?_⟩;cases e2;exact⟨o,e,L.2.1⟩
  ·obtain⟨o,_,_,_,e,L,_⟩:=I.hok p _ J;refine⟨⟨o,e,L.1⟩,λa e2=>?_⟩;cases e2;exact⟨o,e,L.2.1⟩
 |_=>exact False.elim ty
def Gh (K:Z8)(T:String)(r:V→List V→Hp→VK→Prop)(to:TE):TE:=λσ H Q=>to σ H λx H1=>Gs K T x H1∧r x [] H1 Q
def GH (K:Z8)(T:String)(r:V→List V→Hp→VK→Prop)(to:TE)(t:TA):TE:=λσ H Q=>to σ H λx H1=>Gs K T x H1∧t σ H1 λxs H2=>r x xs H2 Q
variable{o e:Y1}{es:Zd}{to:TE}{t:TA}{name:Yq}{apos cpos:Yn}{T id:String}{r:V→List V→Hp→VK→Prop}
def DM (pa:PlainAttrs T)(slot:Slot T name id)(hty:typeOf (.builtin id)=pure (.type "method_descriptor"))(hm:xh X id r)(ho:PE X o to)(hbase:attributeBase o name X.env (eval o X.env)=eval o X.env:=by rfl) (hline:(apos.endLine==cpos.line)=true:=by rfl):PE X (.Call (.Attribute o name apos) [] [] cpos) (Gh X.K T r to):=by
 intro pins s σ H Q I h;refine wpAny_Call_method0_late hbase hline (aS (ho pins s σ H _ I h) λv s1 hZ84=>?_);obtain⟨x,H1,I1,r1,ty,q1⟩:=hZ84;obtain⟨h1,h2⟩:=zD I1 r1 ty;exact⟨T,id,pa,slot,hty,h1,h2,Calls.callWith_builtin rfl (PySem.evalArgs_none (hm pins s1 σ H1 x [] v [] Q I1 r1 .nil q1))⟩
def lM (pa:PlainAttrs T)(slot:Slot T name id)(hty:typeOf (.builtin id)=pure (.type "method_descriptor"))(hm:xh X id r)(ho:PE X o to)(ha:PA X (e::es) t)(hbase:attributeBase o name X.env (eval o X.env)=eval o X.env:=by rfl)(hfew:((backTo cpos (starEach (e::es) X.env)).all (λx=> !x.1)&&(backToKw cpos (keywordEach [] X.env)).all (λx=>x.1.isSome)
  &&decide ((e::es).length+([]:List Keyword).length+(if ([]:List Keyword).isEmpty then 0 else 1)<30))=true:=by rfl)
  (hline:(apos.endLine==cpos.line)=true:=by rfl) (hs:zQ2 X e es:=by rfl) (hplain:(backTo cpos (starEach es X.env)).any (·.1)=false:=by rfl) :
  PE X (.Call (.Attribute o name apos) (e::es) [] cpos) (GH X.K T r to t):=by
 intro p s σ H Q I h;refine wpAny_Call_method_late hbase hfew hline rfl (aS (ho p s σ H _ I h) λv s1 hZ85=>?_);obtain⟨x,H1,I1,r1,ty,q1⟩:=hZ85;obtain⟨h1,h2⟩:=zD I1 r1 ty;refine⟨T,id,pa,slot,hty,h1,h2,?_⟩;have hA:=ha cpos p s1 σ H1 _ I1 q1;rw[hs]at hA ⊢;refine Calls.callWith_builtin (by show (false||(backTo cpos (starEach es X.env)).any (·.1))=false;rw[hplain] <;> rfl) (Calls.evalArgs_plain ?_);exact aS hA λus s2 hZ86=>(by obtain⟨vs,H2,I2,r2,q2⟩:=hZ86;exact hm p s2 σ H2 x vs v us Q I2 r1 r2 q2)
end
def FB (X:Cx)(id:String)(r:V→List V→Hp→VK→Prop):Prop:=
 ∀(pins:Z9) (s:Z3) (σ:St) (H:Hp) (x:V) (xs:List V) (v:Zc) (us:Z1) (Q:VK),Inv X pins σ H s→RelV x v→Vals xs us→r x xs H Q→
  wpAny (model X.prog X.w) X.A (call (.builtin id) (v::us)) (EP X pins σ Q) X.xe s
theorem Vals.one:∀{x:V} {us:List Value},Vals [x] us→∃u,us=[u]∧RelV x u
 |_,_,.cons r .nil=>⟨_,rfl,r⟩
theorem Vals.zero:∀{us:List Value},Vals [] us→us=[]
 |_,.nil=>rfl
theorem Vals.eraseIdx:∀{xs:List V} {us:Z1} (i:Nat),Vals xs us→Vals (xs.eraseIdx i) (us.eraseIdx i)
 |_,_,_,.nil=>.nil
 |_,_,0,.cons _ t=>t
 |_,_,i+1,.cons r t=>.cons r (Vals.eraseIdx i t)
def Vals.reverse {xs:List V}{us:Z1}(h:Vals xs us):Vals xs.reverse us.reverse:=by
 induction h with
 |nil=>exact .nil
 |cons r t ih=>rw[reverse_cons,reverse_cons];exact Vals.append ih (.cons r .nil)
theorem Vals.rep {xs:List V}{us:Z1}(h:Vals xs us):∀k:Nat,Vals (replicate k xs).flatten (replicate k us).flatten
 |0=>.nil
 |k+1=>by
  rw[replicate_succ,replicate_succ,flatten_cons,flatten_cons];exact Vals.append h (Vals.rep h k)
theorem oY {α:Type}:∀(l:List α) (i:Nat),(l.eraseIdx i).length≤l.length
 | [],_=>le_refl _
 |_::_,0=>le_succ _
 |_::r,i+1=>Nat.succ_le_succ (oY r i)
theorem oK (its:Z1):∀(k:Nat) (acc:List Value),
  List.foldl (λx1 x2=>x1 ++ x2) acc.toArray (replicate k its.toArray)=(acc ++ (replicate k its).flatten).toArray
 |0,acc=>by simp
 |k+1,acc=>by
  have e:acc.toArray ++ its.toArray=(acc ++ its).toArray:=by simp
  have e2:(acc ++ its) ++ (replicate k its).flatten=acc ++ (replicate (k+1) its).flatten:=by
   rw[replicate_succ,flatten_cons,append_assoc]
  rw[←e2,←oK its k (acc ++ its),←e,replicate_succ,List.foldl_cons]
section
variable{X:Cx}{pins:Z9}{σ:St}{H:Hp}{s:Z3}{l b:Zz}{xs ys zs:List V}
def Inv.lset {its its':Z1}{n:Nat}{f:Array Value→Array Value}{t':Nat}(I:Inv X pins σ H s)(hH:H l=some (.lst xs))(e:s.heap.get? l=some {cls:=.type "list",data:=.seq its.toArray n}) (hf:f its.toArray=its'.toArray) (hv:Vals ys its') (hz:ys.length≤sizeLine) :
  Inv X pins σ (bc H l (.lst ys)) {s with heap:=s.heap.update l (Obj.mapSeq f),toks:=t'}:=by
 have q:=PySem.IsL.update e f;rw[hf]at q;refine I.write (x:=l) (e:=l) (by rw[hH];exact trivial) (.inl rfl) (λb' u hb hu=>(Heap.get?_update_other s.heap (Obj.mapSeq f) (Ne.symm hb)).trans hu) ⟨_,q⟩ ?_;exact⟨hz,its',_,hv,q⟩
def Inv.lnew {its:Z1}{t':Nat}(I:Inv X pins σ H s)(hv:Vals ys its)(hz:ys.length≤sizeLine) :
  Inv X pins σ (bc H s.heap.objs.size (.lst ys)) {s with heap:=s.heap.push {cls:=.type "list",data:=.seq its.toArray},toks:=t'}:=
 I.laid (λ_ _ q=>Heap.get?_push_of_some _ q) (le_refl _) ⟨hz,its,0,hv,Heap.get?_push_size _ rfl⟩
def Inv.fresh (I:Inv X pins σ H s):H s.heap.objs.size=none:=I.hok.fresh (le_refl _)
def Inv.lstM (I:Inv X pins σ H s)(hH:H l=some (.lst xs)):xs.length≤sizeLine∧∃(its:Z1) (n:Nat),Vals xs its∧xs.length=its.length∧s.heap.get? l=some {cls:=.type "list",data:=.seq its.toArray n}:=by
 obtain⟨z,its,n,r,e⟩:=I.hok l _ hH;exact⟨z,its,n,r,r.length,e⟩
def r6 {n:Nat}(h:n≤sizeLine):Builtin.List.listTooLong n=false:=by
 unfold Builtin.List.listTooLong;exact Zh (by omega)
end
section
variable{X:Cx}
def du:V→List V→Hp→VK→Prop:=λx vs H Q=>∃l xs y,x= .ref l∧vs=[y]∧H l=some (.lst xs)∧xs.length<sizeLine∧Q .non (bc H l (.lst (xs ++ [y])))
def gz:FB X "list.append" du:=by
 intro pins s σ H x vs v us Q I rx rv h;obtain⟨l,xs,y,rfl,rfl,hH,hz,q⟩:=h;cases rx;obtain⟨u,rfl,ru⟩:=rv.one;obtain⟨z,its,n,r,hl,e⟩:=I.lstM hH;refine call_meets F.slot_list_append ⟨_,e,rfl⟩ F.entry_list_append (F.args_list_append_2 _ _) (PySem.list_append l its.toArray n u (by rw[size_toArray];omega)) ⟨e,?_⟩;refine⟨.non,_,I.lset (its':=its ++ [u]) hH e (by simp) (r.append (.cons ru .nil)) ?_,rfl,q⟩;rw[length_append,length_singleton];omega
def qO:V→List V→Hp→VK→Prop:=λx vs H Q=>∃l b xs zs,x= .ref l∧vs=[.ref b]∧H l=some (.lst xs)∧H b=some (.lst zs)∧xs.length+zs.length≤sizeLine∧Q .non (bc H l (.lst (xs ++ zs)))
def wC:FB X "list.extend" qO:=by
 intro pins s σ H x vs v us Q I rx rv h;obtain⟨l,b,xs,zs,rfl,rfl,hH,hB,hz,q⟩:=h;cases rx;obtain⟨u,rfl,ru⟩:=rv.one;cases ru;obtain⟨z,G,n,r,hl,e⟩:=I.lstM hH;obtain⟨z2,K,n2,r2,hl2,e2⟩:=I.lstM hB;have hsz:G.toArray.size+K.toArray.size≤sizeLine:=by rw[size_toArray,size_toArray];omega
 have hlong:¬(!G.toArray.isEmpty&&Builtin.List.listTooLong (G.toArray.size+K.toArray.size))=true:=by
  rw[r6 hsz,Bool.and_false];exact Bool.false_ne_true
 refine call_meets F.slot_list_extend ⟨_,e,rfl⟩ F.entry_list_extend (F.args_list_extend_2 _ _)
  (AutoSeq1.list_extend_list_list_0 l G.toArray n b K.toArray n2 hlong (by rw[size_toArray];omega) (by omega)) ⟨e,e2,?_⟩
 refine⟨.non,_,I.lset (its':=G ++ K) hH e (by simp) (r.append r2) ?_,rfl,q⟩;rw[length_append];omega
def uh:V→List V→Hp→VK→Prop:=λx vs H Q=>∃l xs i k y,x= .ref l∧vs=[.int i]∧H l=some (.lst xs)∧ -(2 ^ 63)≤i∧i<2 ^ 63∧seqIndex? i xs.length=some k∧xs[k]?=some y∧Q y (bc H l (.lst (xs.eraseIdx k)))
def yu:FB X "list.pop" uh:=by
 intro pins s σ H x vs v us Q I rx rv h;obtain⟨l,xs,i,k,y,rfl,rfl,hH,h1,h2,hk,hy,q⟩:=h;cases rx;obtain⟨u,rfl,ru⟩:=rv.one;obtain⟨t,rfl⟩:=ru;obtain⟨z,G,n,r,hl,e⟩:=I.lstM hH;obtain⟨w,hw,rw'⟩:=r.get hy;refine call_meets F.slot_list_pop ⟨_,e,rfl⟩ F.entry_list_pop (F.args_list_pop_2 _ _)
  (MeetsSeq.list_pop_at l G.toArray n i t k w (fitsIndex_both h1 h2) (by rw[size_toArray,←hl];exact hk) (by rw[←getElem?_toList];exact hw) (by rw[size_toArray];omega)) ⟨e,?_⟩
 refine⟨y,_,I.lset (its':=G.eraseIdx k) hH e ?_ (r.eraseIdx k) ?_,rw',q⟩
 ·show G.toArray.eraseIdxIfInBounds k=(G.eraseIdx k).toArray;rw[List.eraseIdxIfInBounds_toArray]
 ·have:=oY xs k;omega
def nE:V→List V→Hp→VK→Prop:=λx vs H Q=>∃l xs,x= .ref l∧vs=[]∧H l=some (.lst xs)∧Q .non (bc H l (.lst xs.reverse))
def t6:FB X "list.reverse" nE:=by
 intro pins s σ H x vs v us Q I rx rv h;obtain⟨l,xs,rfl,rfl,hH,q⟩:=h;cases rx;have hus:=rv.zero;subst hus;obtain⟨z,its,n,r,hl,e⟩:=I.lstM hH;refine call_meets F.slot_list_reverse ⟨_,e,rfl⟩ F.entry_list_reverse (F.args_list_reverse_1 _) (AutoSeq1.list_reverse_list_0 l its.toArray n (by rw[size_toArray];omega)) ⟨e,?_⟩;refine⟨.non,_,I.lset (its':=its.reverse) hH e (by simp) r.reverse ?_,rfl,q⟩;rw[length_reverse];omega
def Ga:R2:=λx y H Q=>∃l b xs zs,x= .ref l∧y= .ref b∧H l=some (.lst xs)∧H b=some (.lst zs)∧xs.length+zs.length≤sizeLine∧∀p,H p=none→Q (.ref p) (bc H p (.lst (xs ++ zs)))
def Dy:pQ X (binaryOp .Add) Ga:=by
 intro pins s σ H x y v u Q I rx ry h;obtain⟨l,b,xs,zs,rfl,rfl,hH,hB,hz,q⟩:=h;cases rx;cases ry;obtain⟨z,its,n,r,hl,e⟩:=I.lstM hH;obtain⟨z2,its2,n2,r2,hl2,e2⟩:=I.lstM hB;refine PySem.P.add_list e e2 ?_ (by rw[size_toArray,size_toArray];omega);have ea:its.toArray ++ its2.toArray=(its ++ its2).toArray:=by simp
 rw[ea];exact⟨.ref _,_,I.lnew (t':=s.toks) (r.append r2) (by rw[length_append];omega),rfl,q _ I.fresh⟩
def Gb:R2:=λx y H Q=>∃l k xs,x= .ref l∧y= .int k∧H l=some (.lst xs)∧ -(2 ^ 63)≤k∧k<2 ^ 63∧xs.length*k.toNat≤sizeLine∧
 ∀p,H p=none→Q (.ref p) (bc H p (.lst (replicate k.toNat xs).flatten))
def AJ {α:Type}(xs:List α)(k:Nat):(replicate k xs).flatten.length=k*xs.length:=by
 induction k with
 |zero=>simp
 |succ k ih=>rw[replicate_succ,flatten_cons,length_append,ih,Nat.succ_mul,Nat.add_comm]
def DC:pQ X (binaryOp .Mult) Gb:=by
 intro pins s σ H x y v u Q I rx ry h;obtain⟨l,k,xs,rfl,rfl,hH,h1,h2,hz,q⟩:=h;cases rx;obtain⟨t,rfl⟩:=ry;obtain⟨z,G,n,r,hl,e⟩:=I.lstM hH;have hlen:G.toArray.size*k.toNat≤sizeLine:=by rw[size_toArray,←hl];exact hz
 have hcap:¬G.toArray.size*k.toNat>(2 ^ 63-1) / 8:=by
  have:(sizeLine:Nat)≤(2 ^ 63-1) / 8:=by decide
  omega
 have hfit:¬(!Builtin.List.listFitsIndex k)=true:=by
  rw[fitsIndex_both h1 h2];exact Bool.false_ne_true
 have hlong:¬Builtin.List.listTooLong (G.toArray.size*k.toNat)=true:=by
  rw[r6 hlen];exact Bool.false_ne_true
 have hnew:List.foldl (λx1 x2=>x1 ++ x2) #[] (replicate (if G.toArray.isEmpty=true then 0 else k.toNat) G.toArray)=(replicate k.toNat G).flatten.toArray:=by
  have f0:∀m:Nat,List.foldl (λx1 x2=>x1 ++ x2) #[] (replicate m G.toArray)=(replicate m G).flatten.toArray:=λm=>by
   have:=oK G m [];rw[nil_append]at this;exact this
  rw[f0];cases G with
  |nil=>simp
  |cons a r'=>rw[Yi (by simp)]
 refine wpAny_binaryOp_repeat_ref (T:= "list") (U:= "int") (by decide) ⟨_,e,rfl⟩ (λs'=>typeIs_int s' k t) noFill_list_mul F.fills_int_mul F.slot_int_rmul repeat_list F.slot_int_index.lookup
  (call_meets F.slot_int_rmul (typeIs_int s k t) F.entry_int_rmul (F.args_int_rmul_2 _ _) (int___rmul___int_list k t l G.toArray n)
   ⟨e,rfl,⟨_,e,rfl⟩,call_meets F.slot_list_mul ⟨_,e,rfl⟩ F.entry_list_mul (F.args_list_mul_2 _ _) (AutoListH.list___mul___list_int_3 l G.toArray n k t hfit hcap hlong) ⟨e,?_⟩⟩)
 rw[hnew];exact⟨.ref _,_,I.lnew (t':=s.toks) (r.rep k.toNat) (by rw[AJ,Nat.mul_comm];exact hz),rfl,q _ I.fresh⟩
end
section
variable{prog:Zv}{w:Zn}{A:Zl}{E:Z5}{s:Shared}
end
section
variable{X:Cx}
end
end L2
namespace Att
open PySem PySem.W PySem.Calls PyProof.Rows
def lV {P:Params}{h:Y5}:∀(ns:Z2) (vs:List Value),WellAll P h vs (ns.map WData.int)→IntsAre vs ns:=by
 intro ns
 induction ns with
 |nil=>
  intro vs w;rw[map_nil]at w;cases w;exact .nil
 |cons n ns ih=>
  intro vs w;rw[map_cons]at w;cases w with
  |cons a b=>
   cases a;exact .cons _ _ (ih _ b)
def wS {l:OpenLaw}{n:Nat}(hn:l.most=some n){P:Params}{h:Y5}{args:List WData}{vals:List Value}(hpre:l.row.toRowW.claim.pre args=true) (hwl:WellAll P h vals args) :
  ∃a vs ns,vals=[Value.ref a]∧args=[WData.list (ns.map WData.int)]∧h.get? a=some {cls:=.type "list",data:=.seq vs.toArray}∧IntsAre vs ns∧ns.length≤n:=by
 have hsh:WShape.hasAll [] args [.list .int]=true:=(pre_splitW hpre).1;have hc:l.pre.holds [] {args:=args}=true:=(pre_splitW hpre).2;obtain⟨d,r,rfl,h1,h2⟩:=hasAllW_cons hsh;obtain rfl:=hasAllW_nil h2;obtain⟨xs,rfl,h3⟩:=hasW_list h1;obtain⟨ns,rfl⟩:=items_int h3;have hlen:ns.length≤n:=by
  unfold OpenLaw.pre at hc;have h4:(WTm.not (.lt (.lit (.int (n:Int))) (.len (.arg 0)))).holds [] {args:=[.list (ns.map .int)]}=true:=by
   have h4:=(holds_andW hc).1;rw[hn]at h4;exact h4
  have h5:=condW_of h4 (w_not (w_lt w_lit (w_len_list (w_arg rfl))));rw[length_map]at h5;refine Nat.le_of_not_lt λq=>?_;have q':(n:Int)<((ns.length:Nat):Int):=by omega
  first
   |(rw[Zk q']at h5;exact absurd h5 (by decide))
   |(simp at h5;omega)
 cases hwl with
 |cons w1 w2=>
  cases w2;cases w1 with
  |list ho hall=>exact⟨_,_,ns,rfl,rfl,ho,lV ns _ hall,hlen⟩
def wL (l:OpenLaw)(args:List WData):l.row.toRowW.claim.post args (.bool true) args=true:=
 postW_of (r:=l.row.toRowW) (X:=(true==true))
  (show WShape.has [] (.bool true) .bool=true by first|rfl|decide|simp[WShape.has,WShape.arms,WShape.armsAll])
  (show (WTm.eq .res (.lit (.bool true))).value [] {args:=args,res:=some (.bool true),after:=args}=some (.bool (true==true)) from w_eq_bool (w_res rfl) w_lit) rfl
def rf {l:OpenLaw}{n:Nat}{q:Zv}{loose:Zw}{XP:Yo}{YP:World→Heap→Prop}{d:DefRec}(hn:l.most=some n) (hdf:d.params.defaults=[])(call:∀(w:Zn) (s₀ s₁:Z3) (mg mb:Z4) (fa:Zz) (o:Obj) (pm cd doc:Zc) (a:Zz) (vs:Z1) (ns:List Int),
   Ground q loose [] XP w s₀ mg mb s₁.heap→YP w s₁.heap→
   s₁.heap.get? fa=some o→o.data= .func (docDef d.name d.params d.body d.scope pm cd doc)→s₁.heap.CodeRec cd d.name→mg d.name=some (.ref fa)→
   s₁.heap.get? a=some {cls:=.type "list",data:=.seq vs.toArray}→IntsAre vs ns→ns.length≤n→s₁.gens= #[]→
   codeAny (model l.prog w) callerA (.call (.ref fa) ⟨[.ref a],[]⟩) (λr s'=>r= .ok (.ret (.bool true))∧OldK s₁.heap s'.heap∧s'.os=s₁.os∧AllBare s'.gens) s₁) :
  WalkO q loose XP YP l.row.toRowW d [] (λf vs=>PySem.call f vs):=by
 intro w s₀ s₁ mg mb G Y fa o pm cd doc dV kV ho hd hcd hD hmg hg args vals as hpre hlay hrd hwl hlo;obtain rfl:dV= .none:=Dflts.none hD hdf;obtain rfl:kV= .none:=Dflts.noKw hD;obtain⟨a,vs,ns,rfl,rfl,hobj,hints,hlen⟩:=wS hn hpre hwl;refine enter_call (codeAny_mono (call w s₀ s₁ mg mb fa o pm cd doc a vs ns G Y ho (fd_plain hd) hcd hmg hobj hints hlen hg) λr s' hq=>?_);obtain⟨rfl,h2,h3,h4⟩:=hq;exact⟨.inl ⟨.bool true,.bool true,[],rfl,λ_=>rfl,.bool true,wL l _,λ_=>⟨List.Pairwise.nil,λ_ hm=>(nomatch hm)⟩⟩,h2,h3,h4⟩
section
variable{prog:Zv}{w:Zn}{A:Zl}{E:Z5}{s:Z3}{K:Frag}
end
end Att
namespace L2
open PySem PySem.Spec PyProof.Rows
theorem pJ:∀{vs:Z1} {ns:List Int},IntsAre vs ns→Vals (ns.map V.int) vs
 |_,_,.nil=>.nil
 |_,_,.cons n t h=>.cons ⟨t,rfl⟩ (pJ h)
def Cg (H:Hp):Prop:=∀b,H b=none∨∃o xs,H b=some (.frz o (.lst xs))
def yf {P:Zv}{w:Zn}{K:Z8}{mg mb:Z4}{CX:qX}{k:Nat}{fa a:Zz}{fd:Y9}{x:Yq}{sp:Sp}{s₁:Z3}{vs:Z1}{ns:List Int}(KX:K.In s₁.heap) (hns:s₁.heap.Ns mainGlobals mg) (hb:s₁.heap.Ns builtinsNs mb) (hbb:∀x:Str,x≠ "__name__" →mb x=bootBuiltins x) (hlim:s₁.heap.NoLimit) (hg:s₁.gens= #[])(ha:s₁.heap.get? a=some {cls:=.type "list",data:=.seq vs.toArray}) (hi:IntsAre vs ns) (hl:ns.length≤sizeLine) (hr:Room k callerA)
  (F:∀base:Heap,K.In base→base.Ns mainGlobals mg→FnOk P w K mg base CX k fa fd [x] sp) (hbind:∀(s:Z3) (u:Value),BindsTo s fd ⟨[u],[]⟩ [(x,u)])
  (hsp:∀H:Hp,Cg H→f_ K H a (ns.map V.int)→sp [.ref a] H (λv _=>v= .bl true) λ_ _ _=>False)
  (hCX:∀H e s',CX [] H s₁ (λ_ _ _=>False) e s'→False) :
  codeAny (model P w) callerA (.call (.ref fa) ⟨[.ref a],[]⟩) (λr s'=>r= .ok (.ret (.bool true))∧OldK s₁.heap s'.heap∧s'.os=s₁.os∧AllBare s'.gens) s₁:=by
 have rv:=pJ hi;have lenV:=hi.length
 -- from an abstract heap in which nothing but the script may be tracked
 have core:∀H:Hp,Cg H→f_ K H a (ns.map V.int)→HOk P w H s₁.heap→(∀b,H b≠none→b=a)→(H a≠none→K.lookup a=none)→
   codeAny (model P w) callerA (.call (.ref fa) ⟨[.ref a],[]⟩) (λr s'=>r= .ok (.ret (.bool true))∧OldK s₁.heap s'.heap∧s'.os=s₁.os∧AllBare s'.gens) s₁:=by
  intro H hO hS hok hA hK;have L:∀{b:Zz} {o:Obj},s₁.heap.get? b=some o→H b=none→(ql s₁.heap H).get? b=some o:=λe n=>xZ e n;have noA:∀{b:Zz} {o:Obj} {es:Array DictEntry} {ep:Nat},s₁.heap.get? b=some o→o.data= .dict es ep→H b=none:=λ{b o es ep} e d=>by
   cases q:H b with
   |none=>rfl
   |some u=>
    have e':b=a:=hA b (by rw[q];simp);subst e';rw[ha]at e;cases e;have d':Data.seq vs.toArray _=Data.dict es ep:=d;cases d'
  have M:∀{b:Zz} {m:Str→Option Value},s₁.heap.Ns b m→(ql s₁.heap H).Ns b m:=λ{b m} hZ87=>(by obtain⟨o,es,ep,e,d,r⟩:=hZ87;exact⟨o,es,ep,L e (noA e d),d,r⟩);have hKb:K.In (ql s₁.heap H):=λb o e=>L (KX b o e) (by
   cases q:H b with
   |none=>rfl
   |some u=>
    have e':b=a:=hA b (by rw[q];simp);subst e';rw[hK (by rw[q];simp)]at e;cases e)
  have hM:Mod K mg (ql s₁.heap H):=⟨hKb,M hns,⟨mb,M hb,hbb⟩,let ⟨mc,h1,h2⟩:=hlim;⟨mc,M h1,h2⟩⟩
  have e0:Env0 P w K mg (ql s₁.heap H) callerA [] s₁ H:=⟨rfl,hM,λb o e=>AQ e,Nat.le_of_eq (wm _ _),trivial,λb hb=>absurd (show b∈([]:Zt) from hb) (by simp),hok,.of_eq hg⟩;refine codeAny_mono ((F _ hKb (M hns)).run callerA [] s₁ H ⟨[.ref a],[]⟩ [.ref a] [.ref a] _ _ hr e0 (hbind s₁ (.ref a)) (.cons rfl .nil) (hsp H hO hS)) λr s' h=>?_;cases r with
  |error e=>exact(hCX H e s' h).elim
  |ok fl=>
   cases fl with
   |next=>exact False.elim h
   |brk=>exact False.elim h
   |cont=>exact False.elim h
   |ret u=>
    obtain⟨v,H',os,bare,un,hok',r',q⟩:=h;have q':v= .bl true:=q;subst q';obtain rfl:u=Value.bool true:=r';refine⟨rfl,OldK.of_keep λb o e=>?_,os,bare⟩;cases q:H b with
    |none=>exact un.keep b o e q (by intro z;exact absurd (show b∈([]:Zt) from z) (by simp)) (by simp)
    |some u=>
     rcases hO b with z|⟨ob,xs,z⟩
     ·rw[q]at z;cases z
     ·have z2:=un.frzs b ob _ z;obtain⟨e1,_⟩:=hok b _ z;obtain⟨e2,_⟩:=hok' b _ z2;rw[e]at e1;cases e1;exact e2
 cases hk:K.lookup a with
 |some o=>
  -- the script is one of the module's own objects
  have e:=KX a o hk;rw[ha]at e;cases e;refine core (λ_=>none) (λ_=>.inl rfl) (.inr ⟨_,vs.toArray,_,hk,rfl,rfl,rfl,by rw[size_toArray,lenV];exact hl,by simpa using rv⟩) (λb u z=>by have z':(none:Option HO)=some u:=z;cases z') (λb z=>absurd rfl z) λz=>absurd rfl z
 |none=>
  refine core (λb=>if b=a then some (.frz {cls:=.type "list",data:=.seq vs.toArray} (.lst (ns.map V.int))) else none) (λb=>?_) (.inl (.inr ⟨{cls:=.type "list",data:=.seq vs.toArray},Yj rfl⟩)) (λb u z=>?_) (λb z=>?_) λ_=>hk
  ·by_cases hb:b=a
   ·exact .inr ⟨_,_,Yj hb⟩
   ·exact .inl (Yi hb)
  ·by_cases hb:b=a
   ·have z':=(Yj hb).symm.trans z;cases z';subst hb;exact⟨ha,by rw[length_map];exact hl,vs,_,rv,ha⟩
   ·have z':=(Yi hb).symm.trans z;cases z'
  ·by_cases hb:b=a
   ·exact hb
   ·exact absurd (Yi hb) z
def BL {l:W.OpenLaw}{n k:Nat}{q:Zv}{loose:Zw}{XP:Yo}{YP:World→Heap→Prop}{d:DefRec}{K:Params→W.Frag}{CX:World→qX}{sp:World→Sp}{x:Str}(hn:l.most=some n) (hn2:n≤sizeLine) (hdf:d.params.defaults=[]) (hr:Room k callerA)(hY:∀(w:Zn) (h:Heap),YP w h→(K w.params).In h)(F:∀(w:Zn) (mg:Z4) (fa:Zz) (h:Heap),(K w.params).In h→h.Ns mainGlobals mg→mg d.name=some (.ref fa)→
   ∃fd:FuncData,(∀(s:Z3) (u:Value),BindsTo s fd ⟨[u],[]⟩ [(x,u)])∧
    ∀base:Heap,(K w.params).In base→base.Ns mainGlobals mg→FnOk l.prog w (K w.params) mg base (CX w) k fa fd [x] (sp w))
  (hsp:∀(w:Zn) (H:Hp) (a:Zz) (ns:List Int),ns.length≤n→Cg H→f_ (K w.params) H a (ns.map V.int)→sp w [.ref a] H (λv _=>v= .bl true) λ_ _ _=>False)
  (hCX:∀(w:Zn) (H:Hp) (s:Z3) (e:Zc) (s':Shared),CX w [] H s (λ_ _ _=>False) e s'→False) :
  W.WalkO q loose XP YP l.row.toRowW d [] (λf vs=>PySem.call f vs):=by
 refine Att.rf hn hdf λw s₀ s₁ mg mb fa o pm cd doc a vs ns G Y ho hd hcd hmg hobj hints hlen hg=>?_;have KX:=hY w _ Y;obtain⟨fd,hb,hF⟩:=F w mg fa _ KX G.T.g hmg;exact yf KX G.T.g G.T.b G.T.builtins G.T.nolimit hg hobj hints (le_trans hlen hn2) hr hF hb (λH hO hS=>hsp w H a ns hlen hO hS) λH e s'=>hCX w H s₁ e s'
def jh (s:Yl)(j:Nat):Stmt:=match s with
 |.ClassDef _ _ _ body _ _ _ _ _ _ _=>body.getD j (.Pass ⟨0,0,0,0⟩)
 |_=>.Pass ⟨0,0,0,0⟩
def hJ (s:Yl):Arguments:=match s with
 |.FunctionDef _ a _ _ _ _ _ _ _ _=>a
 |_=>{posonlyargs:=[],args:=[],vararg:=none,kwonlyargs:=[],kw_defaults:=[],kwarg:=none,defaults:=[]}
def cM (s:Yl):List Stmt:=match s with
 |.FunctionDef _ _ b _ _ _ _ _ _ _=>b
 |_=>[]
def ai (s:Yl):Scope:=match s with
 |.FunctionDef _ _ _ _ _ _ sc _ _ _=>sc
 |_=>{kind:=.function,names:=[],isGenerator:=false,isCoroutine:=false}
structure Fun (K:Z8)(x qual:Yq)(st:Yl)(f:Zz)(fd:Y9):Prop where
 ex:∃(oc:Zc) (od:Option Addr) (kV doc pm:Zc) (an:Option Addr) (cdv ct:Zc) (osl:Array (Option Value)),
  fd=W.fnOf x qual (hJ st) (cM st) (ai st) .none kV doc pm an cdv ct∧K.lookup f=some ⟨oc,od,.func fd,osl⟩∧W.codeIn K cdv qual=true
 kp:W.keepIn K (.ref f)=true
section
variable{P:Zv}{w:Zn}{K:Z8}{mg:Z4}{base:Heap}
def Fun.binds {st:Yl}{fd:Y9}{ps:Zw}(F:Fun K x qual st f fd)(h:∀(kV doc pm:Zc) (an:Option Addr) (cdv ct:Zc) (us:List Value),us.length=ps.length→bindArgs (W.fnOf x qual (hJ st) (cM st) (ai st) .none kV doc pm an cdv ct) ⟨us,[]⟩=pure (ps.zip us)):Binds K fd ps []:=by
 obtain⟨oc,od,kV,doc,pm,an,cdv,ct,osl,rfl,lk,hcd⟩:=F.ex;exact .all (h kV doc pm an cdv ct)
def xU {st:Yl}{od an:Option Addr}{osl:Array (Option Value)}{kV doc pm cdv ct:Zc}(l:K.lookup f=some ⟨oc,od,.func (W.fnOf x qual (hJ st) (cM st) (ai st) .none kV doc pm an cdv ct),osl⟩)(c:W.codeIn K cdv qual=true) (k:W.keepIn K (.ref f)=true):Fun K x qual st f (W.fnOf x qual (hJ st) (cM st) (ai st) .none kV doc pm an cdv ct):=⟨⟨oc,od,kV,doc,pm,an,cdv,ct,osl,rfl,l,c⟩,k⟩
end
section
variable{X:Cx}
def pv (i:Nat){x:Yq}{pos:Yn}(hN:X.N[i]?=some x:=by rfl)(hv:tm X.env.scope x:=by first|exact Or.inl rfl|exact Or.inr (Or.inl rfl)|exact Or.inr (Or.inr rfl))(hd:zQ1 x:=by decide)(hcd:(x==("__classdict__" :Str))=false:=by decide):PE X (.Name x pos) (Fw i):=eh hN hv hd hcd
end
def Same (H H':Hp):Prop:=∀b o,H b=some o→H' b=some o
def Same.refl (H:Hp):Same H H:=λ_ _ h=>h
def Same.trans {H H1 H2:Hp}(a:Same H H1)(b:Same H1 H2):Same H H2:=λc o h=>b c o (a c o h)
def Same.free {H H':Hp}(e:Same H H'){l:Zz}(h:H' l=Option.none):H l=Option.none:=by
 cases q:H l with
 |none=>rfl
 |some o=>
  rw[e l o q]at h;cases h
def Same.seq {K:Z8}{H H':Hp}{xs:List V}(e:Same H H')(h:f_ K H a xs):f_ K H' a xs:=by
 rcases h with (h|⟨o,h⟩)|h
 ·exact .inl (.inl (e _ _ h))
 ·exact .inl (.inr ⟨o,e _ _ h⟩)
 ·exact .inr h
section
variable(P:Zv)(w:World)
end
section
variable{P:Zv}{w:Zn}{H H':Hp}{h h':Y5}{a:Zz}{o:HO}
end
section
variable{P:Zv}{w:Zn}{H:Hp}{h h':Y5}{x e:Zz}{o':HO}
end
section
variable{fs fs' ex ex':Zt}{H H1 H2:Hp}{h h1 h2 h':Y5}{a x e:Zz}{o:HO}
end
section
variable{X:Cx}{pins:Z9}{σ:List (Option V)}{H H':Hp}{s:Z3}{h':Heap}
end
section
variable{X:Cx}
variable{a b:Y1}{ta tb:TE}{pos:Pos}
variable{tA tB':TT}{rest:List Expr}
end
section
variable{X:Cx}{pins:Z9}{σ:St}{H:Hp}{s:Z3}{a:Zz}{xs ys:List V}
end
section
variable{X:Cx}{pins:Z9}{σ:St}{H:Hp}{s:Z3}{E:Value→Shared→Prop}
end
section
variable{X:Cx}{st:Yl}{rest:List Stmt}{t u:TS}{e:Y1}{te:TE}{pos:Pos}
end
section
variable{X:Cx}{pos:Pos}
end
section
variable{X:Cx}{tg:Expr}
end
section
variable{X:Cx}{a b c:Y1}{ta tb tc:TE}{pos:Pos}
end
section
variable{prog:Zv}{w:Zn}{A:Zl}{E:Z5}{s:Z3}{K:Z8}{x dx C f:Zz}{mA:Z4}{name:Yq}{v:Value}
end
section
variable{P:Zv}{w:Zn}{H H':Hp}{h h':Y5}{a C dx:Zz}{fs fs':List (Str×V)}
end
section
variable{X:Cx}{pins:Z9}{σ:St}{H:Hp}{s:Z3}{a C dx:Zz}{fs:List (Str×V)}{f:Yq}{v:V}{A:Zl}{E:Value→Shared→Prop}
end
section
variable{X:Cx}{o e value:Y1}{f:Yq}{pos pos' tpos:Yn}{ta tv:TE}
end
section
variable{X:Cx}{pins:Z9}{σ:St}{H:Hp}{s:Z3}{A:Zl}{E:Z5}{Q:Z5}{c:Zc}{b:Bool}
end
section
variable{X:Cx}{e:Y1}{es:Zd}{te:TE}{t:TA}{pos:Pos}
end
section
variable{X:Cx}{pins:Z9}{σ:St}{H:Hp}{s s':Shared}
end
section
variable{X:Cx}{CX:qX}{k:Nat}{f C:Zz}{fd:Y9}{ps:Zw}{sp:Sp}{dvs:List V}{ds:Z1}{E:XK}{x m:Yq}{p pos apos:Yn}{e o:Y1}{es:Zd}{ta:TE}{t:TA}
end
section
variable{X:Cx}{CX:qX}{k:Nat}{f C:Zz}{fd:Y9}{ps ks:Zw}{sp:Sp}{E:XK}{x m:Yq}{p pos apos kpos:Yn}{e o:Y1}{es:Zd}{kws:List Keyword}{te ta:TE}{t tk:TA}{nm:Option Str}
variable{g:List Value→List Value→List Value}{gV:List V→List V→List V}
end
section
variable{X:Cx}{x:Yq}{p pos:Yn}{e:Y1}{es:Zd}{t:TA}{id T:String}{r:List V→Hp→VK→Prop}
end
section
variable{κ:Type}[DecidableEq κ]
def iI (kvs:List (κ×V))(k:κ):Option V:=(kvs.find? λkv=>decide (kv.1=k)).map (·.2)
def fB (kvs:List (κ×V))(k:κ)(v:V):List (κ×V):=
 if (kvs.any λkv=>decide (kv.1=k))=true then kvs.map (λkv=>if kv.1=k then (kv.1,v) else kv) else kvs ++ [(k,v)]
def kH {p:κ×V}{r:List (κ×V)}{k:κ}(e:p.1=k):iI (p::r) k=some p.2:=by simp[iI,find?_cons,e]
def i7 {p:κ×V}{r:List (κ×V)}{k:κ}(e:¬p.1=k):iI (p::r) k=iI r k:=by simp[iI,find?_cons,e]
theorem kG (k:κ):∀kvs:List (κ×V),(kvs.any λkv=>decide (kv.1=k))=(iI kvs k).isSome
 | []=>rfl
 |p::r=>by
  rw[any_cons];by_cases e:p.1=k
  ·simp only[kH e,Zk e,Bool.true_or,isSome_some]
  ·rw[i7 e,Zh e,Bool.false_or];exact kG k r
def lF (kvs:List (κ×V))(k:κ)(v:V):(fB kvs k v).length≤kvs.length+1:=by
 unfold fB;split
 ·rw[length_map];omega
 ·rw[length_append,length_cons,length_nil];omega
def yZ {kvs:List (κ×V)}{k:κ}(v:V)(h:iI kvs k=none):fB kvs k v=kvs ++ [(k,v)]:=by
 unfold fB;rw[kG,h];exact Yi (by decide)
def RelO.isSome_eq {o:Option V}{u:Option Value}(r:RelO o u):o.isSome=u.isSome:=by
 cases o with
 |none=>cases u with
  |none=>rfl
  |some _=>exact(show False from r).elim
 |some _=>cases u with
  |none=>exact(show False from r).elim
  |some _=>rfl
def KV.val {kvs:List (κ×V)}{vs:List (κ×Value)}(r:KV kvs vs)(k:κ):RelO (iI kvs k) (valueAt vs k):=by
 unfold KV at r
 induction r with
 |nil=>exact True.intro
 | @cons p q ps qs h t ih=>
  obtain⟨h1,h2⟩:=h;by_cases e:p.1=k
  ·have e':q.1=k:=h1.symm.trans e;have b:valueAt (q::qs) k=some q.2:=by simp[valueAt,find?_cons,e']
   rw[kH e,b];exact h2
  ·have e':¬q.1=k:=λz=>e (h1.trans z);have b:valueAt (q::qs) k=valueAt qs k:=by simp[valueAt,find?_cons,e']
   rw[i7 e,b];exact ih
def KV.any {kvs:List (κ×V)}{vs:List (κ×Value)}(r:KV kvs vs)(k:κ):(kvs.any λkv=>decide (kv.1=k))=vs.any λkv=>decide (kv.1=k):=by
 unfold KV at r
 induction r with
 |nil=>rfl
 |cons h t ih=>rw[any_cons,any_cons,ih,h.1]
def KV.repl {kvs:List (κ×V)}{vs:List (κ×Value)}(r:KV kvs vs)(k:κ){y:V}{u:Zc}(ry:RelV y u) :
  KV (kvs.map λkv=>if kv.1=k then (kv.1,y) else kv) (vs.map λkv=>if kv.1=k then (kv.1,u) else kv):=by
 unfold KV at r ⊢
 induction r with
 |nil=>exact .nil
 | @cons p q ps qs h t ih=>
  rw[map_cons,map_cons];refine .cons ?_ ih;obtain⟨h1,h2⟩:=h;by_cases e:p.1=k
  ·rw[Yj e,Yj (h1.symm.trans e)];exact⟨h1,ry⟩
  ·rw[Yi e,Yi (λz=>e (h1.trans z))];exact⟨h1,h2⟩
def KV.put {kvs:List (κ×V)}{vs:List (κ×Value)}(r:KV kvs vs)(k:κ){y:V}{u:Zc}(ry:RelV y u):KV (fB kvs k y) (stored vs k u):=by
 unfold fB stored;rw[r.any k];by_cases e:(vs.any λkv=>decide (kv.1=k))=true
 ·rw[Yj e,Yj e];exact r.repl k ry
 ·rw[Yi e,Yi e];exact Paired.snoc r ⟨rfl,ry⟩
def KV.length {kvs:List (κ×V)}{vs:List (κ×Value)}(r:KV kvs vs):kvs.length=vs.length:=Paired.length r
end
def yb {P:Zv}{w:Zn}{k:bD}(r:RelV (kV k) u):(bK P w).is k u=true:=by
 cases k with
 |inl i=>obtain⟨t,e⟩:=(show ∃t,u=Value.int i t from r);subst e;exact iX P w i t
 |inr x=>obtain⟨t,e⟩:=(show ∃t,u=Value.str x t from r);subst e;exact rY P w x t
theorem oT {P:Zv}{w:Zn}:∀{ks:List bD} {us:List Value},Vals (ks.map kV) us→ItemsAre (bK P w) ks us
 | [],_,r=>by rw[map_nil]at r;cases r;exact .nil
 |k::ks,_,r=>by
  rw[map_cons]at r;cases r with
  |cons h t=>exact .cons (yb h) (oT t)
abbrev KT (H:Hp):List (List bD×V)→List (List bD×Addr×Value)→Prop:=Paired λp q=>p.1=q.1∧H q.2.1=some (.tup (p.1.map kV))∧RelV p.2 q.2.2
def KT.val {H:Hp}{kvs:List (List bD×V)}{xs:List (List bD×Addr×Value)}(r:KT H kvs xs)(k:List bD):RelO (iI kvs k) ((atKey xs k).map (·.2)):=by
 induction r with
 |nil=>exact True.intro
 | @cons p q ps qs h t ih=>
  obtain⟨h1,_,h2⟩:=h;by_cases e:p.1=k
  ·have e':q.1=k:=h1.symm.trans e;have b:atKey (q::qs) k=some q.2:=by simp[atKey,find?_cons,e']
   rw[kH e,b];exact h2
  ·have e':¬q.1=k:=λz=>e (h1.trans z);have b:atKey (q::qs) k=atKey qs k:=by simp[atKey,find?_cons,e']
   rw[i7 e,b];exact ih
def KT.repl {H:Hp}{kvs:List (List bD×V)}{xs:List (List bD×Addr×Value)}(r:KT H kvs xs)(k:List bD){y:V}{u:Zc}(ry:RelV y u) :
  KT H (kvs.map λkv=>if kv.1=k then (kv.1,y) else kv) (xs.map (putAt k u)):=by
 induction r with
 |nil=>exact .nil
 | @cons p q ps qs h t ih=>
  rw[map_cons,map_cons];refine .cons ?_ ih;obtain⟨h1,h2,h3⟩:=h;unfold putAt;by_cases e:p.1=k
  ·rw[Yj e,Yj (h1.symm.trans e)];exact⟨h1,h2,ry⟩
  ·rw[Yi e,Yi (λz=>e (h1.trans z))];exact⟨h1,h2,h3⟩
def KT.put {H:Hp}{kvs:List (List bD×V)}{xs:List (List bD×Addr×Value)}(r:KT H kvs xs)(k:List bD){b:Zz}{y:V}{u:Zc}(hb:H b=some (.tup (k.map kV)))(ry:RelV y u) :
  KT H (fB kvs k y) (storedH xs k b u):=by
 have e:(kvs.any λkv=>decide (kv.1=k))=(atKey xs k).isSome:=by
  rw[kG,(r.val k).isSome_eq,Option.isSome_map]
 unfold fB storedH;rw[e];by_cases q:(atKey xs k).isSome=true
 ·rw[Yj q,Yj q];exact r.repl k ry
 ·rw[Yi q,Yi q];exact Paired.snoc r ⟨rfl,hb,ry⟩
def KT.keeps {H H':Hp}{kvs:List (List bD×V)}{xs:List (List bD×Addr×Value)}(r:KT H kvs xs)(ht:∀b ys,H b=some (.tup ys)→H' b=some (.tup ys)):KT H' kvs xs:=
 Paired.mapP r λ_ _ z=>⟨z.1,ht _ _ z.2.1,z.2.2⟩
section
variable{P:Zv}{w:Zn}{H:Hp}{h:Y5}{a:Addr}
def vw {u:HO}(ok:HOk P w H h)(e:Rd H a u):ObjOk P w H h a u:=e.ok ok
def xu {kvs:List (bD×V)}(ok:HOk P w H h)(e:Rd H a (.dK kvs)):kvs.length≤sizeLine∧(a==sysModules)=false∧∃vs,KV kvs vs∧h.DictOf (bK P w) a vs:=
 show ObjOk P w H h a (.dK kvs) from vw ok e
def Ez {kvs:List (bD×V)}(ok:HOk P w H h)(e:H a=some (.dK kvs)):kvs.length≤sizeLine∧(a==sysModules)=false∧∃vs,KV kvs vs∧h.DictOf (bK P w) a vs:=xu ok (.inl e)
def tQ {ks:List bD}(ok:HOk P w H h)(e:H a=some (.tup (ks.map kV))):(tupleKind (bK P w)).is h ks a:=by
 obtain⟨_,its,r,o,h1,h2,n,h3⟩:=(show ObjOk P w H h a (.tup (ks.map kV)) from ok a _ e);exact⟨o,its.toArray,n,h1,h2,h3,by simpa using oT r⟩
def xB {kvs:List (List bD×V)}(ok:HOk P w H h)(e:Rd H a (.dT kvs)):kvs.length≤sizeLine∧(a==sysModules)=false∧
  ∃xs,KT H kvs xs∧h.DictOfH (tupleKind (bK P w)) a xs:=by
 obtain⟨z,y,xs,r,o,es,ep,h1,h2,h3,h4,h5⟩:=(show ObjOk P w H h a (.dT kvs) from vw ok e);refine⟨z,y,xs,r,o,es,ep,h1,h2,h3,h4,λx hx=>?_,h5⟩;have all:∀{l:List (List bD×V)} {m:List (List bD×Addr×Value)},KT H l m→∀x∈m,(tupleKind (bK P w)).is h x.1 x.2.1:=by
  intro l m q
  induction q with
  |nil=>intro x hx;exact nomatch hx
  | @cons p q ps qs hq t ih=>
   intro x hx
   rcases mem_cons.mp hx with e|hx
   ·subst e;exact tQ ok (by rw[←hq.1];exact hq.2.1)
   ·exact ih x hx
 exact all r x hx
def EB {kvs:List (List bD×V)}(ok:HOk P w H h)(e:H a=some (.dT kvs)):kvs.length≤sizeLine∧(a==sysModules)=false∧
  ∃xs,KT H kvs xs∧h.DictOfH (tupleKind (bK P w)) a xs:=xB ok (.inl e)
end
def Cd (H:Hp)(a:Zz)(y:V)(r:Option V):Prop:=
 (∃kvs k,Rd H a (.dK kvs)∧y=kV k∧r=iI kvs k)∨∃kvs k b,Rd H a (.dT kvs)∧y= .ref b∧H b=some (.tup (k.map kV))∧r=iI kvs k
def Ep (H:Hp)(a:Zz)(y v:V)(H':Hp):Prop:=
 (∃kvs k,H a=some (.dK kvs)∧y=kV k∧kvs.length<sizeLine∧H'=bc H a (.dK (fB kvs k v)))∨
 ∃kvs k b,H a=some (.dT kvs)∧y= .ref b∧H b=some (.tup (k.map kV))∧kvs.length<sizeLine∧H'=bc H a (.dT (fB kvs k v))
section
variable{X:Cx}{pins:Z9}{σ:St}{H:Hp}{s:Z3}{a:Zz}{y v:V}{u r:Zc}{o:Option V}{A:Zl}{E:Value→Shared→Prop}
def Inv.big (I:Inv X pins σ H s):sysModules<s.heap.objs.size:=by
 have h:mainGlobals<s.heap.objs.size:=(I.mod.glob.keeps I.bk).lt;exact Nat.lt_trans (by decide) h
def vS {Q:Z5}(hu:A.units+1<cLine)(I:Inv X pins σ H s)(g:Cd H a y (some v))(ry:RelV y u)(h:∀w' s',Inv X pins σ H s'→RelV v w'→Q w' s') :
  wpAny (model X.prog X.w) A (getItem (.ref a) u) Q E s:=by
 rcases g with ⟨kvs,k,e,ey,l⟩|⟨kvs,k,b,e,ey,eb,l⟩
 ·subst ey;obtain⟨z,hd,vs,rel,dd⟩:=xu I.hok e;obtain⟨w',hw,rw'⟩:=RelO.some_of (v:=v) (o:=valueAt vs k) (by rw[l];exact rel.val k);exact wpAny_getItem_of (yb ry) dd.mapOf hw (h w' _ (I.tok _) rw')
 ·subst ey;cases (show u=Value.ref b from ry);obtain⟨z,hd,xs,rel,dd⟩:=xB I.hok e;obtain⟨w',hw,rw'⟩:=RelO.some_of (v:=v) (o:=(atKey xs k).map (·.2)) (by rw[l];exact rel.val k);obtain⟨p,hp,hp2⟩:=Option.map_eq_some_iff.mp hw;refine wpAny_getItem_heap (tupleKind_room_in1 hu) (tQ I.hok eb) dd hp ?_;rw[hp2];exact h w' _ (I.tok _) rw'
def uH {h':Y5}{t':Nat}{ob:HO}(I:Inv X pins σ H s)(mu:Es (H a))(hs:Heap.SameBut a s.heap h')(he:∃q,h'.get? a=some q)(new:ObjOk X.prog X.w (bc H a ob) h' a ob) :
  Inv X pins σ (bc H a ob) {s with heap:=h',toks:=t'}:=
 I.write (x:=a) (e:=a) mu (.inl rfl) (λb q hb z=>(hs.2 b hb).trans z) he new
def Ct {P:Zv}{w:Zn}{H':Hp}{h':Y5}{kvs:List (bD×V)}{vs:List (bD×Value)}(z:kvs.length≤sizeLine)(hd:(a==sysModules)=false)(rel:KV kvs vs)(dd:h'.DictOf (bK P w) a vs) :
  ObjOk P w H' h' a (.dK kvs):=⟨z,hd,vs,rel,dd⟩
def vT {H':Hp}{Q:Unit→Shared→Prop}(hu:A.units+1<cLine)(I:Inv X pins σ H s)(g:Ep H a y v H')(ry:RelV y u)(rv:RelV v r)(h:∀s',Inv X pins σ H' s'→Q () s') :
  wpAny (model X.prog X.w) A (setItem (.ref a) u r) Q E s:=by
 rcases g with ⟨N,k,e,ey,l,eH⟩|⟨N,k,b,e,ey,eb,l,eH⟩
 ·subst ey eH;obtain⟨z,hd,vs,O,dd⟩:=Ez I.hok e;have hz:vs.length≤sizeLine:=by rw[←O.length];exact z
  have hl:(fB N k v).length≤sizeLine:=by have:=lF N k v;omega
  refine wpAny_setItem_pairs (hsz:=hz) (yb ry) dd λh' P hs=>h _ ?_;have he:∃q,h'.get? a=some q:=let ⟨q,_,_,hq,_⟩:=P;⟨q,hq⟩
  exact uH I (by rw[e];exact True.intro) hs he (Ct hl hd (O.put k rv) P)
 ·subst ey eH;cases (show u=Value.ref b from ry);obtain⟨z,hd,xs,O,dd⟩:=EB I.hok e;have hz:xs.length≤sizeLine:=by rw[←Paired.length O];exact z
  have hl:(fB N k v).length≤sizeLine:=by have:=lF N k v;omega
  refine wpAny_setItem_heap (hsz:=hz) (tupleKind_room_in1 hu) (tQ I.hok eb) dd λh' P hs=>h _ ?_;obtain⟨q,es,ep,hq,h2,h3,h4,_,h5⟩:=P;refine uH I (by rw[e];exact True.intro) hs ⟨q,hq⟩ ⟨hl,hd,_,(O.put k eb rv).keeps λc ys ec=>?_,q,es,ep,hq,h2,h3,h4,h5⟩;rw[aj (E8 ec e (λz=>nomatch z))]
  exact ec
end
section
variable{X:Cx}{pins:Z9}{σ:St}{H:Hp}{s:Z3}{a:Zz}{kvs:List (bD×V)}{k:bD}{u:Zc}{A:Zl}{E:Value→Shared→Prop}
end
def zP (i:Y1):Prop:=∀ov iv,subscripted i false ov iv=operate [ov,iv] (getItem ov iv)
def BG {prog:Zv}{w:Zn}{A:Zl}{E:Z5}{s:Z3}{env:Env}{value slice:Y1}{pos:Yn}{T id:String}{Q:Value→Shared→Prop}(hl:typeLookup (.type T) "__getitem__" =pure (some (.builtin id))) (hs:zP slice)(h:wpAny (model prog w) A (eval value env) (λo s₁=>wpAny (model prog w) A (eval slice env) (λi s₂=>s₂.TypeIs o T∧wpAny (model prog w) A (getItem o i) Q E s₂) E s₁) E s) :
  wpAny (model prog w) A (eval (.Subscript value slice pos) env) Q E s:=by
 refine Subscript_ (wpAny_mono h (λo s₁ h₁=>wpAny_mono h₁ (λi s₂ R=>?_) λ_ _ x=>x) λ_ _ x=>x);obtain⟨hT,R⟩:=R;unfold subscriptTail;refine Zx ?_;rw[getitemInPython_of_ne hT.not_modules];refine Zx (wpAny_specialOf hT hl ?_);have fin:wpAny (model prog w) A (subscripted slice false o i) (λr s₃=>wpAny (model prog w) A (letTemporaryGo value o r >>= λ_=>pure r) Q E s₃) E s₂:=by
  rw[hs o i];exact wpAny_operating (wpAny_mono R (λr s₃ h₃=>Zx (wpAny_letTemporaryGo (Zp h₃))) λ_ _ x=>x)
 first
  |exact Zp (Zx fin)
  |exact Zx (Zp (Zx fin))
  |exact Zx fin
def rC {X:Cx}{pins:Z9}{σ:St}{H:Hp}{s:Z3}{y:V}{o:Option V}(I:Inv X pins σ H s)(g:Cd H a y o):s.TypeIs (.ref a) "dict" :=by
 rcases g with ⟨kvs,k,e,_,_⟩|⟨kvs,k,b,e,_,_,_⟩
 ·obtain⟨_,_,vs,_,dd⟩:=xu I.hok e;exact dd.typeIs
 ·obtain⟨_,_,xs,_,dd⟩:=xB I.hok e;exact dd.typeIs
def B_ (td ty:TE):TE:=λσ H Q=>td σ H λx H1=>ty σ H1 λy H2=>∃a v,x= .ref a∧Cd H2 a y (some v)∧Q v H2
def Fr (td ty tv:TE):TS:=λD σ H=>tv σ H λv H1=>td σ H1 λx H2=>ty σ H2 λy H3=>∃a H4,x= .ref a∧Ep H3 a y v H4∧D.nx σ H4
section
variable{X:Cx}{o i e value:Y1}{pos pos' tpos:Yn}{td ty tv:TE}
def ve (hu:X.A.units+1<cLine)(ho:PE X o td)(hi:PE X i ty)(hs:zP i):PE X (.Subscript o i pos) (B_ td ty):=by
 intro pins s σ H Q I h;refine BG PySem.F.slot_dict_getitem.lookup hs (aS (ho pins s σ H _ I h) λu s1 ⟨x,H1,I1,rx,q1⟩=>aS (hi pins s1 σ H1 _ I1 q1) λiv s2 hZ89=>?_);obtain⟨y,H2,I2,ry,a,v,ex,g,q2⟩:=hZ89;subst ex;obtain rfl:u=Value.ref a:=rx;exact⟨rC I2 g,vS hu I2 g ry λw' s3 I3 rw'=>⟨v,H2,I3,rw',q2⟩⟩
def Bm (hu:X.A.units+1<cLine)(ho:PE X o td)(hi:PE X i ty)(hv:PE X value tv)(hs:swapsWith value (some (.Subscript o i pos')) pos.line X.env=pure false) :
  PS X (.Assign [.Subscript o i pos'] value pos) (Fr td ty tv):=by
 intro p s σ H D I h;refine wpAny_Assign_Subscript (aS (hv p s σ H _ I h) λr s1 ⟨v,H1,I1,rv,q1⟩=>aS (ho p s1 σ H1 _ I1 q1) λu s2 ⟨x,H2,I2,rx,q2⟩=>aS (hi p s2 σ H2 _ I2 q2) λiv s3 hZ92=>?_) hs;obtain⟨y,H3,I3,ry,a,H4,ex,g,q3⟩:=hZ92;subst ex;obtain rfl:u=Value.ref a:=rx;exact vT hu I3 g ry rv λs4 I4=>⟨σ,H4,I4,q3⟩
end
def xA {P:Zv}{w:Zn}{H:Hp}(h:Y5)(hb:sysModules<h.objs.size):ObjOk P w H (h.push {cls:=.type "dict",data:=.dict #[]}) h.objs.size (.dT []):=
 ⟨zero_le _,beq_eq_false_iff_ne.mpr (Ne.symm (ne_of_lt hb)),[],.nil,_,#[],0,Heap.get?_push_size _ rfl,⟨rfl,rfl,rfl⟩,rfl,rfl,nodup_nil⟩
def Ed:TE:=λ_ H Q=>∀p,H p=none→Q (.ref p) (bc H p (.dT []))
section
variable{X:Cx}{pos:Pos}
def yI:PE X (.Dict [] [] pos) Ed:=λpins s σ H Q I h=>
 wpAny_Dict_empty ⟨.ref s.heap.objs.size,_,I.laid (a:=s.heap.objs.size) (o:=.dT []) (t':=s.toks) (λ_ _ q=>Heap.get?_push_of_some _ q) (le_refl _) (xA s.heap I.big),rfl,h _ (I.hok.fresh (le_refl _))⟩
end
section
variable{X:Cx}{pins:Z9}{σ:St}{H:Hp}{s:Z3}{a:Zz}{y d:V}{u r:Zc}{o:Option V}{A:Zl}{E:Value→Shared→Prop}
end
section
variable{X:Cx}{o e f:Y1}{apos cpos:Yn}{td ty tx:TE}
end
section
variable{X:Cx}{pins:Z9}{σ:St}{H:Hp}{s:Z3}{a:Zz}{kvs:List (bD×V)}{A:Zl}{E:Value→Shared→Prop}
end
section
variable{X:Cx}{pins:Z9}{σ:St}{H:Hp}{s:Z3}{a:Zz}{y:V}{u:Zc}{A:Zl}{E:Value→Shared→Prop}
end
end L2
namespace Att
open PySem PySem.W PySem.Calls PyProof.Rows
section
variable{prog:Zv}{w:Zn}{A:Zl}{E:Z5}{s:Z3}{K:Frag}
end
end Att
namespace L2
open PySem PySem.Spec PyProof.Rows
section
variable{P:Zv}{w:Zn}{K:Z8}{mg:Z4}{base:Heap}
end
section
variable{X:Cx}
end
section
variable{κ:Type}[DecidableEq κ]
end
def HOk.onto {P:Zv}{w:Zn}{H:Hp}{h1 h2:Y5}(x:HOk P w H h1)(k:∀b o u,H b=some u→h1.get? b=some o→h2.get? b=some o):HOk P w H h2:=λa o e=>
 (x a o e).stay (λb u hb q=>by
  rcases hb with rfl|hb
  ·exact k b u _ e q
  ·exact k b u _ hb q) (λ_ q=>q) λ_ _ q=>q
def ObjOk.at {P:Zv}{w:Zn}{H:Hp}{h:Y5}{o:HO}(x:ObjOk P w H h a o):∃ob,h.get? a=some ob:=by
 cases o with
 |lst xs=>obtain⟨_,_,_,_,e⟩:=x;exact⟨_,e⟩
 |tup xs=>obtain⟨_,_,_,p⟩:=x;obtain⟨o,e,_⟩:=p;exact⟨o,e⟩
 |dK kvs=>obtain⟨_,_,_,_,o,_,_,e,_⟩:=x;exact⟨o,e⟩
 |dT kvs=>obtain⟨_,_,_,_,o,_,_,e,_⟩:=x;exact⟨o,e⟩
 |set S n=>obtain⟨o,_,_,_,e,_⟩:=x;exact⟨o,e⟩
 |ins C dx fs=>obtain⟨_,_,_,e,_⟩:=x;exact⟨_,e⟩
 |own y=>exact x
 |xd fs=>obtain⟨_,⟨o,_,_,e,_⟩,_⟩:=x;exact⟨o,e⟩
 |rng lo hi=>obtain⟨_,_,_,e⟩:=x;exact⟨_,e⟩
 |frz ob u=>obtain⟨e,_⟩:=x;exact⟨ob,e⟩
 |tbl ps=>exact⟨_,(show h.get? a=some _ from x)⟩
 |met f y=>exact⟨_,(show h.get? a=some _ from x)⟩
 |ext φ=>obtain⟨_,e,_⟩:=x;exact e
inductive CXF (P:Zv)(w:Zn)(outer:Yx)(H:Hp)(s:Z3)(E:XK)(ev:Zc)(s':Z3):Prop
 |mk (e:Zz) (cls a0:Zc) (B:Y5) (H':Hp) (h1:ev= .ref e) (h2:s'.os=s.os) (h3:AllBare s'.gens)
  (h4:Un (jG outer) [] H H' s.heap s'.heap) (h5:HOk P w H' s'.heap) (h6:Heap.FlyingW B outer e cls a0 s'.heap)
  (h7:∀b o,s'.heap.get? b=some o→b∉jG outer→((∃u,H' b=some u)∨∃o',s.heap.get? b=some o')→B.get? b=some o)
  (h8:H' e=none) (h9:s.heap.get? e=none) (q:E cls none H')
section
variable{X:Cx}{pins:Z9}{σ:St}{H:Hp}{s:Shared}
def iL {P:Zv}{w:Zn}{K:Z8}{mg:Z4}{base:Y5}{N:Zw}{qual:Yq}{scope:Yz}{f:Zz}{cd:Zc}{A:Zl}{outer:Yx}{s₀:Z3}{H₀:Hp}{E E':XK}(he:∀c a H,E' c a H→E c a H) :
  cQ (CXF P w) (rB (CXF P w) P w K mg base N qual scope f cd A outer s₀ H₀ E) E':=by
 intro pins σ H s ev s' I h;obtain⟨e,cls,a0,B,H',rfl,os,bare,un,hok,fl,cov,hn,hs,q⟩:=h;have Y:∀{b:Zz} {o:Obj},s₀.heap.get? b=some o→b≠s₀.heap.objs.size:=λe=>ne_of_lt (Ys e);have R:jG (envOfC qual scope s₀.heap.objs.size f cd::outer)=s₀.heap.objs.size::jG outer:=rfl;have hfr:∀b∈jG (envOfC qual scope s₀.heap.objs.size f cd::outer),∀o,s'.heap.get? b=some o→∀vs,o.data≠ .fields vs:=λb x o eo=>by
  obtain⟨_,o',e',h⟩:=fl.2.2.1.mem x;rw[eo]at e';cases e';exact h
 have Ib:=I.base;have V:∀b:Addr,b∉(rB (CXF P w) P w K mg base N qual scope f cd A outer s₀ H₀ E).ex:=λb z=>absurd (show b∈([]:Zt) from z) (by simp);have nL:H' s₀.heap.objs.size=none:=by
  obtain⟨m,⟨o,_,_,ho,_⟩,_⟩:=I.loc;exact un.free _ o ho I.free (by simp)
 show wpAny _ _ (leaving _ (.ref e)) _ _ s';refine wpAny_leaves_onW (base:=B) I.ok.frames rfl fl λh2 fl2 up=>?_;have S:∀b o,s'.heap.get? b=some o→b∉jG outer→b≠s₀.heap.objs.size→((∃u,H' b=some u)∨∃o',s.heap.get? b=some o')→h2.get? b=some o:=λb o i nb nl hh=>
  fl2.1 b o (cov b o i (by show b∉s₀.heap.objs.size::jG outer;simp[nl,nb]) hh)
 have Z:∀b o,s'.heap.get? b=some o→b∈jG outer→∃sl,h2.get? b=some {o with slots:=sl}:=λb o i x=>
  up b o i (hfr b (by rw[R];exact cN x) o i)
 have U:∀b o,s₀.heap.get? b=some o→∃X,s.heap.get? b=some X:=λb o T=>Ib.there b o T (V b);have hUn:Un (jG outer) [] H₀ H' s₀.heap h2:={
  keep:=λb o T n x _=>by
   have i:=Ib.keep b o T n x (V b);have n1:=Ib.free b o T n (V b);have hb2:b∉jG (envOfC qual scope s₀.heap.objs.size f cd::outer):=by rw[R];simp[Y T,x]
   exact S b o (un.keep b o i n1 hb2 (by simp)) x (Y T) (.inr ⟨o,i⟩)
  slot:=λb o T n x _=>by
   obtain⟨s1,i⟩:=Ib.slot b o T n x (V b);have n1:=Ib.free b o T n (V b);obtain⟨s2,p⟩:=un.any i n1 (by simp);obtain⟨s3,e3⟩:=Z b _ p x;exact⟨s3,e3⟩
  free:=λb o T n _=>by
   obtain⟨X,i⟩:=U b o T;exact un.free b X i (Ib.free b o T n (V b)) (by simp)
  there:=λb o T _=>by
   obtain⟨X,i⟩:=U b o T;obtain⟨o2,p⟩:=un.there b X i (by simp);by_cases x:b∈jG outer
   ·obtain⟨s3,e3⟩:=Z b o2 p x;exact⟨_,e3⟩
   ·exact⟨o2,S b o2 p x (Y T) (.inr ⟨X,i⟩)⟩
  tups:=λb xs q=>un.tups b xs (Ib.tups b xs q)
  frzs:=λb o u q=>un.frzs b o u (Ib.frzs b o u q)
  tbls:=λb ps q=>by
   obtain⟨m1,i⟩:=Ib.tbls b ps q;obtain⟨m2,p⟩:=un.tbls b _ i;exact⟨m1 ++ m2,by rw[p,Array.append_assoc]⟩}
 have frf':∀b u,H' b=some u→b∉jG outer∧b≠s₀.heap.objs.size:=λb u i=>by
  refine⟨λx=>?_,λz=>by rw[z,nL]at i;cases i⟩;have n0:H b=none:=I.stkFree b (by show b∈jG (envOfC qual scope s₀.heap.objs.size f cd::outer);rw[R];exact cN x);obtain⟨_,o,eo,_⟩:=I.stack.mem (show b∈jG (envOfC qual scope s₀.heap.objs.size f cd::outer) by rw[R];exact cN x);rw[un.free b o eo n0 (by simp)]at i;cases i
 have hok2:HOk P w H' h2:=hok.onto λb o u x eo=>S b o eo (frf' b u x).1 (frf' b u x).2 (.inl ⟨u,x⟩);have cov2:∀b o,h2.get? b=some o→b∉jG outer→((∃u,H' b=some u)∨∃o',s₀.heap.get? b=some o')→B.get? b=some o:=λb o p x hh=>by
  rcases hh with ⟨u,hu⟩|⟨o0,T⟩
  ·obtain⟨X,i⟩:=(hok b u hu).at;have z:=S b X i (frf' b u hu).1 (frf' b u hu).2 (.inl ⟨u,hu⟩);rw[p]at z;cases z;exact cov b o i (by show b∉s₀.heap.objs.size::jG outer;simp[x,(frf' b u hu).2]) (.inl ⟨u,hu⟩)
  ·obtain⟨X,i⟩:=U b o0 T;obtain⟨o2,e3⟩:=un.there b X i (by simp);have z:=S b o2 e3 x (Y T) (.inr ⟨X,i⟩);rw[p]at z;cases z;exact cov b o e3 (by show b∉s₀.heap.objs.size::jG outer;simp[x,Y T]) (.inr ⟨X,i⟩)
 refine⟨e,cls,a0,B,H',rfl,os.trans I.os,bare,hUn,hok2,fl2,cov2,hn,?_,he _ _ _ q⟩;cases z:s₀.heap.get? e with
 |none=>rfl
 |some o=>
  obtain⟨X,i⟩:=U e o z;rw[hs]at i;cases i
end
section
variable{X:Cx}
end
section
variable{X:Cx}{pins:Z9}{σ:St}{H H':Hp}{s:Shared}
def Ce (e:Zz)(cls:Zc):HO:=.ext λh=>∃o,h.get? e=some o∧o.cls=cls
end
def dH:Addr→List (Str×NameKind)→List (Str×Addr)→List (Str×Addr)
 |_,[],cs=>cs
 |k,(n,kd)::r,cs=>if (kd==.cell)=true then dH (k+1) r ((n,k)::cs) else dH k r cs
theorem d7 {α:Type}{c:α}:∀{l:List (Str×α)},l.lookup x=some c→(x,c)∈l
 | [],h=>by simp at h
 |(n,d)::r,h=>by
  rw[lookup_cons]at h;split at h
  ·rename_i hy;cases h;have hy':x=n:=by simpa using hy
   rw[hy'];exact mem_cons_self
  ·exact cN (d7 h)
theorem mB:∀{l:Ze} {k:Zz} {cs:List (Str×Addr)},(∀p∈cs,p.2<k)→(∀x y c,(x,c)∈cs→(y,c)∈cs→x=y)→∀x y c,(x,c)∈dH k l cs→(y,c)∈dH k l cs→x=y
 | [],_,_,_,h=>h
 |(n,kd)::r,k,cs,h1,h2=>by
  unfold dH;split
  ·refine mB (λp hp=>?_) λx y c hx hy=>?_
   ·rcases mem_cons.mp hp with e|e
    ·rw[e];exact lt_succ_self _
    ·exact lt_succ_of_lt (h1 p e)
   ·rcases mem_cons.mp hx with e|e <;> rcases mem_cons.mp hy with f|f
    ·cases e;cases f;rfl
    ·cases e;exact absurd (h1 _ f) (lt_irrefl _)
    ·cases f;exact absurd (h1 _ e) (lt_irrefl _)
    ·exact h2 x y c e f
  ·exact mB h1 h2
theorem jd :∀{l:Ze} {k:Zz} {cs:List (Str×Addr)},(∃c,cs.lookup x=some c)→∃c,(dH k l cs).lookup x=some c
 | [],_,_,h=>h
 |(n,kd)::r,k,cs,h=>by
  unfold dH;split
  ·refine jd ?_;rw[lookup_cons];split
   ·exact⟨_,rfl⟩
   ·exact h
  ·exact jd h
theorem rm :∀{l:Ze} {k:Zz} {cs:List (Str×Addr)},(x,NameKind.cell)∈l→∃c,(dH k l cs).lookup x=some c
 |(n,kd)::r,k,cs,h=>by
  unfold dH
  rcases mem_cons.mp h with e|e
  ·cases e;rw[Yj (beq_self_eq_true _)];exact jd ⟨k,by rw[lookup_cons];simp⟩
  ·split <;> exact rm e
theorem mD :∀{l:Ze} {k:Zz} {cs:List (Str×Addr)},(x,NameKind.cell)∉l→(dH k l cs).lookup x=cs.lookup x
 | [],_,_,_=>rfl
 |(n,kd)::r,k,cs,h=>by
  have hr:(x,NameKind.cell)∉r:=λz=>h (cN z);unfold dH;split
  ·rename_i hk;have hk':kd= .cell:=by simpa using hk
   rw[mD hr,lookup_cons];have hne:(x==n)=false:=beq_eq_false_iff_ne.mpr λz=>h (by rw[z,hk'];exact mem_cons_self);rw[hne]
  ·exact mD hr
section
variable{M:Model}{A:Zl}{E:Value→Shared→Prop}
def jF:∀(l:Ze) (cs:Y2) (s:Z3) (Q:List (Str×Addr)→Shared→Prop),(∀h':Heap,(∀b o,s.heap.get? b=some o→h'.get? b=some o)→(∀x c,(x,c)∈dH s.heap.objs.size l cs→(x,c)∈cs∨(s.heap.objs.size≤c∧∃v,h'.IsCell c v))→Q (dH s.heap.objs.size l cs) {s with heap:=h'})→
  wpAny M A (forIn l cs λx r=>if (x.2==NameKind.cell)=true then do let a ←alloc {cls:=.type "cell",data:=.cell none};pure (ForInStep.yield ((x.1,a)::r)) else pure (ForInStep.yield r):Sem (List (Str×Addr))) Q E s
 | [],cs,s,Q,h=>Zp (h s.heap (λ_ _ e=>e) λx c hx=>.inl hx)
 |(n,kd)::r,cs,s,Q,h=>by
  rw[List.forIn_cons];by_cases hk:(kd==NameKind.cell)=true
  ·simp only[hk,if_true];refine Zx (Zx (wpAny_alloc (Zp (jF r _ _ Q λh' k1 k2=>?_))));have hs:(s.heap.push {cls:=.type "cell",data:=.cell none}).objs.size=s.heap.objs.size+1:=Heap.size_push ..;have e:dH s.heap.objs.size ((n,kd)::r) cs=dH (s.heap.objs.size+1) r ((n,s.heap.objs.size)::cs):=by conv=>lhs;unfold dH;rw[Yj hk]
   dsimp only at k1 k2 ⊢;rw[hs]at k2 ⊢;have key:=h h' (λb o eb=>k1 b o (Heap.get?_push_of_some _ eb)) λx c hx=>by
    rw[e]at hx
    rcases k2 x c hx with z|z
    ·rcases mem_cons.mp z with y|y
     ·cases y;exact .inr ⟨le_refl _,none,_,k1 _ _ (Heap.get?_push_size _ rfl),rfl⟩
     ·exact .inl y
    ·exact .inr ⟨Nat.le_of_succ_le z.1,z.2⟩
   rw[e]at key;exact key
  ·simp only[hk,if_false];refine Zx (Zp (jF r _ _ Q λh' k1 k2=>?_));have e:dH s.heap.objs.size ((n,kd)::r) cs=dH s.heap.objs.size r cs:=by conv=>lhs;unfold dH;rw[Yi hk]
   rw[←e]at k2 ⊢;exact h h' k1 k2
def AO {s:Z3}{scope:Yz}{globals:Zz}{cl:Y2}{qual:Yq}{env:Env}{Q:Env→Shared→Prop}(q:∀h':Heap,(∃m,h'.Ns s.heap.objs.size m)→(∀b o,s.heap.get? b=some o→h'.get? b=some o)→(∀x c,(x,c)∈dH (s.heap.objs.size+1) scope.names cl→(x,c)∈cl∨(s.heap.objs.size<c∧∃v,h'.IsCell c v))→Q {scope:=scope,locals:=s.heap.objs.size,globals:=globals,cells:=dH (s.heap.objs.size+1) scope.names cl,qual:=qual,func:=none,code:=env.code,frame:=env.frame,builtins:=env.builtins} {s with heap:=h'}) :
  wpAny M A (newFunctionEnv scope globals cl [] qual none .none (some env)) Q E s:=by
 unfold newFunctionEnv;refine Zx (wpAny_alloc (Zx ?_));have hs:(s.heap.push {cls:=.type "dict",data:=.dict #[]}).objs.size=s.heap.objs.size+1:=Heap.size_push ..;refine jF scope.names cl {s with heap:=s.heap.push {cls:=.type "dict",data:=.dict #[]}} _ λh' k1 k2=>?_
 dsimp only at k1 k2 ⊢;rw[hs]at k2 ⊢;refine Zx (Zp (Zp (q h' ⟨λ_=>none,_,#[],0,k1 _ _ (Heap.get?_push_size _ rfl),rfl,?_,λ_=>rfl⟩ (λb o e=>k1 b o (Heap.get?_push_of_some _ e)) λx c hx=>k2 x c hx)));exact(by simp[StrKeys])
end
def dI (cells:Y2):List (Str×NameKind)→List (Str×Addr)→List (Str×Addr)
 | [],cs=>cs
 |(n,k)::r,cs=>dI cells r (if k==.free then (match cells.lookup n with|some c=>(n,c)::cs|none=>cs) else cs)
def jp {scope:Yz}{env:Env}(h:∀y∈scope.names,y.2= .free→∃c,env.cells.lookup y.1=some c):closureFor scope env=pure (dI env.cells scope.names []):=by
 unfold closureFor;have go:∀(l:Ze) (cs:List (Str×Addr)),(∀y∈l,y.2= .free→∃c,env.cells.lookup y.1=some c)→
   (forIn l cs λx r=>if (x.2==NameKind.free)=true then do let c ←cellOf env x.1;pure (ForInStep.yield ((x.1,c)::r)) else pure (ForInStep.yield r):Sem (List (Str×Addr)))=pure (dI env.cells l cs):=by
  intro l
  induction l with
  |nil=>intro cs _;rfl
  |cons x r ih=>
   intro cs hl;obtain⟨n,k⟩:=x;rw[List.forIn_cons];by_cases hk:k= .free
   ·subst hk;obtain⟨c,hc⟩:=hl (n,.free) mem_cons_self rfl;have hc':env.cells.lookup n=some c:=hc;have e:cellOf env n=pure c:=by unfold cellOf;rw[hc']
    simp only[beq_self_eq_true,if_true,e,pure_bind,dI,hc'];exact ih _ λy hy=>hl y (cN hy)
   ·have e:(k==NameKind.free)=false:=by simpa using hk
    simp only[e,false_eq_true,if_false,pure_bind,dI];exact ih _ λy hy=>hl y (cN hy)
 have:=go scope.names [] h;simpa using this
theorem oG {cells:Y2}:∀{l:Ze} {cs:Y2} {x:Str},(∃c,cs.lookup x=some c)→∃c,(dI cells l cs).lookup x=some c
 | [],cs,x,h=>h
 |(n,k)::r,cs,x,⟨c,h⟩=>by
  unfold dI;refine oG ?_;split
  ·split
   ·rw[lookup_cons];split
    ·exact⟨_,rfl⟩
    ·exact⟨c,h⟩
   ·exact⟨c,h⟩
  ·exact⟨c,h⟩
theorem mF {cells:Y2}:∀{l:Ze} {cs:Y2} {x:Str},(x,NameKind.free)∈l→(∃c,cells.lookup x=some c)→∃c,(dI cells l cs).lookup x=some c
 |(n,k)::r,cs,x,hm,⟨c,hc⟩=>by
  rcases mem_cons.mp hm with e|hm
  ·cases e;unfold dI;refine oG ?_;rw[Yj (by rfl),hc];exact⟨c,by rw[lookup_cons];simp⟩
  ·unfold dI;exact mF hm ⟨c,hc⟩
theorem i4 {env:Env}:∀{names:Ze} {x:Yq} {k:NameKind},(names.map λ(n,k)=>if (k==NameKind.free&&env.scope.kind==.function&&env.kindOf n==some .cell) then (n,NameKind.cell) else (n,k)).lookup x=some k→(k= .cell∨k= .free)→(x,NameKind.free)∈names∨(x,NameKind.cell)∈names
 | [],_,_,h,_=>by simp at h
 |(n,k0)::r,x,k,h,hk=>by
  have ih:= @i4 env r x k;rw[map_cons,lookup_cons]at h;by_cases c:(k0==NameKind.free&&env.scope.kind==.function&&env.kindOf n==some .cell)=true
  ·have hf:k0= .free:=by
    simp only[and_eq_true,beq_iff_eq]at c;exact c.1.1
   subst hf;rw[Yj c]at h;dsimp only at h;split at h
   ·rename_i hy;have:x=n:=by simpa using hy
    subst this;exact .inl mem_cons_self
   ·exact(ih h hk).imp (mem_cons_of_mem _) (mem_cons_of_mem _)
  ·rw[Yi c]at h;dsimp only at h;split at h
   ·rename_i hy;have:x=n:=by simpa using hy
    subst this;cases h
    rcases hk with rfl|rfl
    ·exact .inr mem_cons_self
    ·exact .inl mem_cons_self
   ·exact(ih h hk).imp (mem_cons_of_mem _) (mem_cons_of_mem _)
theorem im {env:Env}:∀{names:Ze} {x:Str},names.lookup x=some .free→(names.map λ(n,k)=>if (k==NameKind.free&&env.scope.kind==.function&&env.kindOf n==some .cell) then (n,NameKind.cell) else (n,k)).lookup x=some .cell∨(names.map λ(n,k)=>if (k==NameKind.free&&env.scope.kind==.function&&env.kindOf n==some .cell) then (n,NameKind.cell) else (n,k)).lookup x=some .free
 | [],_,h=>by simp at h
 |(n,k0)::r,x,h=>by
  have ih:= @im env r x;rw[lookup_cons]at h;rw[map_cons,lookup_cons];by_cases c:(k0==NameKind.free&&env.scope.kind==.function&&env.kindOf n==some .cell)=true
  ·rw[Yj c];dsimp only;split at h
   ·exact .inl rfl
   ·exact ih h
  ·rw[Yi c];dsimp only;split at h
   ·exact .inr h
   ·exact ih h
theorem il {env:Env}:∀{names:Ze} {x:Str},names.lookup x=some .cell→(names.map λ(n,k)=>if (k==NameKind.free&&env.scope.kind==.function&&env.kindOf n==some .cell) then (n,NameKind.cell) else (n,k)).lookup x=some .cell
 | [],_,h=>by simp at h
 |(n,k0)::r,x,h=>by
  have ih:= @il env r x;rw[lookup_cons]at h;rw[map_cons,lookup_cons];by_cases c:(k0==NameKind.free&&env.scope.kind==.function&&env.kindOf n==some .cell)=true
  ·rw[Yj c];dsimp only;split at h
   ·rfl
   ·exact ih h
  ·rw[Yi c];dsimp only;split at h
   ·exact h
   ·exact ih h
def cT {env:Env}{scope:Yz}(h:qY scope x):qY (relabel scope env) x∧((scope.names.lookup x==some NameKind.cell)=true∨(relabel scope env).names.lookup x=some .local):=by
 rcases h with h|h
 ·have:=lookup_relabel_local (env:=env) h;exact⟨.inl this,.inr this⟩
 ·exact⟨.inr (il h),.inl (by rw[h];rfl)⟩
abbrev Cx.comp (X:Cx)(s:Z3)(H:Hp)(scope:Yz)(C:Zz)(N:Zw)(ex:Zt):Cx:=
 {X with N:=N,s₀:=s,H₀:=H,env:=compEnvC scope (dH (C+1) scope.names (dI X.env.cells scope.names [])) C X.env,outer:=X.stack,stack:=X.stack,ex:=ex,fn:=λx=>scope.names.lookup x==some .cell,pn:=[],xe:=λ_ _=>False}
theorem mG {cells:Y2}:∀{l:Ze} {cs:List (Str×Addr)},(x,c)∈dI cells l cs→(∀p∈cs,cells.lookup p.1=some p.2)→cells.lookup x=some c
 | [],cs,h,hs=>hs _ h
 |(n,k)::r,cs,h,hs=>by
  unfold dI at h;refine mG h λp hp=>?_;split at hp
  ·split at hp
   ·rename_i c' hc'
    rcases mem_cons.mp hp with e|e
    ·rw[e];exact hc'
    ·exact hs p e
   ·exact hs p hp
  ·exact hs p hp
theorem oF {cells:Y2}:∀{l:Ze} {cs:List (Str×Addr)},(x,c)∈dI cells l cs→(x,c)∈cs∨(x,NameKind.free)∈l
 | [],cs,h=>.inl h
 |(n,k)::r,cs,h=>by
  unfold dI at h
  rcases oF h with z|z
  ·split at z
   ·rename_i hk;have hk':k= .free:=by simpa using hk
    split at z
    ·rcases mem_cons.mp z with e|e
     ·cases e;exact .inr (by rw[hk'];exact mem_cons_self)
     ·exact .inl e
    ·exact .inl z
   ·exact .inl z
  ·exact .inr (cN z)
structure CompSc (X:Cx)(scope:Yz)(N:Zw)(caps:Zo):Prop where
 kind:scope.kind= .function
 freek:∀y∈scope.names,y.2= .free→scope.names.lookup y.1=some .free
 cellk:∀y∈scope.names,y.2= .cell→scope.names.lookup y.1=some .cell
 names:∀y∈scope.names,y.2= .local→scope.names.lookup y.1=some .local
 free:∀y∈scope.names,y.2= .free→X.env.scope.names.lookup y.1=some .cell∨X.env.scope.names.lookup y.1=some .free
 nd:N.Nodup
 len:caps.length=N.length
 capf:∀(j k:Nat) (x:Str),caps[j]?=some (some k)→N[j]?=some x→scope.names.lookup x=some .free
 cap:∀(j k:Nat) (x:Str),caps[j]?=some (some k)→N[j]?=some x→X.N[k]?=some x∧(X.env.scope.names.lookup x=some .cell∨X.env.scope.names.lookup x=some .free)
def fm (caps:Zo)(σ:St):St:=caps.map λo=>o.bind λk=>(σ[k]?).join
def oE {caps:Zo}{σ:St}{j:Nat}{v:V}(h:(fm caps σ)[j]?=some (some v)):∃k,caps[j]?=some (some k)∧σ[k]?=some (some v):=by
 unfold fm at h;rw[getElem?_map]at h;cases e:caps[j]? with
 |none=>rw[e]at h;cases h
 |some o=>
  rw[e]at h;cases o with
  |none=>simp at h
  |some k=>
   refine⟨k,rfl,?_⟩;simp only[map_some,bind_some]at h;cases e2:σ[k]? with
   |none=>rw[e2]at h;simp at h
   |some o2=>rw[e2]at h;simp at h;rw[h]
section
variable{X:Cx}{pins:Z9}{σ:St}{H:Hp}{s:Z3}{scope:Yz}{N:Zw}{caps:List (Option Nat)}
def Inv.comp {h₁:Y5}{C:Zz}{fp:Zt}{t':Nat}(I:Inv X pins σ H s)(S:CompSc X scope N caps)(hC:s.heap.objs.size≤C)(hf:∀b∈fp,iG X pins H b)(hfp:∀b∈fp,b<s.heap.objs.size)(old:∀b o,s.heap.get? b=some o→h₁.get? b=some o) (nc:∀x c,(x,c)∈dH (C+1) scope.names (dI X.env.cells scope.names [])→(x,c)∈dI X.env.cells scope.names []∨(C<c∧∃v,h₁.IsCell c v)) (ns:∃m,h₁.Ns C m):Inv (X.comp s H scope C N fp) [] (fm caps σ) H {s with heap:=h₁,toks:=t'}:=by
 have Z:∀{x c},(x,c)∈dI X.env.cells scope.names []→X.env.cells.lookup x=some c:=λe=>mG e (λp z=>by cases z);have hcl:∀x c,(dI X.env.cells scope.names []).lookup x=some c→X.env.cells.lookup x=some c:=λx c e=>Z (d7 e);have hce:∀{x c},(dH (C+1) scope.names (dI X.env.cells scope.names [])).lookup x=some c→X.env.cells.lookup x=some c∨(C<c∧∃v,h₁.IsCell c v):=λe=>(nc _ _ (d7 e)).imp Z id;have olt:∀p∈dI X.env.cells scope.names [],p.2<C+1:=λp hp=>by
  obtain⟨v,z⟩:=I.cell p.1 p.2 (Z hp);exact lt_succ_of_lt (lt_of_lt_of_le z.lt hC)
 have hsub:=I.stkSub;obtain⟨m1,hn1⟩:=ns;have notC:∀{b:Addr},b<s.heap.objs.size→b≠C:=λw=>ne_of_lt (lt_of_lt_of_le w hC);have hasF:∀x,(x,NameKind.free)∈scope.names→∃c,X.env.cells.lookup x=some c:=λx hx=>I.ok.has x (S.free (x,.free) hx rfl);refine⟨⟨I.ok.mod,S.kind,I.ok.glob,I.ok.blt,hC,λx y c e1 e2=>mB olt (λx y c e1 e2=>I.ok.inj x y c (Z e1) (Z e2)) x y c (d7 e1) (d7 e2),λx hx=>?_,λx c hx e=>?_,I.ok.hd,I.ok.frames,.inl rfl,λb w=>⟨notC (hfp b w),λx c e=>(hce e).elim ((hf b w).2.2.2.2.1 x c) λz=>ne_of_gt (lt_of_lt_of_le (hfp b w) (le_trans hC (le_of_lt z.1)))⟩,I.bs,le_trans I.ok.bsz I.sz,λb o e w=>?_,λb w z=>?_,I.stack,I.stkFree⟩,
  rfl,I.bare,Un.kept old,⟨m1,hn1,λj y v e1 e2 e3=>?_⟩,λx c e=>?_,I.hok.fresh hC,λx c e=>(hce e).elim (I.freeC x c) λz=>I.hok.fresh (le_trans hC (le_of_lt z.1)),λp hp=>absurd (show p∈([]:Z9) from hp) (by simp),I.hok.kept old,by rw[show (fm caps σ).length=caps.length by simp[fm]];exact S.len⟩
 ·have hx':(relabel scope X.env).names.lookup x=some .cell∨(relabel scope X.env).names.lookup x=some .free:=hx;have hm:(x,NameKind.free)∈scope.names∨(x,NameKind.cell)∈scope.names:=by
   rcases hx' with e|e
   ·exact i4 e (.inl rfl)
   ·exact i4 e (.inr rfl)
  rcases hm with hm|hm
  ·exact jd (mF hm (hasF x hm))
  ·exact rm hm
 ·have hx:(scope.names.lookup x==some NameKind.cell)=true:=hx;have ho:(dH (C+1) scope.names (dI X.env.cells scope.names [])).lookup x=some c:=e
  rcases nc x c (d7 ho) with z|z
  ·rw[S.freek _ ((oF z).resolve_left λy=>by cases y) rfl]at hx;cases hx
  ·exact le_trans hC (le_of_lt z.1)
 ·obtain⟨f0,f1,f2,f3,_⟩:=hf b w
  rcases f3 with z|z
  ·exact I.ok.noex b o e z
  ·exact absurd (lt_of_lt_of_le (Ys e) (le_trans I.ok.bsz z)) (lt_irrefl _)
 ·obtain⟨f0,f1,f2,_⟩:=hf b w
  rcases mem_cons.mp (hsub b z) with e|e
  ·exact f1 e
  ·exact f2 e
 ·obtain⟨k,c1,c2⟩:=oE e2;obtain⟨c3,c4⟩:=S.cap j k y c1 e1;obtain⟨m,hn,hl⟩:=I.loc;obtain⟨u,r,l⟩:=hl k y v c3 c2 (by rcases c4 with z|z;exact .inr (.inl z);exact .inr (.inr z))
  refine⟨u,r,.inr ?_⟩;have hv:(relabel scope X.env).names.lookup y=some .cell∨(relabel scope X.env).names.lookup y=some .free:=im (S.capf j k y c1 e1);have hfr:=S.capf j k y c1 e1;have hm:(y,NameKind.free)∈scope.names:=d7 hfr;obtain⟨c,hc⟩:=mF (cells:=X.env.cells) (cs:=[]) hm (hasF y hm);refine⟨hv,c,(mD (λz=>by have:=S.cellk _ z rfl;rw[hfr]at this;cases this)).trans hc,?_⟩
  rcases l with ⟨k1,_⟩|⟨_,c',hc',z⟩
  ·exfalso;have k1':X.env.scope.names.lookup y=some .local:=k1
   rcases c4 with z|z <;> (rw[k1']at z;cases z)
  ·rw[hcl y c hc]at hc';cases hc';obtain⟨o,eo,d⟩:=z;exact⟨o,old _ _ eo,d⟩
 ·rcases hce e with z|z
  ·obtain⟨v,o,eo,d⟩:=I.cell x c z;exact⟨v,o,old _ _ eo,d⟩
  ·exact z.2
end
section
variable{prog:Zv}{w:Zn}{A:Zl}{E:Z5}{R:Yt}{s:Shared}
theorem vQ {elt target iter:Y1}{ifs:Zd}{scope:Yz}{pos:Yn}{it acc:Zc}{env:Env}(I:Nat→Shared→Prop)(turn:∀n s,I n s→wpAny (model prog w) A (pyNext it) (λr s₁=>match r with
   |none=>R (.ok .next) s₁
   |some v=>wpAny (model prog w) A (letOwnedTupleGo target it v) (λ_ s₁'=>wpAny (model prog w) A (assign target env v) (λ_ s₂=>
     wpAny (model prog w) A (forIn ifs true λc r=>if r=true then do let ok ←isTrue c env (eval c env);pure (ForInStep.yield ok) else pure (ForInStep.yield r)) (λok s₃=>
      if ok=true then wpAny (model prog w) A (eval elt env) (λx s₄=>
       wpAny (model prog w) A (call (.builtin "list.append") [acc,x]) (λ_ s₅=>∃m,m<n∧I m s₅) (notedBy (model prog w) A env λe s'=>R (.error e) s') s₄) (notedBy (model prog w) A env λe s'=>R (.error e) s') s₃
      else ∃m,m<n∧I m s₃) (notedBy (model prog w) A env λe s'=>R (.error e) s') s₂) (notedBy (model prog w) A env λe s'=>R (.error e) s') s₁') (notedBy (model prog w) A env λe s'=>R (.error e) s') s₁) (notedBy (model prog w) A env λe s'=>R (.error e) s') s)
  (n:Nat) (h:I n s) :
  codeAny (model prog w) A (.compLoop (.ListComp elt [⟨target,iter,ifs,0⟩] scope pos) 0 it acc env) R s:=by
 refine codeAny_loop rfl I (λn s hI=>?_) n h;show wpAny _ A ((compTurn (.ListComp elt [⟨target,iter,ifs,0⟩] scope pos) 0 it acc env).onRaise (λx=>do noteFrame x env;theTreesLotGoes x)) _ _ s
 refine wpAny_noted ?_;rw[compTurn_list];refine Zx (wpAny_standAt (Zx (wpAny_mono (turn n s hI) (λr s₁ h₁=>?_) λ_ _ H=>H)));cases r with
 |none=>exact Zp h₁
 |some v=>
  refine Zx (wpAny_mono h₁ (λ_ s₁' h₁'=>?_) λ_ _ H=>H);refine Zx (wpAny_mono h₁' (λ_ s₂ h₂=>Zx (wpAny_mono h₂ (λok s₃ h₃=>?_) λ_ _ H=>H)) λ_ _ H=>H);cases ok with
  |false=>exact Zp ⟨rfl,h₃⟩
  |true=>
   exact Zx (Zx (wpAny_mono h₃ (λx s₄ h₄=>Zx (wpAny_mono h₄ (λ_ s₅ h₅=>Zp (Zp ⟨rfl,h₅⟩)) λ_ _ H=>H)) λ_ _ H=>H))
end
def Em (X:Cx)(ifs:Zd)(t:TT):Prop:=
 ∀(pins:Z9) (s:Z3) (σ:St) (H:Hp) (Q:Bool→Hp→Prop),Inv X pins σ H s→t σ H Q→
  wpAny (model X.prog X.w) X.A (forIn ifs true λc r=>if r=true then do let ok ←isTrue c X.env (eval c X.env);pure (ForInStep.yield ok) else pure (ForInStep.yield r)) (TP X pins σ Q) X.xe s
def Ba {X:Cx}:Em X [] (λ_ H Q=>Q true H):=λ_ _ _ H _ I h=>wpAny_tests_nil ⟨H,I,h⟩
def Bb {X:Cx}{t:TT}(h:PT X c t):Em X [c] t:=λpins s σ H Q I q=>wpAny_tests_one (h pins s σ H Q I q)
def zx (wi:TI)(caps:Zo)(g:TG)(tc:TT)(te:TE):TE:=λσ H Q=>wi σ H λJ H1=>∃W:Nat→Nat→List V→Hp→Prop,(∃m,W 0 m [] H1)∧∀i m ys H2,W i m ys H2→
 (J.stop i H2∧ys.length≤sizeLine∧∀p,H2 p=none→Q (.ref p) (bc H2 p (.lst ys)))∨
 (J.go i H2∧∃Nx:List V→Hp→Prop,(∀ys' H',Nx ys' H'→∃m',m'<m∧W (i+1) m' ys' H')∧
  ∀x H',J.yld i H2 x H'→g x (fm caps σ) H' λσ2 H3=>tc σ2 H3 λb H4=>if b=true then ys.length≤sizeLine∧te σ2 H4 (λy H5=>Nx (ys ++ [y]) H5) else Nx ys H4)
section
variable{X:Cx}{pins:Z9}{σ:St}{H:Hp}{s:Z3}{scope:Yz}{N:Zw}{caps:List (Option Nat)}
abbrev j9 (us:Z1):Obj:={cls:=.type "list",data:=.seq us.toArray us.length}
def wB (ys:Z1)(y:Zc):({cls:=.type "list",data:=.seq (ys.toArray.push y) (ys.length+1)}:Obj)=j9 (ys ++ [y]):=by
 show ({cls:=.type "list",data:=.seq (ys.toArray.push y) (ys.length+1)}:Obj)={cls:=.type "list",data:=.seq (ys ++ [y]).toArray (ys ++ [y]).length};rw[length_append,length_singleton,List.push_toArray]
def jV (caps:Zo)(g:TG):Prop:=∀x σ0 H Q,g x σ0 H Q→g x σ0 H λσ2 H2=>Q σ2 H2∧σ2.length=σ0.length∧∀(j k:Nat) (v:V),caps[j]?=some (some k)→σ0[j]?=some (some v)→σ2[j]?=some (some v)
def kg {i:Nat}(h:caps[i]?=some none):jV caps (cn i):=λx σ0 H Q q=>by
 refine⟨q,by simp,λj k v hj hv=>?_⟩;have:j≠i:=λz=>by rw[z,h]at hj;cases hj
 rw[getElem?_set_ne (Ne.symm this)];exact hv
def mI {elt tg iter:Y1}{ifs:Zd}{pos:Yn}{it:Zz}{fp:Zt}{tn:Nat→Heap→Prop}{J:It}{g:TG}{tc:TT}{te:TE}{RR:Value→Addr→Result→Shared→Prop}{E:Value→Shared→Prop}(hc:X.calm=true) (I:Inv X pins σ H s) (S:CompSc X scope N caps) (T:Turn X.prog X.w X.K tg J fp it tn) (st:tn 0 s.heap) (hf:∀b∈fp,iG X pins H b)(hg:∀C ex,PG (X.comp s H scope C N ex) tg g) (ho:jV caps g) (ht:∀C ex,Em (X.comp s H scope C N ex) ifs tc) (he:∀C ex,PE (X.comp s H scope C N ex) elt te)(W:Nat→Nat→List V→Hp→Prop) (m0:Nat) (w0:W 0 m0 [] H) {Q:VK}(turn:∀i m ys H2,W i m ys H2→(J.stop i H2∧ys.length≤sizeLine∧∀p,H2 p=none→Q (.ref p) (bc H2 p (.lst ys)))∨(J.go i H2∧∃Nx:List V→Hp→Prop,(∀ys' H',Nx ys' H'→∃m',m'<m∧W (i+1) m' ys' H')∧
    ∀x H',J.yld i H2 x H'→g x (fm caps σ) H' λσ2 H3=>tc σ2 H3 λb H4=>if b=true then ys.length≤sizeLine∧te σ2 H4 (λy H5=>Nx (ys ++ [y]) H5) else Nx ys H4))
  (hRR:∀(D C:Zz) (s':Z3) (m:Z4) (H':Hp),s'.heap.Ns C m→Inv X pins σ H' s'→iG X pins H' C→Q (.ref D) H'→RR (.ref D) C (.ok .next) s') :
  wpAny (model X.prog X.w) X.A (newList []) (λacc s₃=>wpAny (model X.prog X.w) X.A (newFunctionEnv scope X.env.globals (dI X.env.cells scope.names []) [] X.env.qual none .none (some X.env)) (λcenv s₄=>
   codeAny (model X.prog X.w) X.A (.compStart (.ListComp elt [⟨tg,iter,ifs,0⟩] scope pos) 0 (.ref it) acc {cenv with scope:=relabel scope X.env}) (RR acc cenv.locals) s₄) E s₃) E s:=by
 refine wpAny_newObj_type (AO λL l a h=>?_);dsimp only at l a h ⊢;generalize hH2:s.heap.push {cls:=.type "list",dict:=none,data:=.seq ([]:List Value).toArray}=H2 at l a h ⊢;have hC:H2.objs.size=s.heap.objs.size+1:=by rw[←hH2,Heap.size_push]
 have hDC:s.heap.objs.size≠H2.objs.size:=by rw[hC];exact ne_of_lt (lt_succ_self _)
 have F:s.heap.objs.size≤H2.objs.size:=by rw[hC];exact le_succ _
 have old:∀b o,s.heap.get? b=some o→L.get? b=some o:=λb o e=>
  a b o (hH2 ▸ Heap.get?_push_of_some _ e)
 have hacc:L.get? s.heap.objs.size=some (j9 []):=a _ _ (hH2 ▸ Heap.get?_push_size _ rfl);have Z:∀b∈fp,b<s.heap.objs.size:=λb B=>by
  obtain⟨o,e,_⟩:=T.obj _ _ st b B;exact Ys e
 have U:tn 0 L:=T.keep _ _ _ st λb B o e=>old b o e;have I₁:Inv (X.comp s H scope H2.objs.size N fp) [] (fm caps σ) H {s with heap:=L}:=I.comp (t':=s.toks) S F hf Z old h l
 have cne:∀x c,(dH (H2.objs.size+1) scope.names (dI X.env.cells scope.names [])).lookup x=some c→X.env.cells.lookup x=some c∨H2.objs.size<c:=λx c e=>(h x c (d7 e)).imp (λz=>mG z (λp R=>by cases R)) And.left;have nfs:∀{b:Addr},s.heap.objs.size≤b→b∉jG X.stack:=λB z=>by
  obtain⟨_,o,ho,_⟩:=I.stack.mem z;exact absurd (lt_of_lt_of_le (Ys ho) B) (lt_irrefl _)
 -- what stays true of the iterator's and the gathered list's objects
 have f:∀{H':Hp},(∀b∈fp,H' b=none)→∀b∈fp,iG (X.comp s H scope H2.objs.size N fp) [] H' b:=λhn b B=>
  ⟨hn b B,ne_of_lt (lt_of_lt_of_le (Z b B) F),λz=>(by
   obtain⟨f0,f1,f2,_⟩:=hf b B
   rcases mem_cons.mp (I.stkSub b z) with e|e
   ·exact f1 e
   ·exact f2 e),.inl B,λx c e=>(cne x c e).elim ((hf b B).2.2.2.2.1 x c) λz=>ne_of_gt (lt_of_lt_of_le (Z b B) (le_trans F (le_of_lt z))),λp R=>absurd (show p∈([]:Z9) from R) (by simp)⟩
 have statD:∀{H':Hp},H' s.heap.objs.size=none→iG (X.comp s H scope H2.objs.size N fp) [] H' s.heap.objs.size:=λhn=>
  ⟨hn,hDC,nfs (le_refl _),.inr (le_refl _),λx c e=>(cne x c e).elim (λz=>by obtain⟨v,y⟩:=I.cell x c z;exact ne_of_lt y.lt) λz=>ne_of_gt (Nat.lt_of_le_of_lt F z),λp R=>absurd (show p∈([]:Z9) from R) (by simp)⟩
 have loop:∀s₃:Shared,s₃={s with heap:=L}→
   codeAny (model X.prog X.w) X.A (.compLoop (.ListComp elt [⟨tg,iter,ifs,0⟩] scope pos) 0 (.ref it) (.ref s.heap.objs.size) (compEnvC scope (dH (H2.objs.size+1) scope.names (dI X.env.cells scope.names [])) H2.objs.size X.env))
    (RR (.ref s.heap.objs.size) H2.objs.size) s₃:=by
  rintro s₃ rfl;refine vQ (λn s'=>∃i ys t H',Inv (X.comp s H scope H2.objs.size N fp) [] (fm caps σ) H' s'∧tn i s'.heap∧(∀b∈fp,H' b=none)∧s'.heap.get? s.heap.objs.size=some (j9 t)∧H' s.heap.objs.size=none∧Vals ys t∧W i n ys H') ?_ m0
   ⟨0,[],[],H,I₁,U,λb B=>(hf b B).1,hacc,I.hok.fresh (le_refl _),.nil,w0⟩
  intro n s3 hZ3;obtain⟨i,ys,t,H3,I3,st3,fr3,ha3,hd3,rv3,w3⟩:=hZ3;have pinD:∀{G:St} {H':Hp} {s':Shared},Inv (X.comp s H scope H2.objs.size N fp) [] G H' s'→s'.heap.get? s.heap.objs.size=some (j9 t)→H' s.heap.objs.size=none→Inv (X.comp s H scope H2.objs.size N fp) [(s.heap.objs.size,j9 t)] G H' s':=λI' e n=>
   I'.pins_of λp R=>by
    obtain rfl:=mem_singleton.mp R;exact⟨e,n,hDC,nfs (le_refl _),λv z=>by cases z⟩
  have O:∀{H':Hp},(∀b∈fp,H' b=none)→∀b∈fp,iG (X.comp s H scope H2.objs.size N fp) [(s.heap.objs.size,j9 t)] H' b:=λhn b B=>
   ⟨(f hn b B).1,(f hn b B).2.1,(f hn b B).2.2.1,(f hn b B).2.2.2.1,(f hn b B).2.2.2.2.1,λp R=>by
    obtain rfl:=mem_singleton.mp (show p∈[(s.heap.objs.size,j9 t)] from R);exact ne_of_gt (Z b B)⟩
  have I3':=pinD I3 ha3 hd3;have atD:∀{pl:Z9} {G:St} {H':Hp} {s':Shared},Inv (X.comp s H scope H2.objs.size N fp) ([(s.heap.objs.size,j9 t)] ++ pl) G H' s'→s'.heap.get? s.heap.objs.size=some (j9 t)∧H' s.heap.objs.size=none:=λ{pl G H' s'} I'=>
   ⟨(I'.pin (s.heap.objs.size,j9 t) (by simp)).1,(I'.pin (s.heap.objs.size,j9 t) (by simp)).2.1⟩
  rcases turn i n ys H3 w3 with ⟨stop,hsz,fin⟩|⟨go,Nx,hN,step⟩
  ·refine aS (wpAny_noRaise (T.done (X.comp s H scope H2.objs.size N fp) rfl rfl rfl hc i [(s.heap.objs.size,j9 t)] s3 _ H3 (λ_ _=>False) I3' (O fr3) st3 stop)) λr s4 hZ93=>?_;obtain⟨hr,I4⟩:=hZ93;subst hr;obtain⟨ha4,P⟩:=atD (pl:=[]) I4;obtain⟨m4,hn4,_⟩:=id I4.loc;have M:Un (jG X.stack) fp H H3 s.heap s4.heap:=I4.base;have bC:∀{b:Zz} {o:Obj},s.heap.get? b=some o→b≠H2.objs.size∧b≠s.heap.objs.size:=λe=>⟨by rw[hC];exact ne_of_lt (lt_succ_of_lt (Ys e)),ne_of_lt (Ys e)⟩;have freeC:H3 H2.objs.size=none:=I4.free;have un':Un (jG X.stack) fp H (bc H3 s.heap.objs.size (.lst ys)) s.heap s4.heap:={
    keep:=λb o e n B hx=>(M.keep b o e n B hx)
    slot:=λb o e n B hx=>by
     obtain⟨sl,z⟩:=M.slot b o e n B hx;exact⟨sl,z⟩
    free:=λb o e n hx=>by rw[aj (bC e).2];exact M.free b o e n hx
    there:=λb o e hx=>by
     obtain⟨o',z⟩:=M.there b o e hx;exact⟨o',z⟩
    tups:=λb xs q=>by
     have z:=M.tups b xs q;rw[aj (aB z P)];exact z
    frzs:=λb o u q=>by
     have z:=M.frzs b o u q;rw[aj (aB z P)];exact z
    tbls:=λb ps q=>by
     obtain⟨mo,z⟩:=M.tbls b ps q;exact⟨mo,by rw[aj (aB z P)];exact z⟩}
   have hok':HOk X.prog X.w (bc H3 s.heap.objs.size (.lst ys)) s4.heap:=λb u eb=>by
    by_cases B:b=s.heap.objs.size
    ·subst B;rw[ao]at eb;cases eb;exact⟨hsz,t,_,rv3,ha4⟩
    ·rw[aj B]at eb;exact(I4.hok b u eb).stay (λc v hcc q=>q) (λc q=>by rw[aj (aB q P)];exact q) λc xs q=>by rw[aj (aB q P)];exact q
   have I4':Inv X pins σ (bc H3 s.heap.objs.size (.lst ys)) s4:=I.call' (ch:=fp) I4.os un' hok' I4.bare (λb B=>⟨(hf b B).2.2.2.1,(hf b B).2.1,(hf b B).2.2.2.2.1,(hf b B).2.2.2.2.2⟩);exact hRR _ _ s4 m4 _ hn4 I4' (I.fpOk F (by rw[aj (Ne.symm hDC)];exact freeC)) (fin _ P)
  ·refine aS (wpAny_noRaise (T.item (X.comp s H scope H2.objs.size N fp) rfl rfl rfl hc i [(s.heap.objs.size,j9 t)] s3 _ H3 (λ_ _=>False) I3' (O fr3) st3 go)) λr s4 hZ94=>?_;obtain⟨u,hr,h4⟩:=hZ94;subst hr;refine aS (wpAny_noRaise h4) λ_ s5 hZ95=>?_;obtain⟨x,H5,I5,r5,y5,st5,fr5⟩:=hZ95;have I5':=I5.pinned (O fr5) (T.obj _ _ st5);refine aS (wpAny_noRaise (hg _ _ _ s5 _ H5 x u _ I5' r5 (ho _ _ _ _ (step x H5 y5)))) λ_ s6 hZ96=>?_;obtain⟨σ6,H6,I6,q6,l6,k6⟩:=hZ96;have Y:∀{pl:Z9} {H':Hp} {s':Shared},Inv (X.comp s H scope H2.objs.size N fp) pl σ6 H' s'→Inv (X.comp s H scope H2.objs.size N fp) pl (fm caps σ) H' s':=λI'=>I'.weak l6.symm λj v e=>by
    obtain⟨k,c1,c2⟩:=oE e;exact k6 j k v c1 e
   refine aS (wpAny_noRaise (ht _ _ _ s6 σ6 H6 _ I6 q6)) λb s7 hZ97=>?_;obtain⟨H7,I7,q7⟩:=hZ97;have keepT:∀{G:St} {H':Hp} {s':Shared},Inv (X.comp s H scope H2.objs.size N fp) ([(s.heap.objs.size,j9 t)] ++ lh fp s5.heap) G H' s'→tn (i+1) s'.heap∧∀b∈fp,H' b=none:=λ{G H' s'} I'=>
    ⟨T.keep _ _ _ st5 λb B o e=>(I'.pin (b,o) (mem_append_right _ (mem_append_right _ (dM B e)))).1,λb B=>by
     obtain⟨o,e,d⟩:=T.obj _ _ st5 b B;exact(I'.pin (b,o) (mem_append_right _ (mem_append_right _ (dM B e)))).2.1⟩
   cases b with
   |false=>
    have q7':Nx ys H7:=q7;obtain⟨m',hm,w7⟩:=hN _ _ q7';obtain⟨ha7,hd7⟩:=atD I7;obtain⟨st7,fr7⟩:=keepT I7;exact⟨m',hm,i+1,ys,t,H7,Y (I7.pins_of λp R=>absurd R (by simp)),st7,fr7,ha7,hd7,rv3,w7⟩
   |true=>
    obtain⟨hsz,q7'⟩:ys.length≤sizeLine∧te σ6 H7 (λy H5=>Nx (ys ++ [y]) H5):=q7;show wpAny _ _ (eval elt _) _ _ s7;refine aS (wpAny_noRaise (he _ _ _ s7 σ6 H7 _ I7 q7')) λyv s8 hZ98=>?_;obtain⟨y,H8,I8,r8,q8⟩:=hZ98;obtain⟨ha8,hd8⟩:=atD I8;obtain⟨st8,fr8⟩:=keepT I8;refine append_at ha8 (λh9 sb hD9=>?_) (by rw[size_toArray,←rv3.length];exact hsz);obtain⟨m',hm,w8⟩:=hN _ _ q8;have I8':Inv (X.comp s H scope H2.objs.size N fp) [] (fm caps σ) H8 s8:=Y (I8.pins_of λp R=>absurd R (by simp));have dD:=statD hd8;refine⟨m',hm,i+1,ys ++ [y],t ++ [yv],H8,I8'.turned (t':=s8.toks) (λb o B e=>(sb.2 b B).trans e) hd8 dD.2.1 dD.2.2.2.1 dD.2.2.2.2.1 dD.2.2.2.2.2,T.keep _ _ _ st8 λb B o e=>(sb.2 b (ne_of_lt (Z b B))).trans e,fr8,?_,hd8,rv3.append (.cons r8 .nil),w8⟩;rw[hD9,wB]
 exact codeAny_compStart_list (loop _ rfl) (T.self X.A 0 _ _ _ U (loop _ rfl))
def vd {elt tg iter:Y1}{ifs:Zd}{pos:Yn}{wi:TI}{g:TG}{tc:TT}{te:TE}(hc:X.calm=true)(S:CompSc X scope N caps)(hi:PI X tg iter wi)(hg:∀s H C ex,PG (X.comp s H scope C N ex) tg g) (ho:jV caps g) (ht:∀s H C ex,Em (X.comp s H scope C N ex) ifs tc) (he:∀s H C ex,PE (X.comp s H scope C N ex) elt te)(hs:∀x,foldedSetIterable iter X.env x=pure x:=by intro _;rfl):PE X (.ListComp elt [⟨tg,iter,ifs,0⟩] scope pos) (zx wi caps g tc te):=by
 intro pins s σ H Q I h;rw[eval_ListComp];have hcl:closureFor scope X.env=pure (dI X.env.cells scope.names []):=jp λy hy hk=>I.ok.has y.1 (S.free y hy hk);refine wpAny_comprehension_free (use:=none) rfl hs hcl S.kind S.names (aS (hi pins s σ H _ I h) λv s1 h1=>aS h1 λitv s2 h2=>?_);obtain⟨it,fp,tn,J,H2,e,I2,T,st2,f2,W,⟨m0,w0⟩,turn⟩:=h2;subst e;refine mI (RR:=λacc C=>compPost (model X.prog X.w) X.A X.xe none (EP X pins σ Q) acc C) hc I2 S T st2 f2 (hg _ _) ho (ht _ _) (he _ _) W m0 w0 turn ?_;intro D C s' m H' hn I' fC q;exact⟨m,hn,λh' sb=>⟨.ref D,H',I'.turned (t':=s'.toks) (λb o hb e=>(sb.2 b hb).trans e) fC.1 fC.2.1 fC.2.2.2.1 fC.2.2.2.2.1 fC.2.2.2.2.2,rfl,q⟩⟩
def nD {elt tg iter:Y1}{ifs:Zd}{pos py spos:Yn}{wi:TI}{g:TG}{tc:TT}{te:TE}{i:Nat}(hN:X.N.Nodup)(hi:X.N[i]?=some y)(hy:X.env.scope.names.lookup y=some .local)(hc:X.calm=true) (S:CompSc X scope N caps) (hit:PI X tg iter wi)(hg:∀s H C ex,PG (X.comp s H scope C N ex) tg g) (ho:jV caps g) (ht:∀s H C ex,Em (X.comp s H scope C N ex) ifs tc) (he:∀s H C ex,PE (X.comp s H scope C N ex) elt te)(hsw:swapsWith (.ListComp elt [⟨tg,iter,ifs,0⟩] scope pos) (some (.Name y py)) spos.line X.env=pure true:=by rfl)(hs:∀x,foldedSetIterable iter X.env x=pure x:=by intro _;rfl):PS X (.Assign [.Name y py] (.ListComp elt [⟨tg,iter,ifs,0⟩] scope pos) spos) (sN (zx wi caps g tc te) (cn i)):=by
 intro p s σ H D I h;have hcl:closureFor scope X.env=pure (dI X.env.cells scope.names []):=jp λy hy hk=>I.ok.has y.1 (S.free y hy hk);rw[exec_Assign_Name_used _ _ _ _ hsw];refine Zx (wpAny_standAt (Zx ?_));show wpAny _ X.A (do let _ ←comprehension (.ListComp elt [⟨tg,iter,ifs,0⟩] scope pos) scope X.env _ (newList []) false (eval iter X.env) (some (assign (.Name y py) X.env))) _ _ s
 refine Zx (wpAny_mono (wpAny_comprehension_free (use:=some (assign (.Name y py) X.env)) (Q:=λ_ s'=>SP X p D .next s') rfl hs hcl S.kind S.names
  (aS (hit p s σ H _ I h) λv s1 h1=>aS h1 λitv s2 h2=>?_)) (λ_ s' hq=>Zp (Zp hq)) λ_ _ e=>e)
 obtain⟨it,fp,tn,J,H2,e,I2,T,st2,f2,W,⟨m0,w0⟩,turn⟩:=h2;subst e;refine mI (RR:=λacc C=>compPost (model X.prog X.w) X.A X.xe (some (assign (.Name y py) X.env)) (λ_ s'=>SP X p D .next s') acc C) (Q:=λx H1=>cn i x σ H1 D.nx) hc I2 S T st2 f2 (hg _ _) ho (ht _ _) (he _ _) W m0 w0 turn ?_;intro Dd C s' m H' hn I' fC q;show wpAny _ _ (assign (.Name y py) X.env (.ref Dd)) _ _ s';refine wpAny_assign_Name (pG I' (i:=i) hN hi (.inl hy) (v:=.ref Dd) rfl (λs5 I5 hZ99=>?_) (.inr hy));obtain⟨a,sb,ha⟩:=hZ99;have ha':a≠C:=by
  rcases ha with z|z
  ·rw[z];exact Ne.symm fC.2.1
  ·exact fC.2.2.2.2.1 _ _ z
 refine⟨m,hn.sameBut sb (Ne.symm ha'),λh' sb2=>⟨_,H',I5.turned (t':=s5.toks) (λb o hb e=>(sb2.2 b hb).trans e) fC.1 fC.2.1 fC.2.2.2.1 fC.2.2.2.2.1 fC.2.2.2.2.2,q⟩⟩
end
section
variable{X:Cx}
end
section
variable{X:Cx}{pins:Z9}{σ:St}{H:Hp}{s:Shared}
structure ExcK (K:Z8)(D:Zz):Prop where
 ga:W.findIn K (.ref D) "__getattribute__" =some (some (.builtin "BaseException.__getattribute__"))
 gh:W.findIn K (.ref D) "__getattr__" =some none
 ha:W.findIn K (.ref D) "__class__" =some (some (.builtin "object.__class__"))
 hn:W.specialIn K (.builtin "object.__class__") "__get__" =some (some (.builtin "getset_descriptor.__get__"))
 htk:W.takesIn K (.builtin "object.__class__")=some true
 hm:W.mroIn K D (.type "object")=some true
 hb:W.mroIn K D (.type "BaseException")=some true
 hc:(W.clsIn K D).isSome=true
def ot (e D:Zz)(h:Y5):Prop:=∃o,h.get? e=some o∧o.cls= .ref D
def iO {e D:Zz}{M:Model}{h:Y5}(p:ot e D h):W.Looks M h (typeOf (.ref e)) (.ref D):=by
 obtain⟨o,h1,h2⟩:=p;exact h2 ▸ (W.Looks.ld h1).andThen .now
end
end L2
namespace PySem.W
open PySem PySem.Spec PySem.Calls PyProof.Rows Builtin Builtin.ObjectAttr Builtin.Getset_descriptor
section
variable{prog:Zv}{w:Zn}{A:Zl}{E:Z5}{s:Z3}{K:Frag}{x C:Addr}
def n_ {R:Yt}{tp:Zc}(X:K.In s.heap)(I:L2.ot x C s.heap)(hm:mroIn K C (.type "object")=some true)(h:R (.ok (.ret (.ref C))) s):codeAny (model prog w) A (.call (.builtin "getset_descriptor.__get__") ⟨[.builtin "object.__class__",.ref x,tp],[]⟩) R s:=by
 obtain⟨hh,g,dr,t,os⟩:=s;have L0:=L2.iO (M:=model prog w) I;have L1:=looks_mroIn (M:=model prog w) X hm;refine codeAny_call_builtin KF.slot_gs.plain KF.entry_gs (KF.slot_gs.check _ _ _ _ _ _ _ _ KF.type_class (KF.args_gs _ _ _) ?_);unfold Builtin.«getset_descriptor.__get__» descrGet;rw[dga_obj];refine Zx (Zp ?_);unfold descrGetter descrCheckInstance descrNameAndClass isInstance;simp only[KF.owner_class]
 repeat lk
 refine⟨Code.quiet_builtin _ (by decide +kernel),codeAny_builtin KF.entry_class ?_⟩;unfold Builtin.«object.__class__» shownTypeOf
 repeat lk
 exact h
def xL {M:Model}(X:K.In s.heap)(k:L2.ExcK K C):Looks M s.heap (find (.ref x) (.ref C) "__class__") (.bind (.builtin "getset_descriptor.__get__") (.builtin "object.__class__")):=by
 have L1:=looks_findIn (M:=M) X k.ha;have L2:Looks M s.heap (getOf (some (.builtin "object.__class__"))) (some (.builtin "getset_descriptor.__get__")):=looks_specialIn X k.hn;have L3:=looks_takesIn (M:=M) X k.htk;exact L1.andThen (L2.andThen ((show Looks M s.heap (dataDescriptor? (some (.builtin "object.__class__")) (some (.builtin "getset_descriptor.__get__"))) (some (.builtin "getset_descriptor.__get__",.builtin "object.__class__")) from L3.andThen .now).andThen (Looks.tag .now)))
def v8 {tk:Tok}{Q:PySem.Fin→Shared→Prop}(X:K.In s.heap)(I:L2.ot x C s.heap)(k:L2.ExcK K C)(h:Q (.done (.ret (.ref C))) s) :
  wpAny (model prog w) A (Builtin.«object.__getattribute__» ⟨[.ref x,.str "__class__" tk],[]⟩) Q E s:=by
 obtain⟨hh,g,d,t,os⟩:=s;have L0:=L2.iO (M:=model prog w) I;have LF:=xL (M:=model prog w) (x:=x) X k;unfold Builtin.«object.__getattribute__»;refine Zx (Zp ?_);refine Zx (Zp ?_);refine Zx (L0.at (Zx (LF.at ?_)));show wpAny _ _ (holding [.builtin "object.__class__"] (call (.builtin "getset_descriptor.__get__") [.builtin "object.__class__",.ref x,.ref C]) >>= λv=>ret v) _ _ _;refine Zx (wpAny_holding (wpAny_call (n_ (s:=⟨hh,g,d,t,os⟩) X I k.hm ?_)));exact Zp h
def v6 {M:Model}{nameV:Zc}{Q:Unit→Shared→Prop}(X:K.In s.heap)(I:L2.ot x C s.heap)(k:L2.ExcK K C)(hq:Q () s):wpAny M A (checkBuiltinCall "BaseException.__getattribute__" ⟨[.ref x,nameV],[]⟩) Q E s:=by
 obtain⟨hh,g,d,t,os⟩:=s;have L0:=L2.iO (M:=M) I;have L3:=looks_mroIn (M:=M) X k.hb;have hk:builtinKind "BaseException.__getattribute__" =some .slot:=by decide +kernel
 have o:splitId "BaseException.__getattribute__" =some ("BaseException","__getattribute__"):=by decide +kernel
 have hargs:=PySem.F.args_bexc_ga (.ref x) nameV;simp only[checkBuiltinCall,hk,o];refine Zx ?_;unfold isInstance;refine Zx (L0.at (L3.at ?_));simp only[if_true,Bool.not_true,false_eq_true,if_false]
 repeat (first|assumption|wp_step)
def exc_class {Q:Option Value→Shared→Prop}(X:K.In s.heap)(I:L2.ot x C s.heap)(k:L2.ExcK K C)(h:Q (some (.ref C)) {s with toks:=s.toks+1}):wpAny (model prog w) A (getAttr? (.ref x) "__class__") Q E s:=by
 obtain⟨hh,g,d,t,os⟩:=s;have L0:=L2.iO (M:=model prog w) I;have L1:=looks_findIn (M:=model prog w) X k.ga;have L2':=looks_findIn (M:=model prog w) X k.gh;unfold getAttr? getAttrBy? getAttrBy;refine Zx (wpAny_mkText (Zx (wpAny_attempt (wpAny_holding (Zx (L0.at (Zx (L1.at ?_))))))));dsimp only;have hx:(onTheHeap (Value.ref C)&&Value.builtin "BaseException.__getattribute__"==Value.builtin "object.__getattribute__")=false:=by
  have hx2:(Value.builtin "BaseException.__getattribute__"==Value.builtin "object.__getattribute__")=false:=by decide +kernel
  rw[hx2];rfl
 rw[hx];rw[Yi Bool.false_ne_true];have f3:=PySem.F.excAttr_ValueError.ga.bind (.ref x);unfold getAttrByItsOwn;refine Zx ?_;show wpAny _ _ (typeLookup (.ref C) "__getattr__") _ _ _;refine L2'.at ?_;refine Zx (wpAny_attempt (wpAny_holding ?_));show wpAny _ _ (bindSpecial (.builtin "BaseException.__getattribute__") (.ref x) >>= λp=>call p.1 (p.2 ++ [.str "__class__" t])) _ _ _;refine Zx (wpAny_of_eq f3 ?_);show wpAny _ _ (call (.builtin "BaseException.__getattribute__") [.ref x,.str "__class__" t]) _ _ _;refine wpAny_call (codeAny_call_builtin PySem.F.excAttr_ValueError.ga.plain PySem.F.entry_bexc_ga ?_);refine v6 (s:=⟨hh,g,d,t+1,os⟩) X I k ?_;refine v8 (s:=⟨hh,g,d,t+1,os⟩) X I k ?_;exact handed_on rfl (Zp h)
end
end PySem.W
namespace L2
open PySem PySem.Spec PyProof.Rows
def yd {K:Z8}{e D:Zz}(k:ExcK K D):W.KitX K (.ref e) (.ref D) (ot e D) where
 ty:=λ_ _ _ p=>iO p
 it:=λ_ _ X _=>by
  have hc:=k.hc;unfold W.clsIn at hc;split at hc
  ·rename_i c' d' cd' sl' ho;intro A' Q' E' s' k q;unfold isType loadHead;exact Zx (wpAny_loadPart (k _ _ (X _ _ ho)) (Zp q))
  ·cases hc
 ne:=λh tp dd its n sl X htp=>by
  have hc:=k.hc;refine Bool.eq_false_iff.mpr λq=>?_;have e:D=tp:=Value.ref.inj (beq_iff_eq.mp q);subst e;unfold W.clsIn at hc;split at hc
  ·rename_i c' d' cd' sl' ho;have z:=(X _ _ ho).symm.trans htp;cases z
  ·cases hc
 ca:=λX I h=>W.exc_class X I k h
section
variable{X:Cx}{pins:Z9}{σ:St}{H:Hp}{s:Shared}
def cV:V→Value
 |.ref a=>.ref a
 |.ty n=>.type n
 |_=>.none
def Cr {v:V}(h:RelV v u)(hv:cV v≠ .none):u=cV v:=by
 cases v with
 |ref a=>exact h
 |ty n=>exact h
 |_=>exact absurd rfl hv
end
inductive D where
 |non|bl (b:Bool)|int (i:Int)|str (x:Str)|lst (l:List D)|tup (l:List D)
 |ins (C:Zz) (ns:Zw) (l:List D)
 |dct (ks:List (List bD)) (l:List D)
 |scr (ns:List Int)
 |xc (C:Addr)
 |fdc (ks:List (List bD)) (l:List D)
inductive Res (α:Type) where
 |ok (a:α)|exc (c:Addr)|bad
def Res.bind {α β:Type}:Res α→(α→Res β)→Res β
 |.ok a,f=>f a
 |.exc c,_=>.exc c
 |.bad,_=>.bad
structure LsS (K:Z8)(G:Hp)(a:Zz)(xs:List V):Prop where
 h:G a=some (.lst xs)
def LsS.of {K:Z8}{G:Hp}{xs:List V}(h:G a=some (.lst xs)):LsS K G a xs:=⟨h⟩
def LsS.sq {K:Z8}{G:Hp}{xs:List V}(h:LsS K G a xs):f_ K G a xs:=.inl (.inl h.h)
structure TpS (K:Z8)(G:Hp)(a:Zz)(xs:List V):Prop where
 h:G a=some (.tup xs)
def TpS.of {K:Z8}{G:Hp}{xs:List V}(h:G a=some (.tup xs)):TpS K G a xs:=⟨h⟩
def TpS.sq {K:Z8}{G:Hp}{xs:List V}(h:TpS K G a xs):lT K G a xs:=.inl (.inl h.h)
instance {K:Z8}{G:Hp}{a:Zz}{xs:List V}:Coe (TpS K G a xs) (lT K G a xs):=⟨TpS.sq⟩
mutual
def Rep (K:Z8)(G:Hp):D→V→Prop
 |.non,v=>v= .non
 |.bl b,v=>v= .bl b
 |.int i,v=>v= .int i
 |.str x,v=>v= .str x
 |.lst ds,v=>∃a xs,v= .ref a∧LsS K G a xs∧RepL K G ds xs
 |.tup ds,v=>∃a xs,v= .ref a∧TpS K G a xs∧RepL K G ds xs
 |.ins C ns ds,v=>∃a dx fs,v= .ref a∧G a=some (.ins C dx fs)∧fs.map (·.1)=ns∧RepL K G ds (fs.map (·.2))
 |.dct ks ds,v=>∃a kvs,v= .ref a∧Rd G a (.dT kvs)∧kvs.map (·.1)=ks∧RepL K G ds (kvs.map (·.2))
 |.scr ns,v=>∃a,v= .ref a∧f_ K G a (ns.map V.int)
 |.xc C,v=>∃a,v= .ref a∧G a=some (Ce a (.ref C))∧ExcK K C
 |.fdc ks ds,v=>∃a o kvs,v= .ref a∧G a=some (.frz o (.dT kvs))∧kvs.map (·.1)=ks∧RepL K G ds (kvs.map (·.2))
def RepL (K:Z8)(G:Hp):List D→List V→Prop
 | [],vs=>vs=[]
 |d::ds,vs=>∃v r,vs=v::r∧Rep K G d v∧RepL K G ds r
end
def Same.seqT {K:Z8}{H H':Hp}{xs:List V}(e:Same H H')(h:lT K H a xs):lT K H' a xs:=by
 rcases h with (h|⟨o,h⟩)|h
 ·exact .inl (.inl (e _ _ h))
 ·exact .inl (.inr ⟨o,e _ _ h⟩)
 ·exact .inr h
mutual
theorem Rep.mono {K:Z8}{G G':Hp}(e:Same G G'):∀{d:D} {v:V},Rep K G d v→Rep K G' d v
 |.non,_,h=>h
 |.bl _,_,h=>h
 |.int _,_,h=>h
 |.str _,_,h=>h
 |.lst _,_,h=>by
  unfold Rep at h ⊢;obtain⟨a,xs,r,s,t⟩:=h;exact⟨a,xs,r,⟨e _ _ s.h⟩,RepL.mono e t⟩
 |.tup _,_,h=>by
  unfold Rep at h ⊢;obtain⟨a,xs,r,s,t⟩:=h;exact⟨a,xs,r,⟨e _ _ s.h⟩,RepL.mono e t⟩
 |.ins _ _ _,_,h=>by
  unfold Rep at h ⊢;obtain⟨a,dx,fs,r,s,n,t⟩:=h;exact⟨a,dx,fs,r,e _ _ s,n,RepL.mono e t⟩
 |.dct _ _,_,h=>by
  unfold Rep at h ⊢;obtain⟨a,kvs,r,s,n,t⟩:=h;refine⟨a,kvs,r,?_,n,RepL.mono e t⟩
  rcases s with s|⟨o,s⟩
  ·exact .inl (e _ _ s)
  ·exact .inr ⟨o,e _ _ s⟩
 |.scr _,_,h=>by
  unfold Rep at h ⊢;obtain⟨a,r,s⟩:=h;exact⟨a,r,e.seq s⟩
 |.xc _,_,h=>by
  unfold Rep at h ⊢;obtain⟨a,r,s,k⟩:=h;exact⟨a,r,e _ _ s,k⟩
 |.fdc _ _,_,h=>by
  unfold Rep at h ⊢;obtain⟨a,o,kvs,r,s,n,t⟩:=h;exact⟨a,o,kvs,r,e _ _ s,n,RepL.mono e t⟩
theorem RepL.mono {K:Z8}{G G':Hp}(e:Same G G'):∀{ds:List D} {vs:List V},RepL K G ds vs→RepL K G' ds vs
 | [],_,h=>h
 |_::_,_,h=>by
  unfold RepL at h ⊢;obtain⟨v,r,q,a,b⟩:=h;exact⟨v,r,q,Rep.mono e a,RepL.mono e b⟩
end
theorem RepL.length {K:Z8}{G:Hp}:∀{ds:List D} {vs:List V},RepL K G ds vs→ds.length=vs.length
 | [],vs,h=>by unfold RepL at h;rw[h];rfl
 |d::ds,vs,h=>by
  unfold RepL at h;obtain⟨v,r,rfl,_,b⟩:=h;rw[length_cons,length_cons,RepL.length b]
def RepL.nil {K:Z8}{G:Hp}:RepL K G [] []:=by unfold RepL;rfl
def RepL.cons {K:Z8}{G:Hp}{d:D}{v:V}{ds:List D}{vs:List V}(a:Rep K G d v)(b:RepL K G ds vs):RepL K G (d::ds) (v::vs):=by unfold RepL;exact⟨v,vs,rfl,a,b⟩
def RepL.inv {K:Z8}{G:Hp}{d:D}{ds:List D}{vs:List V}(h:RepL K G (d::ds) vs):∃v r,vs=v::r∧Rep K G d v∧RepL K G ds r:=by unfold RepL at h;exact h
def RepL.inv0 {K:Z8}{G:Hp}{vs:List V}(h:RepL K G [] vs):vs=[]:=by unfold RepL at h;exact h
theorem RepL.append {K:Z8}{G:Hp}:∀{ds es:List D} {vs ws:List V},RepL K G ds vs→RepL K G es ws→RepL K G (ds ++ es) (vs ++ ws)
 | [],_,_,_,h,h'=>by rw[h.inv0];exact h'
 |_::_,_,_,_,h,h'=>by
  obtain⟨v,r,rfl,a,b⟩:=h.inv;exact .cons a (RepL.append b h')
theorem RepL.get {K:Z8}{G:Hp}:∀{ds:List D} {vs:List V} {i:Nat} {d:D},RepL K G ds vs→ds[i]?=some d→∃v,vs[i]?=some v∧Rep K G d v
 | [],_,_,_,_,e=>by simp at e
 |_::_,_,0,_,h,e=>by
  obtain⟨v,r,rfl,a,b⟩:=h.inv;simp at e;subst e;exact⟨v,rfl,a⟩
 |_::_,_,i+1,_,h,e=>by
  obtain⟨v,r,rfl,a,b⟩:=h.inv;obtain⟨w,h1,h2⟩:=RepL.get (i:=i) b (by simpa using e);exact⟨w,by simpa using h1,h2⟩
theorem RepL.take {K:Z8}{G:Hp}:∀{ds:List D} {vs:List V} (n:Nat),RepL K G ds vs→RepL K G (ds.take n) (vs.take n)
 |_,_,0,_=>by simpa using RepL.nil
 | [],_,_+1,h=>by rw[h.inv0];simpa using RepL.nil
 |_::_,_,n+1,h=>by
  obtain⟨v,r,rfl,a,b⟩:=h.inv;exact .cons a (RepL.take n b)
theorem RepL.drop {K:Z8}{G:Hp}:∀{ds:List D} {vs:List V} (n:Nat),RepL K G ds vs→RepL K G (ds.drop n) (vs.drop n)
 |_,_,0,h=>h
 | [],_,_+1,h=>by rw[h.inv0];simpa using RepL.nil
 |_::_,_,n+1,h=>by
  obtain⟨v,r,rfl,a,b⟩:=h.inv;exact RepL.drop n b
theorem RepL.reverse {K:Z8}{G:Hp}:∀{ds:List D} {vs:List V},RepL K G ds vs→RepL K G ds.reverse vs.reverse
 | [],_,h=>by rw[h.inv0];simpa using RepL.nil
 |_::_,_,h=>by
  obtain⟨v,r,rfl,a,b⟩:=h.inv;rw[reverse_cons,reverse_cons];exact(RepL.reverse b).append (.cons a .nil)
theorem RepL.ints {K:Z8}{G:Hp}:∀{ns:Z2} {vs:List V},RepL K G (ns.map D.int) vs→vs=ns.map V.int
 | [],_,h=>h.inv0
 |n::ns,_,h=>by
  obtain⟨v,r,rfl,a,b⟩:=RepL.inv (by simpa using h);rw[RepL.ints b];have a':v= .int n:=by unfold Rep at a;exact a
  rw[a'];rfl
theorem RepL.of_ints {K:Z8}{G:Hp}:∀(ns:List Int),RepL K G (ns.map D.int) (ns.map V.int)
 | []=>.nil
 |n::ns=>.cons (by unfold Rep;rfl) (RepL.of_ints ns)
def mZ (o:HO):Prop:=∃ks:List bD,o= .tup (ks.map kV)
structure Ext (G H G' H':Hp):Prop where
 hh:Same H H'
 gg:Same G G'
 gh:Same G' H'
 nw:∀b o,G' b=some o→G b=some o∨H b=none∨mZ o
def Ext.refl {G H:Hp}(s:Same G H):Ext G H G H:=⟨.refl _,.refl _,s,λ_ _ h=>.inl h⟩
def Ext.trans {G H G1 H1 G2 H2:Hp}(a:Ext G H G1 H1)(b:Ext G1 H1 G2 H2):Ext G H G2 H2:=
 ⟨a.hh.trans b.hh,a.gg.trans b.gg,b.gh,λc o h=>(b.nw c o h).elim (λz=>a.nw c o z) λz=>.inr (z.imp a.hh.free id)⟩
def Ext.new {G H:Hp}(s:Same G H){p:Zz}(hp:H p=none)(o:HO):Ext G H (bc G p o) (bc H p o):=
 ⟨λb u e=>by rw[aj (aB e hp)];exact e,λb u e=>by rw[aj (aB (s b u e) hp)];exact e,
  λb u e=>by
   by_cases hb:b=p
   ·subst hb;rw[ao]at e ⊢;exact e
   ·rw[aj hb]at e ⊢;exact s b u e,
  λb u e=>by
   by_cases hb:b=p
   ·subst hb;exact .inr (.inl hp)
   ·rw[aj hb]at e;exact .inl e⟩
def OkR {α:Type}(E:XK)(H:Hp):Res α→Prop
 |.ok _=>True
 |.exc c=>∀H',Same H H'→E (.ref c) none H'
 |.bad=>False
def OkR.fst {α β:Type}{E:XK}{H:Hp}{x:Res α}{f:α→Res β}(h:OkR E H (x.bind f)):OkR E H x:=by
 cases x with
 |ok a=>trivial
 |exc c=>exact h
 |bad=>exact h
def OkR.snd {α β:Type}{E:XK}{H H1:Hp}{x:Res α}{f:α→Res β}{a:α}(h:OkR E H (x.bind f))(e:x= .ok a)(s:Same H H1):OkR E H1 (f a):=by
 subst e;have h':OkR E H (f a):=h;cases q:f a with
 |ok b=>trivial
 |exc c=>rw[q]at h';exact λH' s'=>h' H' (s.trans s')
 |bad=>rw[q]at h';exact h'
def OkR.le {α:Type}{E:XK}{H H1:Hp}{x:Res α}(h:OkR E H x)(s:Same H H1):OkR E H1 x:=by
 cases x with
 |ok b=>trivial
 |exc c=>exact λH' s'=>h H' (s.trans s')
 |bad=>exact h
def al {α β:Type}{x:Res α}{f:α→Res β}{a:α}{b:β}(e:x= .ok a)(h:f a= .ok b):x.bind f= .ok b:=by subst e;exact h
abbrev DS:=List (Option D)
def Ro (K:Z8)(G:Hp)(σ:St)(ρ:DS):Prop:=∀(i:Nat) (d:D),ρ[i]?=some (some d)→∃v,σ[i]?=some (some v)∧Rep K G d v
def Ro.mono {K:Z8}{G G':Hp}{σ:St}{ρ:DS}(h:Ro K G σ ρ)(s:Same G G'):Ro K G' σ ρ:=λi d e=>let ⟨v,a,b⟩:=h i d e;⟨v,a,b.mono s⟩
def Ro.nil {K:Z8}{G:Hp}{σ:St}:Ro K G σ []:=λi d e=>by simp at e
def Ro.cons {K:Z8}{G:Hp}{σ:St}{ρ:DS}{v:V}{d:D}(a:Rep K G d v)(h:Ro K G σ ρ):Ro K G (some v::σ) (some d::ρ):=λi e q=>by
 cases i with
 |zero=>simp at q;subst q;exact⟨v,rfl,a⟩
 |succ i=>simpa using h i e (by simpa using q)
def Ro.skip {K:Z8}{G:Hp}{σ:St}{ρ:DS}{o:Option V}(h:Ro K G σ ρ):Ro K G (o::σ) (none::ρ):=λi e q=>by
 cases i with
 |zero=>simp at q
 |succ i=>simpa using h i e (by simpa using q)
inductive DQ (X:Cx)(pins:Z9)(σ:St)(G H:Hp)(o:Res D)(u:Zc)(s':Z3):Prop
 |mk (d:D) (e:o= .ok d) (v:V) (G' H':Hp) (i:Inv X pins σ H' s') (r:RelV v u) (x:Ext G H G' H') (p:Rep X.K G' d v)
inductive DAQ (X:Cx)(pins:Z9)(σ:St)(G H:Hp)(o:Res (List D))(us:Z1)(s':Z3):Prop
 |mk (ds:List D) (e:o= .ok ds) (vs:List V) (G' H':Hp) (i:Inv X pins σ H' s') (r:Vals vs us) (x:Ext G H G' H') (p:RepL X.K G' ds vs)
inductive DTQ (X:Cx)(pins:Z9)(σ:St)(G H:Hp)(o:Res Bool)(b:Bool)(s':Z3):Prop
 |mk (e:o= .ok b) (G' H':Hp) (i:Inv X pins σ H' s') (x:Ext G H G' H')
def PD (X:Cx)(E:XK)(e:Y1)(f:DS→Res D):Prop:=
 ∀(pins:Z9) (s:Z3) (σ:St) (G H:Hp) (ρ:DS),Inv X pins σ H s→Same G H→Ro X.K G σ ρ→OkR E H (f ρ)→
  wpAny (model X.prog X.w) X.A (eval e X.env) (DQ X pins σ G H (f ρ)) X.xe s
def lP (X:Cx)(E:XK)(es:Zd)(f:DS→Res (List D)):Prop:=
 ∀(pos:Yn) (pins:Z9) (s:Z3) (σ:St) (G H:Hp) (ρ:DS),Inv X pins σ H s→Same G H→Ro X.K G σ ρ→OkR E H (f ρ)→
  wpAny (model X.prog X.w) X.A (spliced (backTo pos (starEach es X.env))) (DAQ X pins σ G H (f ρ)) X.xe s
def s9 (X:Cx)(E:XK)(e:Y1)(f:DS→Res Bool):Prop:=
 ∀(pins:Z9) (s:Z3) (σ:St) (G H:Hp) (ρ:DS),Inv X pins σ H s→Same G H→Ro X.K G σ ρ→OkR E H (f ρ)→
  wpAny (model X.prog X.w) X.A (isTrue e X.env (eval e X.env)) (DTQ X pins σ G H (f ρ)) X.xe s
def PDW (X:Cx)(E:XK)(e:Y1)(f:DS→Res Bool):Prop:=
 ∀(whole:Sem Value) (pins:Z9) (s:Z3) (σ:St) (G H:Hp) (ρ:DS),Inv X pins σ H s→Same G H→Ro X.K G σ ρ→OkR E H (f ρ)→
  wpAny (model X.prog X.w) X.A (isTrue e X.env whole) (DTQ X pins σ G H (f ρ)) X.xe s
def PDW.pt {X:Cx}{E:XK}{f:DS→Res Bool}(h:PDW X E e f):s9 X E e f:=h _
inductive tD (K:Z8)(E:XK)(f:DS→Res D)(σ:St)(H:Hp)(Q:VK):Prop
 |mk (G:Hp) (ρ:DS) (s:Same G H) (r:Ro K G σ ρ) (o:OkR E H (f ρ)) (k:∀d,f ρ= .ok d→∀v G' H',Ext G H G' H'→Rep K G' d v→Q v H')
def dP {X:Cx}{E:XK}{f:DS→Res D}(h:PD X E e f):PE X e (tD X.K E f):=by
 intro pins s σ H Q I hZ4;obtain⟨G,ρ,hs,hr,ho,k⟩:=hZ4;refine aS (h pins s σ G H ρ I hs hr ho) λu s' hZ100=>(by obtain⟨d,e,v,G',H',I',rv,x,rp⟩:=hZ100;exact⟨v,H',I',rv,k d e v G' H' x rp⟩)
inductive tDT (K:Z8)(E:XK)(f:DS→Res Bool)(σ:St)(H:Hp)(Q:Bool→Hp→Prop):Prop
 |mk (G:Hp) (ρ:DS) (s:Same G H) (r:Ro K G σ ρ) (o:OkR E H (f ρ)) (k:∀b,f ρ= .ok b→∀G' H',Ext G H G' H'→Q b H')
def F_ {X:Cx}{E:XK}{f:DS→Res Bool}(h:s9 X E e f):PT X e (tDT X.K E f):=by
 intro pins s σ H Q I hZ5;obtain⟨G,ρ,hs,hr,ho,k⟩:=hZ5;refine aS (h pins s σ G H ρ I hs hr ho) λb s' hZ101=>(by obtain⟨e,G',H',I',x⟩:=hZ101;exact⟨H',I',k b e G' H' x⟩)
inductive tDA (K:Z8)(E:XK)(f:DS→Res (List D))(σ:St)(H:Hp)(Q:List V→Hp→Prop):Prop
 |mk (G:Hp) (ρ:DS) (s:Same G H) (r:Ro K G σ ρ) (o:OkR E H (f ρ)) (k:∀ds,f ρ= .ok ds→∀vs G' H',Ext G H G' H'→RepL K G' ds vs→Q vs H')
def ii {X:Cx}{E:XK}{f:DS→Res (List D)}(h:lP X E es f):PA X es (tDA X.K E f):=by
 intro pos pins s σ H Q I hZ6;obtain⟨G,ρ,hs,hr,ho,k⟩:=hZ6;refine aS (h pos pins s σ G H ρ I hs hr ho) λus s' hZ102=>(by obtain⟨ds,e,vs,G',H',I',rv,x,rp⟩:=hZ102;exact⟨vs,H',I',rv,k ds e vs G' H' x rp⟩)
section
variable{X:Cx}{E:XK}
def DL {i:Nat}{pos:Yn}(hN:X.N[i]?=some x)(hv:tm X.env.scope x)(hd:zQ1 x:=by decide)(hcd:(x==("__classdict__" :Str))=false:=by decide) :
  PD X E (.Name x pos) (λρ=>match ρ[i]? with|some (some d)=>.ok d|_=>.bad):=by
 intro pins s σ G H ρ I hs hr ho;cases e:ρ[i]? with
 |none=>simp only[e]at ho;exact ho.elim
 |some o=>
  cases o with
  |none=>simp only[e]at ho;exact ho.elim
  |some d=>
   obtain⟨v,hv',rp⟩:=hr i d e;exact aS (eh hN hv hd hcd pins s σ H (λv' H'=>H'=H∧v'=v) I ⟨v,hv',rfl,rfl⟩) λu s' hZ103=>by
    obtain⟨v',H',I',r,e1,e2⟩:=hZ103;subst e1 e2;exact⟨d,by simp only[e],v',G,H',I',r,.refl hs,rp⟩
def ki {t:TE}{d:D}(h:PE X e t)(ht:∀σ H,t σ H λv H'=>H'=H∧∀G,Rep X.K G d v):PD X E e (λ_=>.ok d):=by
 intro pins s σ G H ρ I hs hr ho;refine aS (h pins s σ H _ I (ht σ H)) λu s' hZ104=>?_;obtain⟨v,H',I',r,e1,e2⟩:=hZ104;subst e1;exact⟨d,rfl,v,G,H',I',r,.refl hs,e2 G⟩
def af {i j pos}:PD X E (.Constant (.int i) j pos) (λ_=>.ok (.int i)):=ki yJ λ_ _=>⟨rfl,λ_=>by unfold Rep;rfl⟩
def dC {b j pos}:PD X E (.Constant (.bool b) j pos) (λ_=>.ok (.bl b)):=ki Fi λ_ _=>⟨rfl,λ_=>by unfold Rep;rfl⟩
def yE {j pos}:PD X E (.Constant .none j pos) (λ_=>.ok .non):=ki DO λ_ _=>⟨rfl,λ_=>by unfold Rep;rfl⟩
def qF {x j pos}:PD X E (.Constant (.str x) j pos) (λ_=>.ok (.str x)):=ki DR λ_ _=>⟨rfl,λ_=>by unfold Rep;rfl⟩
def yA {i:Int}(hg:Gl X x)(hm:X.mg x=some u)(r:∃t,u= .int i t)(hd:zQ1 x:=by decide):PD X E (.Name x pos) (λ_=>.ok (.int i)):=
 ki (A7 (v:=.int i) hg hm r hd) λ_ _=>⟨rfl,λ_=>by unfold Rep;rfl⟩
def ae:lP X E [] (λ_=>.ok []):=λ_ _ _ _ G H _ I hs _ _=>Calls.spliced_nil ⟨[],rfl,[],G,H,I,.nil,.refl hs,.nil⟩
def aa {f:DS→Res D}{g:DS→Res (List D)}(ha:PD X E e f)(hr:lP X E es g)(hs:zQ2 X e es:=by rfl) :
  lP X E (e::es) (λρ=>(f ρ).bind λd=>(g ρ).bind λds=>.ok (d::ds)):=by
 intro pos pins s σ G H ρ I hsm hro ho;have key:PA X (e::es) (vB (tD X.K E f) (tDA X.K E g)):=cf (dP ha) (ii hr) hs;refine aS (key pos pins s σ H (λvs H'=>∃ds,((f ρ).bind λd=>(g ρ).bind λds=>.ok (d::ds))= .ok ds∧∃G',Ext G H G' H'∧RepL X.K G' ds vs) I ?_) λus s' hZ105=>(by obtain⟨vs,H',I',r,ds,e1,G',x,rp⟩:=hZ105;exact⟨ds,e1,vs,G',H',I',r,x,rp⟩);refine⟨G,ρ,hsm,hro,ho.fst,λd ed v G1 H1 x1 r1=>⟨G1,ρ,x1.gh,hro.mono x1.gg,(ho.snd ed x1.hh).fst,λds eds vs G2 H2 x2 r2=>⟨d::ds,al ed (al eds rfl),G2,x1.trans x2,.cons (r1.mono x2.gg) r2⟩⟩⟩
def DOp (X:Cx)(E:XK)(f:Value→Value→Sem Value)(g:D→D→Res D):Prop:=
 ∀(pins:Z9) (s:Z3) (σ:St) (G H:Hp) (x y:V) (dx dy:D) (v u:Value),Inv X pins σ H s→Same G H→Rep X.K G dx x→Rep X.K G dy y→RelV x v→RelV y u→OkR E H (g dx dy)→
  wpAny (model X.prog X.w) X.A (f v u) (DQ X pins σ G H (g dx dy)) X.xe s
def DOp.of {f:Value→Value→Sem Value}{r:R2}{g:D→D→Res D}(ho:pQ X f r)(h:∀(G H:Hp) (x y:V) (dx dy:D),Same G H→Rep X.K G dx x→Rep X.K G dy y→OkR E H (g dx dy)→r x y H (λv' H'=>∃d G',g dx dy= .ok d∧Ext G H G' H'∧Rep X.K G' d v')):DOp X E f g:=by
 intro pins s σ G H x y dx dy v u I hs rx ry rv ru ok;refine aS (ho pins s σ H x y v u _ I rv ru (h G H x y dx dy hs rx ry ok)) λw s' hZ106=>(by obtain⟨v',H',I',r',d,G',e,x',rp⟩:=hZ106;exact⟨d,e,v',G',H',I',r',x',rp⟩)
def ac (f:DS→Res D)(g:DS→Res D)(o:D→D→Res D):DS→Res D:=λρ=>(f ρ).bind λa=>(g ρ).bind λb=>o a b
def yG {fa fb:DS→Res D}(ha:PD X E a fa)(hb:PD X E b fb){op:Value→Value→Sem Value}{o:D→D→Res D}(hop:DOp X E op o){pins:Z9}{s:Z3}{σ:St}{G H:Hp}{ρ:DS}(I:Inv X pins σ H s)(hs:Same G H)(hro:Ro X.K G σ ρ)(ho:OkR E H (ac fa fb o ρ)) :
  wpAny (model X.prog X.w) X.A (eval a X.env) (λv s₁=>wpAny (model X.prog X.w) X.A (eval b X.env) (λu s₂=>wpAny (model X.prog X.w) X.A (op v u) (DQ X pins σ G H (ac fa fb o ρ)) X.xe s₂) X.xe s₁) X.xe s:=by
 refine aS (ha pins s σ G H ρ I hs hro ho.fst) λv s1 hZ107=>?_;obtain⟨d1,e1,v1,G1,H1,I1,r1,x1,p1⟩:=hZ107;refine aS (hb pins s1 σ G1 H1 ρ I1 x1.gh (hro.mono x1.gg) (ho.snd e1 x1.hh).fst) λu s2 hZ108=>?_;obtain⟨d2,e2,v2,G2,H2,I2,r2,x2,p2⟩:=hZ108;refine aS (hop pins s2 σ G2 H2 v1 v2 d1 d2 v u I2 x2.gh (p1.mono x2.gg) p2 r1 r2 ((ho.snd e1 x1.hh).snd e2 x2.hh)) λw s3 hZ109=>?_;obtain⟨d,e,v3,G3,H3,I3,r3,x3,p3⟩:=hZ109;exact⟨d,al e1 (al e2 e),v3,G3,H3,I3,r3,(x1.trans x2).trans x3,p3⟩
def aq {op:Operator}{fa fb:DS→Res D}{o:D→D→Res D}(hop:DOp X E (binaryOp op) o)(ha:PD X E a fa)(hb:PD X E b fb):PD X E (.BinOp a op b pos) (ac fa fb o):=
 λpins s σ G H ρ I hs hro ho=>wpAny_BinOp (yG ha hb hop I hs hro ho)
def ck (f:DS→Res D):DS→Res Bool:=λρ=>(f ρ).bind λd=>match d with|.bl b=>.ok b|_=>.bad
def aD {op:CmpOp}{fa fb:DS→Res D}{o:D→D→Res D}(hop:DOp X E (compareOp op) o)(ha:PD X E a fa)(hb:PD X E b fb)(hm:behindInMarks op b=false):s9 X E (.Compare a [op] [b] pos) (ck (ac fa fb o)):=by
 intro pins s σ G H ρ I hs hro ho;refine wpAny_isTrue_Compare1 (aS (yG ha hb hop I hs hro ho.fst) λv s1 h1=>aS h1 λu s2 h2=>aS h2 λc s3 hZ110=>?_) hm;obtain⟨d,e,v3,G3,H3,I3,r3,x3,p3⟩:=hZ110;have k:=ho.snd e (Same.refl H);cases d with
 |bl b=>
  unfold Rep at p3;subst p3;cases r3;exact wpAny_truthy_bool ⟨al e rfl,G3,H3,I3,x3⟩
 |_=>exact k.elim
def cP {f:DS→Res D}(h:PD X E e f)(he:∀whole,isTrue e X.env whole=(do let v ←whole;standAt e.pos;holding [v] (truthy v)):=by intro _;rfl):s9 X E e (ck f):=by
 intro pins s σ G H ρ I hs hro ho;refine isTrue_plain (aS (h pins s σ G H ρ I hs hro ho.fst) λv s1 hZ111=>?_) (he _);obtain⟨d,e,v3,G3,H3,I3,r3,x3,p3⟩:=hZ111;have k:=ho.snd e (Same.refl H);cases d with
 |bl b=>
  unfold Rep at p3;subst p3;cases r3;exact wpAny_truthy_bool ⟨al e rfl,G3,H3,I3,x3⟩
 |_=>exact k.elim
end
def rep_int {K:Z8}{G:Hp}{i:Int}{v:V}:Rep K G (.int i) v↔v= .int i:=by unfold Rep;exact Iff.rfl
def rep_bl {K:Z8}{G:Hp}{i:Bool}{v:V}:Rep K G (.bl i) v↔v= .bl i:=by unfold Rep;exact Iff.rfl
def rep_non {K:Z8}{G:Hp}{v:V}:Rep K G .non v↔v= .non:=by unfold Rep;exact Iff.rfl
def rep_str {K:Z8}{G:Hp}{v:V}:Rep K G (.str i) v↔v= .str i:=by unfold Rep;exact Iff.rfl
def rep_lst {K:Z8}{G:Hp}{ds:List D}{v:V}:Rep K G (.lst ds) v↔∃a xs,v= .ref a∧LsS K G a xs∧RepL K G ds xs:=by unfold Rep;exact Iff.rfl
def rep_tup {K:Z8}{G:Hp}{ds:List D}{v:V}:Rep K G (.tup ds) v↔∃a xs,v= .ref a∧TpS K G a xs∧RepL K G ds xs:=by unfold Rep;exact Iff.rfl
def qP {K:Z8}{G:Hp}{ns:Z2}{v:V}:Rep K G (.scr ns) v↔∃a,v= .ref a∧f_ K G a (ns.map V.int):=by unfold Rep;exact Iff.rfl
def y9 {K:Z8}{G:Hp}{C:Zz}{v:V}:Rep K G (.xc C) v↔∃a,v= .ref a∧G a=some (Ce a (.ref C))∧ExcK K C:=by unfold Rep;exact Iff.rfl
def rep_fdc {K:Z8}{G:Hp}{ks:List (List bD)}{ds:List D}{v:V}:Rep K G (.fdc ks ds) v↔∃a o kvs,v= .ref a∧G a=some (.frz o (.dT kvs))∧kvs.map (·.1)=ks∧RepL K G ds (kvs.map (·.2)):=by unfold Rep;exact Iff.rfl
def rep_dct {K:Z8}{G:Hp}{ks:List (List bD)}{ds:List D}{v:V}:Rep K G (.dct ks ds) v↔∃a kvs,v= .ref a∧Rd G a (.dT kvs)∧kvs.map (·.1)=ks∧RepL K G ds (kvs.map (·.2)):=by unfold Rep;exact Iff.rfl
def rep_ins {K:Z8}{G:Hp}{C:Zz}{ns:Zw}{ds:List D}{v:V}:Rep K G (.ins C ns ds) v↔∃a dx fs,v= .ref a∧G a=some (.ins C dx fs)∧fs.map (·.1)=ns∧RepL K G ds (fs.map (·.2)):=by unfold Rep;exact Iff.rfl
def iH (c:Int→Int→Bool)(g:Int→Int→D):D→D→Res D
 |.int i,.int j=>if c i j=true then .ok (g i j) else .bad
 |_,_=>.bad
section
variable{X:Cx}{E:XK}
def pY {f:Value→Value→Sem Value}{C:Int→Int→Prop}{g:Int→Int→V}{c:Int→Int→Bool}{gD:Int→Int→D}(ho:pQ X f (rI C g))(hc:∀i j,c i j=true→C i j)(hg:∀i j G,Rep X.K G (gD i j) (g i j)):DOp X E f (iH c gD):=
 DOp.of ho λG H x y dx dy hs rx ry ok=>by
  unfold iH at ok ⊢;split at ok
  ·rename_i i j;rw[rep_int]at rx ry;subst rx ry;by_cases h:c i j=true
   ·rw[Yj h];exact⟨i,j,rfl,rfl,hc i j h,_,G,rfl,.refl hs,hg i j G⟩
   ·rw[Yi h]at ok;exact ok.elim
  ·exact ok.elim
def gj {f:Value→Value→Sem Value}{g:Int→Int→V}{gD:Int→Int→D}(ho:pQ X f (Bo g))(hg:∀i j G,Rep X.K G (gD i j) (g i j)):DOp X E f (iH (λ_ _=>true) gD):=
 DOp.of ho λG H x y dx dy hs rx ry ok=>by
  unfold iH at ok ⊢;split at ok
  ·rename_i i j;rw[rep_int]at rx ry;subst rx ry;exact⟨i,j,rfl,rfl,_,G,rfl,.refl hs,hg i j G⟩
  ·exact ok.elim
instance (i j:Int):Decidable (CMul i j):=by unfold CMul;infer_instance
instance (i j:Int):Decidable (xb i j):=by unfold xb;infer_instance
def xk:D→D→Res D:=iH (λ_ _=>true) λi j=>.int (i+j)
def lX:D→D→Res D:=iH (λ_ _=>true) λi j=>.int (i-j)
def wE:D→D→Res D:=iH (λi j=>decide (CMul i j)) λi j=>.int (i*j)
def uR:D→D→Res D:=iH (λi j=>decide (xb i j)) λi j=>.int (i / j)
def la:D→D→Res D:=iH (λ_ j=>decide (0<j)) λi j=>.int (i % j)
def ym:D→D→Res D:=iH (λ_ _=>true) λi j=>.bl (decide (i<j))
def s_:D→D→Res D:=iH (λ_ _=>true) λi j=>.bl (decide (i≤j))
def AG:D→D→Res D:=iH (λ_ _=>true) λi j=>.bl (decide (j<i))
def FY:D→D→Res D:=iH (λ_ _=>true) λi j=>.bl (decide (j≤i))
def do_add:DOp X E (binaryOp .Add) xk:=gj Dx λ_ _ _=>rep_int.mpr rfl
def kQ:DOp X E (binaryOp .Sub) lX:=gj DE λ_ _ _=>rep_int.mpr rfl
def do_mul:DOp X E (binaryOp .Mult) wE:=pY DB (λ_ _ h=>Zj h) λ_ _ _=>rep_int.mpr rfl
def Ad:DOp X E (binaryOp .FloorDiv) uR:=pY A0 (λ_ _ h=>Zj h) λ_ _ _=>rep_int.mpr rfl
def iM:DOp X E (binaryOp .Mod) la:=pY DA (λ_ _ h=>Zj h) λ_ _ _=>rep_int.mpr rfl
def mJ:DOp X E (compareOp .Lt) ym:=gj Ff λ_ _ _=>rep_bl.mpr rfl
def iD:DOp X E (compareOp .LtE) s_:=gj Fe λ_ _ _=>rep_bl.mpr rfl
def uJ:DOp X E (compareOp .Gt) AG:=gj Fd λ_ _ _=>rep_bl.mpr rfl
def EA:DOp X E (compareOp .GtE) FY:=gj Fc λ_ _ _=>rep_bl.mpr rfl
def Ds:D→Res D
 |.int i=>.ok (.int (-i))
 |_=>.bad
def yD {fa:DS→Res D}(ha:PD X E a fa):PD X E (.UnaryOp .USub a pos) (λρ=>(fa ρ).bind Ds):=by
 intro pins s σ G H ρ I hs hro ho;refine UnaryOp_ (aS (ha pins s σ G H ρ I hs hro ho.fst) λv s1 hZ112=>?_);obtain⟨d1,e1,v1,G1,H1,I1,r1,x1,p1⟩:=hZ112;have k:=ho.snd e1 x1.hh;cases d1 with
 |int i=>
  rw[rep_int]at p1;subst p1;exact aS (Ej pins s1 σ H1 (.int i) v (λv' H'=>H'=H1∧v'= .int (-i)) I1 r1 ⟨i,rfl,rfl,rfl⟩) λw s2 hZ113=>by
   obtain⟨v2,H2,I2,r2,h1,h2⟩:=hZ113;subst h1 h2;exact⟨.int (-i),al e1 rfl,_,G1,_,I2,r2,x1,rep_int.mpr rfl⟩
 |_=>exact k.elim
def C8 (d:D):Bool:=match d with|.non=>true|_=>false
def y8 {K:Z8}{G:Hp}{d:D}{v:V}(h:Rep K G d v):decide (v=V.non)=C8 d:=by
 cases d with
 |non=>rw[rep_non]at h;subst h;rfl
 |bl b=>rw[rep_bl]at h;subst h;rfl
 |int i=>rw[rep_int]at h;subst h;rfl
 |str x=>rw[rep_str]at h;subst h;rfl
 |lst l=>rw[rep_lst]at h;obtain⟨a,xs,rfl,_⟩:=h;rfl
 |tup l=>rw[rep_tup]at h;obtain⟨a,xs,rfl,_⟩:=h;rfl
 |ins C ns l=>rw[rep_ins]at h;obtain⟨a,dx,fs,rfl,_⟩:=h;rfl
 |dct ks l=>rw[rep_dct]at h;obtain⟨a,kvs,rfl,_⟩:=h;rfl
 |scr ns=>rw[qP]at h;obtain⟨a,rfl,_⟩:=h;rfl
 |xc C=>rw[y9]at h;obtain⟨a,rfl,_⟩:=h;rfl
 |fdc ks l=>rw[rep_fdc]at h;obtain⟨a,o,kvs,rfl,_⟩:=h;rfl
def C9 (d e:D):Res D:=match e with|.non=>.ok (.bl (C8 d))|_=>.bad
def E9 (d e:D):Res D:=match e with|.non=>.ok (.bl (!C8 d))|_=>.bad
def Cv:DOp X E (compareOp .Is) C9:=DOp.of Dz λG H x y dx dy hs rx ry ok=>by
 cases dy with
 |non=>rw[rep_non]at ry;exact⟨ry,_,G,rfl,.refl hs,by rw[y8 rx];exact rep_bl.mpr rfl⟩
 |_=>exact ok.elim
def yH {f:DS→Res Bool}(ha:s9 X E a f):PDW X E (.BoolOp .And [a] pos) f:=by
 intro wh pins s σ G H ρ I hs hro ho;refine isTrue_and (aS (ha pins s σ G H ρ I hs hro ho) λc s1 e=>?_);cases c with
 |true=>exact isTrue_and_nil e
 |false=>exact e
def eP {f:DS→Res Bool}(ha:s9 X E a f):PDW X E (.BoolOp .Or [a] pos) f:=by
 intro wh pins s σ G H ρ I hs hro ho;refine isTrue_or (aS (ha pins s σ G H ρ I hs hro ho) λc s1 e=>?_);cases c with
 |false=>exact isTrue_or_nil e
 |true=>exact e
def zT (f g:DS→Res Bool):DS→Res Bool:=λρ=>(f ρ).bind λb=>if b=true then g ρ else .ok false
def tf (f g:DS→Res Bool):DS→Res Bool:=λρ=>(f ρ).bind λb=>if b=true then .ok true else g ρ
def A5 {f g:DS→Res Bool}(ha:s9 X E a f)(hb:PDW X E (.BoolOp .And (b::rest) pos) g):PDW X E (.BoolOp .And (a::b::rest) pos) (zT f g):=by
 intro wh pins s σ G H ρ I hs hro ho;refine isTrue_and (aS (ha pins s σ G H ρ I hs hro ho.fst) λc s1 hZ114=>?_);obtain⟨e,G1,H1,I1,x1⟩:=hZ114;cases c with
 |true=>exact aS (hb wh pins s1 σ G1 H1 ρ I1 x1.gh (hro.mono x1.gg) (ho.snd e x1.hh)) λc2 s2 hZ115=>(by obtain⟨e2,G2,H2,I2,x2⟩:=hZ115;exact⟨al e (by rw[Yj rfl];exact e2),G2,H2,I2,x1.trans x2⟩)
 |false=>exact⟨al e rfl,G1,H1,I1,x1⟩
def dn {f g:DS→Res Bool}(ha:s9 X E a f)(hb:PDW X E (.BoolOp .Or (b::rest) pos) g):PDW X E (.BoolOp .Or (a::b::rest) pos) (tf f g):=by
 intro wh pins s σ G H ρ I hs hro ho;refine isTrue_or (aS (ha pins s σ G H ρ I hs hro ho.fst) λc s1 hZ116=>?_);obtain⟨e,G1,H1,I1,x1⟩:=hZ116;cases c with
 |false=>exact aS (hb wh pins s1 σ G1 H1 ρ I1 x1.gh (hro.mono x1.gg) (ho.snd e x1.hh)) λc2 s2 hZ117=>(by obtain⟨e2,G2,H2,I2,x2⟩:=hZ117;exact⟨al e (by rw[Yi Bool.false_ne_true];exact e2),G2,H2,I2,x1.trans x2⟩)
 |true=>exact⟨al e rfl,G1,H1,I1,x1⟩
def fA (f:DS→Res Bool):DS→Res Bool:=λρ=>(f ρ).bind λb=>.ok (!b)
def bz {f:DS→Res Bool}(ha:s9 X E a f):s9 X E (.UnaryOp .Not a pos) (fA f):=by
 intro pins s σ G H ρ I hs hro ho;exact isTrue_not (aS (ha pins s σ G H ρ I hs hro ho.fst) λc s1 hZ118=>(by obtain⟨e,G1,H1,I1,x1⟩:=hZ118;exact⟨al e rfl,G1,H1,I1,x1⟩))
def Cl (f g:DS→Res D):DS→Res D:=λρ=>(f ρ).bind λd=>match d with|.bl true=>g ρ|.bl false=>.ok (.bl false)|_=>.bad
def Dt (f:DS→Res D):DS→Res D:=λρ=>(f ρ).bind λd=>match d with|.bl b=>.ok (.bl (!b))|_=>.bad
def DJ {op}{f:DS→Res D}(h:PD X E a f):PD X E (.BoolOp op [a] pos) f:=λpins s σ G H ρ I hs hro ho=>BoolOp_one (h pins s σ G H ρ I hs hro ho)
def DG {f g:DS→Res D}(ha:PD X E a f)(hb:PD X E (.BoolOp .And (b::rest) pos) g):PD X E (.BoolOp .And (a::b::rest) pos) (Cl f g):=by
 intro pins s σ G H ρ I hs hro ho;refine BoolOp_and (aS (ha pins s σ G H ρ I hs hro ho.fst) λv s1 hZ119=>?_);obtain⟨d1,e1,v1,G1,H1,I1,r1,x1,p1⟩:=hZ119;have k:=ho.snd e1 x1.hh;cases d1 with
 |bl c=>
  rw[rep_bl]at p1;subst p1;cases r1;refine wpAny_truthy_bool ?_;cases c with
  |true=>exact aS (hb pins s1 σ G1 H1 ρ I1 x1.gh (hro.mono x1.gg) k) λw s2 hZ120=>(by obtain⟨d2,e2,v2,G2,H2,I2,r2,x2,p2⟩:=hZ120;exact⟨d2,al e1 e2,v2,G2,H2,I2,r2,x1.trans x2,p2⟩)
  |false=>exact⟨_,al e1 rfl,.bl false,G1,H1,I1,rfl,x1,rep_bl.mpr rfl⟩
 |_=>exact k.elim
def DI {f:DS→Res D}(ha:PD X E a f):PD X E (.UnaryOp .Not a pos) (Dt f):=by
 intro pins s σ G H ρ I hs hro ho;refine UnaryOp_ (aS (ha pins s σ G H ρ I hs hro ho.fst) λv s1 hZ121=>?_);obtain⟨d1,e1,v1,G1,H1,I1,r1,x1,p1⟩:=hZ121;have k:=ho.snd e1 x1.hh;cases d1 with
 |bl c=>
  rw[rep_bl]at p1;subst p1;cases r1;exact not_of (wpAny_truthy_bool ⟨_,al e1 rfl,.bl (!c),G1,H1,I1,rfl,x1,rep_bl.mpr rfl⟩)
 |_=>exact k.elim
def hG (fa fb fc:DS→Res D)(o o':D→D→Res D):DS→Res Bool:=λρ=>(fa ρ).bind λa=>(fb ρ).bind λb=>(o a b).bind λr=>match r with|.bl true=>(fc ρ).bind λc=>(o' b c).bind λq=>(match q with|.bl k=>.ok k|_=>.bad)|.bl false=>.ok false|_=>.bad
def aG (n:Nat):Bool:=decide (n≤100000)
def bG {n:Nat}(h:aG n=true):n≤sizeLine:=le_trans (Zj h) (by decide)
def dl (f:DS→Res (List D)):DS→Res D:=λρ=>(f ρ).bind λds=>if aG ds.length=true then .ok (.lst ds) else .bad
def cE (f:DS→Res (List D)):DS→Res D:=λρ=>(f ρ).bind λds=>if aG ds.length=true then .ok (.tup ds) else .bad
def lg {f:DS→Res (List D)}(h:lP X E es f):PD X E (.List es pos) (dl f):=by
 intro pins s σ G H ρ I hs hro ho;refine aS (ub (ii h) pins s σ H (λv H'=>∃d G',dl f ρ= .ok d∧Ext G H G' H'∧Rep X.K G' d v) I ?_) λu s' hZ122=>(by obtain⟨v,H',I',r,d,G',e,x,rp⟩:=hZ122;exact⟨d,e,v,G',H',I',r,x,rp⟩);refine⟨G,ρ,hs,hro,ho.fst,λds e vs G1 H1 x1 r1=>?_⟩;have k:=ho.snd e x1.hh;by_cases hl:aG ds.length=true
 ·refine⟨by rw[←r1.length];exact bG hl,λp hp=>⟨.lst ds,bc G1 p (.lst vs),al e (Yj hl),x1.trans (.new x1.gh hp _),rep_lst.mpr ⟨p,vs,rfl,.of ao,r1.mono (Ext.new x1.gh hp _).gg⟩⟩⟩
 ·rw[Yi hl]at k;exact k.elim
def cF {x1}{f:DS→Res (List D)}(h:lP X E es f):PD X E (.Tuple es x1 pos) (cE f):=by
 intro pins s σ G H ρ I hs hro ho;refine aS (yM (ii h) pins s σ H (λv H'=>∃d G',cE f ρ= .ok d∧Ext G H G' H'∧Rep X.K G' d v) I ?_) λu s' hZ123=>(by obtain⟨v,H',I',r,d,G',e,x,rp⟩:=hZ123;exact⟨d,e,v,G',H',I',r,x,rp⟩);refine⟨G,ρ,hs,hro,ho.fst,λds e vs G1 H1 x1 r1=>?_⟩;have k:=ho.snd e x1.hh;by_cases hl:aG ds.length=true
 ·refine⟨by rw[←r1.length];exact bG hl,λp hp=>⟨.tup ds,bc G1 p (.tup vs),al e (Yj hl),x1.trans (.new x1.gh hp _),rep_tup.mpr ⟨p,vs,rfl,.of ao,r1.mono (Ext.new x1.gh hp _).gg⟩⟩⟩
 ·rw[Yi hl]at k;exact k.elim
end
section
variable{X:Cx}{E:XK}
def DK {r:R2}{fa fb:DS→Res D}{o:D→D→Res D}(he:PE X e (GA r (tD X.K E fa) (tD X.K E fb)))(h:∀(G H:Hp) (x y:V) (dx dy:D) (Q:VK),Same G H→Rep X.K G dx x→Rep X.K G dy y→OkR E H (o dx dy)→(∀d v' G' H',o dx dy= .ok d→Ext G H G' H'→Rep X.K G' d v'→Q v' H')→r x y H Q):PD X E e (ac fa fb o):=by
 intro pins s σ G H ρ I hs hro ho;refine aS (he pins s σ H (λv H'=>∃d G',ac fa fb o ρ= .ok d∧Ext G H G' H'∧Rep X.K G' d v) I ?_) λu s' hZ124=>(by obtain⟨v,H',I',r',d,G',e,x,rp⟩:=hZ124;exact⟨d,e,v,G',H',I',r',x,rp⟩);refine⟨G,ρ,hs,hro,ho.fst,λd1 e1 v1 G1 H1 x1 p1=>⟨G1,ρ,x1.gh,hro.mono x1.gg,(ho.snd e1 x1.hh).fst,λd2 e2 v2 G2 H2 x2 p2=>?_⟩⟩;exact h G2 H2 v1 v2 d1 d2 _ x2.gh (p1.mono x2.gg) p2 ((ho.snd e1 x1.hh).snd e2 x2.hh) λd v' G' H' ed xx rp=>⟨d,G',al e1 (al e2 ed),(x1.trans x2).trans xx,rp⟩
def RepL.atI {K:Z8}{G:Hp}{ds:List D}{vs:List V}{i:Int}{d:D}(h:RepL K G ds vs)(e:atI ds i=some d):∃v,L2.atI vs i=some v∧Rep K G d v:=by
 unfold L2.atI at e ⊢;rw[←h.length];cases q:oU ds.length i with
 |none=>rw[q]at e;cases e
 |some j=>
  rw[q]at e;exact h.get (by simpa using e)
def aJ:D→D→Res D
 |.lst l,.int i=>match L2.atI l i with|some d=>.ok d|none=>.bad
 |.tup l,.int i=>match L2.atI l i with|some d=>.ok d|none=>.bad
 |.scr ns,.int i=>match L2.atI ns i with|some n=>.ok (.int n)|none=>.bad
 |.str z,.int i=>match L2.atI z.cps.toList i with|some c=>if aG z.length=true then .ok (.str ⟨#[c]⟩) else .bad|none=>.bad
 |_,_=>.bad
def zU {α β:Type}{f:α→β}{xs:List α}{i:Int}{a:α}(h:L2.atI xs i=some a):L2.atI (xs.map f) i=some (f a):=by
 unfold L2.atI at h ⊢;rw[length_map];cases q:oU xs.length i with
 |none=>rw[q]at h;cases h
 |some j=>
  rw[q]at h;show (xs.map f)[j]?=some (f a);have h':xs[j]?=some a:=h;rw[getElem?_map,h'];rfl
def ay {fa fb:DS→Res D}(ha:PD X E a fa)(hb:PD X E b fb)(hp:pR b:=by intro _ _;rfl):PD X E (.Subscript a b pos) (ac fa fb aJ):=by
 refine DK (B6 C_ (dP ha) (dP hb) hp) λG H x y dx dy Q hs rx ry ok k=>?_;unfold aJ at ok k;split at ok
 ·rename_i l i;rw[rep_lst]at rx;rw[rep_int]at ry;obtain⟨p,xs,rfl,sq,rl⟩:=rx;subst ry;dsimp only at ok k;cases q:L2.atI l i with
  |none=>rw[q]at ok;exact ok.elim
  |some d=>
   obtain⟨v,hv,rv⟩:=rl.atI q;rw[q]at k;exact .inl ⟨p,xs,i,v,rfl,rfl,hs.seq sq.sq,hv,k d v G H rfl (.refl hs) rv⟩
 ·rename_i l i;rw[rep_tup]at rx;rw[rep_int]at ry;obtain⟨p,xs,rfl,sq,rl⟩:=rx;subst ry;dsimp only at ok k;cases q:L2.atI l i with
  |none=>rw[q]at ok;exact ok.elim
  |some d=>
   obtain⟨v,hv,rv⟩:=rl.atI q;rw[q]at k;exact .inr (.inl ⟨p,xs,i,v,rfl,rfl,hs.seqT sq,hv,k d v G H rfl (.refl hs) rv⟩)
 ·rename_i ns i;rw[qP]at rx;rw[rep_int]at ry;obtain⟨p,rfl,sq⟩:=rx;subst ry;dsimp only at ok k;cases q:L2.atI ns i with
  |none=>rw[q]at ok;exact ok.elim
  |some n=>
   rw[q]at k;exact .inl ⟨p,_,i,.int n,rfl,rfl,hs.seq sq,zU q,k (.int n) (.int n) G H rfl (.refl hs) (rep_int.mpr rfl)⟩
 ·rename_i z i;rw[rep_str]at rx;rw[rep_int]at ry;subst rx ry;dsimp only at ok k;cases q:L2.atI z.cps.toList i with
  |none=>rw[q]at ok;exact ok.elim
  |some c=>
   rw[q]at k ok;dsimp only at k ok;by_cases hz:aG z.length=true
   ·rw[Yj hz]at k;exact .inr (.inr ⟨z,i,c,rfl,rfl,bG hz,q,k _ _ G H rfl (.refl hs) (rep_str.mpr rfl)⟩)
   ·rw[Yi hz]at ok;exact ok.elim
 ·exact ok.elim
def zO (K:Z8)(E:XK)(r:List V→Hp→VK→Prop)(g:List D→Res D):Prop:=
 ∀(G H:Hp) (vs:List V) (ds:List D) (Q:VK),Same G H→RepL K G ds vs→OkR E H (g ds)→(∀d v' G' H',g ds= .ok d→Ext G H G' H'→Rep K G' d v'→Q v' H')→r vs H Q
def bq (fs:DS→Res (List D))(g:List D→Res D):DS→Res D:=λρ=>(fs ρ).bind g
def ua {r:List V→Hp→VK→Prop}{fs:DS→Res (List D)}{g:List D→Res D}(he:PE X e (Gi r (tDA X.K E fs)))(h:zO X.K E r g):PD X E e (bq fs g):=by
 intro pins s σ G H ρ I hs hro ho;refine aS (he pins s σ H (λv H'=>∃d G',bq fs g ρ= .ok d∧Ext G H G' H'∧Rep X.K G' d v) I ?_) λu s' hZ125=>(by obtain⟨v,H',I',r',d,G',e,x,rp⟩:=hZ125;exact⟨d,e,v,G',H',I',r',x,rp⟩);refine⟨G,ρ,hs,hro,ho.fst,λds e1 vs G1 H1 x1 p1=>?_⟩;exact h G1 H1 vs ds _ x1.gh p1 (ho.snd e1 x1.hh) λd v' G' H' ed xx rp=>⟨d,G',al e1 ed,x1.trans xx,rp⟩
def kh {p pos:Yn}{id:String}{r:List V→Hp→VK→Prop}{fs:DS→Res (List D)}{g:List D→Res D}(hc:dZ X (.builtin id) r)(h:zO X.K E r g)(hg:Gl X x)(hm:X.mg x=none)(hv:bootBuiltins x=some (.builtin id))(ha:lP X E (e::es) fs)(hn:x≠ "__name__" :=by decide) (hdb:zQ1 x:=by decide)(he:zQ2 X e es:=by rfl) (hpl:(backTo pos (starEach es X.env)).any (·.1)=false:=by rfl):PD X E (.Call (.Name x p) (e::es) [] pos) (bq fs g):=
 ua (ny hc hg hm hv (ii ha) hn hdb he hpl) h
def lc {p pos:Yn}{T:String}{r:List V→Hp→VK→Prop}{fs:DS→Res (List D)}{g:List D→Res D}(hc:dZ X (.type T) r)(h:zO X.K E r g)(hg:Gl X x)(hm:X.mg x=none)(hv:bootBuiltins x=some (.type T))(ha:lP X E (e::es) fs)(hn:x≠ "__name__" :=by decide) (hdb:zQ1 x:=by decide)(he:zQ2 X e es:=by rfl) (hpl:(backTo pos (starEach es X.env)).any (·.1)=false:=by rfl):PD X E (.Call (.Name x p) (e::es) [] pos) (bq fs g):=
 ua (cS hc hg hm hv (ii ha) hn hdb he hpl) h
def aY:List D→Res D
 | [.lst l]=>.ok (.int l.length)
 | [.tup l]=>.ok (.int l.length)
 | [.scr ns]=>.ok (.int ns.length)
 |_=>.bad
def Cs {K:Z8}:zO K E (λxs H Q=>∃p ys,xs=[.ref p]∧(f_ K H p ys∨lT K H p ys)∧Q (.int ys.length) H) aY:=by
 intro G H vs ds Q hs rl ok k;unfold aY at ok k;split at ok
 ·obtain⟨v,r,rfl,rx,r0⟩:=rl.inv;rw[r0.inv0];rw[rep_lst]at rx;obtain⟨p,xs,rfl,sq,rx⟩:=rx;exact⟨p,xs,rfl,.inl (hs.seq sq.sq),k _ _ G H rfl (.refl hs) (by rw[rx.length];exact rep_int.mpr rfl)⟩
 ·obtain⟨v,r,rfl,rx,r0⟩:=rl.inv;rw[r0.inv0];rw[rep_tup]at rx;obtain⟨p,xs,rfl,sq,rx⟩:=rx;exact⟨p,xs,rfl,.inr (hs.seqT sq),k _ _ G H rfl (.refl hs) (by rw[rx.length];exact rep_int.mpr rfl)⟩
 ·obtain⟨v,r,rfl,rx,r0⟩:=rl.inv;rw[r0.inv0];rw[qP]at rx;obtain⟨p,rfl,sq⟩:=rx;exact⟨p,_,rfl,.inl (hs.seq sq),k _ _ G H rfl (.refl hs) (by rw[length_map];exact rep_int.mpr rfl)⟩
 ·exact ok.elim
def E7:List D→Res D
 | [.int i,.int j]=>.ok (.int (min i j))
 |_=>.bad
def E6:List D→Res D
 | [.int i,.int j]=>.ok (.int (max i j))
 |_=>.bad
def cq:List D→Res D
 | [.lst l]=>.ok (.lst l)
 | [.tup l]=>.ok (.lst l)
 |_=>.bad
def nQ:List D→Res D
 | [.lst l]=>.ok (.tup l)
 | [.tup l]=>.ok (.tup l)
 |_=>.bad
def uI {K:Z8}:zO K E (λxs H Q=>∃p ys,xs=[.ref p]∧(f_ K H p ys∨lT K H p ys)∧∀l,H l=none→Q (.ref l) (bc H l (.lst ys))) cq:=by
 intro G H vs ds Q hs rl ok k;unfold cq at ok k;split at ok
 ·obtain⟨v,r,rfl,rx,r0⟩:=rl.inv;rw[r0.inv0];rw[rep_lst]at rx;obtain⟨p,xs,rfl,sq,rx⟩:=rx;exact⟨p,xs,rfl,.inl (hs.seq sq.sq),λl hl=>k _ _ _ _ rfl (.new hs hl _) (rep_lst.mpr ⟨l,xs,rfl,.of ao,rx.mono (Ext.new hs hl _).gg⟩)⟩
 ·obtain⟨v,r,rfl,rx,r0⟩:=rl.inv;rw[r0.inv0];rw[rep_tup]at rx;obtain⟨p,xs,rfl,sq,rx⟩:=rx;exact⟨p,xs,rfl,.inr (hs.seqT sq),λl hl=>k _ _ _ _ rfl (.new hs hl _) (rep_lst.mpr ⟨l,xs,rfl,.of ao,rx.mono (Ext.new hs hl _).gg⟩)⟩
 ·exact ok.elim
def xt {K:Z8}:zO K E (λxs H Q=>∃p ys,xs=[.ref p]∧((f_ K H p ys∧∀l,H l=none→Q (.ref l) (bc H l (.tup ys)))∨(lT K H p ys∧Q (.ref p) H))) nQ:=by
 intro G H vs ds Q hs rl ok k;unfold nQ at ok k;split at ok
 ·obtain⟨v,r,rfl,rx,r0⟩:=rl.inv;rw[r0.inv0];rw[rep_lst]at rx;obtain⟨p,xs,rfl,sq,rx⟩:=rx;exact⟨p,xs,rfl,.inl ⟨hs.seq sq.sq,λl hl=>k _ _ _ _ rfl (.new hs hl _) (rep_tup.mpr ⟨l,xs,rfl,.of ao,rx.mono (Ext.new hs hl _).gg⟩)⟩⟩
 ·obtain⟨v,r,rfl,rx,r0⟩:=rl.inv;rw[r0.inv0];have rx':=rx;rw[rep_tup]at rx;obtain⟨p,xs,rfl,sq,rx⟩:=rx;exact⟨p,xs,rfl,.inr ⟨hs.seqT sq,k _ _ G H rfl (.refl hs) rx'⟩⟩
 ·exact ok.elim
inductive pureSp (K:Z8)(m:List D→Res D)(vs:List V)(H:Hp)(Q:VK)(E:XK):Prop
 |mk (ds:List D) (G:Hp) (s:Same G H) (r:RepL K G ds vs) (o:OkR E H (m ds)) (k:∀d,m ds= .ok d→∀v G' H',Ext G H G' H'→Rep K G' d v→Q v H')
def lB (C:Zz)(m:Yq):D→Bool
 |.ins C' ns _=>C'==C&&!ns.contains m
 |_=>false
def lJ (C:Zz)(m:Yq)(fo:DS→Res D)(g:List D→Res D):DS→Res D:=λρ=>(fo ρ).bind λo=>if lB C m o=true then g [o] else .bad
def np {fs:List (Str×V)}(h:(fs.map (·.1)).contains m=false):fs.lookup m=none:=by
 induction fs with
 |nil=>rfl
 |cons p r ih=>
  rw[map_cons,List.contains_cons,Bool.or_eq_false_iff]at h;rw[lookup_cons];have:(m==p.1)=false:=h.1;rw[this];exact ih h.2
def yB {pl:Sem Bool}{CX:qX}{k:Nat}{f C:Zz}{fd:Y9}{ps:Zw}{g:List D→Res D}{apos pos:Yn}{fo:DS→Res D}(hoo:PD X E o fo)(c:Cls X.K C)(hm:Meth X.K C m f)(F:FnOk X.prog X.w X.K X.mg X.base CX k f fd ps (pureSp X.K g))(hr:Room k X.A)(hb:Binds X.K fd ps [])(hx:cQ CX X E)(hpe:PE X (.Call (.Attribute o m apos) [] [] pos) (Cb C m (pureSp X.K g) [] E (tD X.K E fo) BH)):PD X E (.Call (.Attribute o m apos) [] [] pos) (lJ C m fo g):=by
 intro pins s σ G H ρ I hs hro ho;refine aS (hpe pins s σ H (λv H'=>∃d G',lJ C m fo g ρ= .ok d∧Ext G H G' H'∧Rep X.K G' d v) I ?_) λu s' hZ126=>(by obtain⟨v,H',I',r',d,G',e,x,rp⟩:=hZ126;exact⟨d,e,v,G',H',I',r',x,rp⟩);refine⟨G,ρ,hs,hro,ho.fst,λdO e1 v G1 H1 x1 p1=>?_⟩;have kk:=ho.snd e1 x1.hh;by_cases hi:lB C m dO=true
 ·rw[Yj hi]at kk;cases dO with
  |ins C' ns l=>
   have hi':=hi;unfold lB at hi';rw[and_eq_true,beq_iff_eq,Bool.not_eq_true']at hi';obtain⟨rfl,hn⟩:=hi';have p1':=p1;rw[rep_ins]at p1;obtain⟨a,dx,fs,rfl,ha,hns,_⟩:=p1;refine⟨a,dx,fs,rfl,x1.gh _ _ ha,np (by rw[hns];exact hn),?_⟩;exact⟨[.ins C' ns l],G1,x1.gh,.cons p1' .nil,kk,λd ed v G' H' xx rp=>⟨d,G',al e1 (by rw[Yj hi];exact ed),x1.trans xx,rp⟩⟩
  |_=>cases hi
 ·rw[Yi hi]at kk;exact kk.elim
def rP:List Str→List D→Str→Option D
 |n::ns,d::ds,f=>if n=f then some d else rP ns ds f
 |_,_,_=>none
def j3 (C:Zz)(f:Yq):D→Res D
 |.ins C' ns ds=>if C'=C then (match rP ns ds f with|some d=>.ok d|none=>.bad) else .bad
 |_=>.bad
theorem lG {K:Z8}{G:Hp}{d:D}:∀{fs:List (Str×V)} {ds:List D},RepL K G ds (fs.map (·.2))→rP (fs.map (·.1)) ds f=some d→∃v,fs.lookup f=some v∧Rep K G d v
 | [],ds,_,h=>by cases ds <;> cases h
 |(n,v)::r,[],_,h=>by cases h
 |(n,v)::r,e::ds,hr,h=>by
  obtain⟨v',r',q,a,b⟩:=hr.inv;rw[map_cons]at q;cases q;rw[map_cons]at h;unfold rP at h;rw[lookup_cons];by_cases hn:n=f
  ·subst hn;rw[Yj rfl]at h;cases h;rw[show (n==n)=true by simp];exact⟨v,rfl,a⟩
  ·rw[Yi hn]at h;rw[show (f==n)=false by simpa using Ne.symm hn];exact lG b h
def yz {C:Zz}{fo:DS→Res D}(ho:PD X E o fo)(c:Cls X.K C)(n:NoAttr X.K C f)(hb:attributeBase o f X.env (eval o X.env)=eval o X.env:=by rfl):PD X E (.Attribute o f pos) (λρ=>(fo ρ).bind (j3 C f)):=by
 intro pins s σ G H ρ I hs hro hok;refine aS (DN (dP ho) hb pins s σ H (λv H'=>∃d G',((fo ρ).bind (j3 C f))= .ok d∧Ext G H G' H'∧Rep X.K G' d v) I ?_) λu s' hZ127=>(by obtain⟨v,H',I',r',d,G',e,x,rp⟩:=hZ127;exact⟨d,e,v,G',H',I',r',x,rp⟩);refine⟨G,ρ,hs,hro,hok.fst,λdO e1 v G1 H1 x1 p1=>?_⟩;have kk:=hok.snd e1 x1.hh;cases dO with
 |ins C' ns l=>
  unfold j3 at kk;dsimp only at kk;by_cases hc:C'=C
  ·subst hc;rw[Yj rfl]at kk;rw[rep_ins]at p1;obtain⟨a,dx,fs,rfl,ha,hns,rl⟩:=p1;subst hns;cases q:rP (fs.map (·.1)) l f with
   |none=>rw[q]at kk;exact kk.elim
   |some d=>
    obtain⟨v,hv,rv⟩:=lG rl q;exact⟨a,C',dx,fs,v,rfl,x1.gh _ _ ha,c,n,hv,d,G1,al e1 (by unfold j3;dsimp only;rw[Yj rfl,q]),x1,rv⟩
  ·rw[Yi hc]at kk;exact kk.elim
 |_=>exact kk.elim
def eY {op op':CmpOp}{pos:Yn}{fa fb fc:DS→Res D}{o o':D→D→Res D}(ho:DOp X E (compareOp op) o)(ho':DOp X E (compareOp op') o')(ha:PD X E a fa)(hb:PD X E b fb)(hc:PD X E c fc)(hm:lastMarks [op,op'] [b,c]=false:=by with_unfolding_all rfl):s9 X E (.Compare a [op,op'] [b,c] pos) (hG fa fb fc o o'):=by
 intro p s σ G H ρ I hs hro hok;refine isTrue_chain (aS (ha p s σ G H ρ I hs hro hok.fst) λv s1 ⟨d1,e1,v1,G1,H1,I1,r1,x1,p1⟩=>test_link (aS (hb p s1 σ G1 H1 ρ I1 x1.gh (hro.mono x1.gg) (hok.snd e1 x1.hh).fst) λu s2 hZ129=>?_)) hm;obtain⟨d2,e2,v2,G2,H2,I2,r2,x2,p2⟩:=hZ129;have k2:=(hok.snd e1 x1.hh).snd e2 x2.hh;refine aS (ho p s2 σ G2 H2 v1 v2 d1 d2 v u I2 x2.gh (p1.mono x2.gg) p2 r1 r2 k2.fst) λd s3 hZ130=>?_;obtain⟨d3,e3,v3,G3,H3,I3,r3,x3,p3⟩:=hZ130;have k3:=k2.snd e3 x3.hh;cases d3 with
 |bl k=>
  rw[rep_bl]at p3;subst p3;cases r3;refine wpAny_truthy_bool ?_;cases k with
  |false=>exact ite_ff ⟨al e1 (al e2 (al e3 rfl)),G3,H3,I3,(x1.trans x2).trans x3⟩
  |true=>
   refine ite_tt (test_last (aS (hc p s3 σ G3 H3 ρ I3 x3.gh (hro.mono ((x1.gg.trans x2.gg).trans x3.gg)) k3.fst) λw' s4 hZ131=>?_));obtain⟨d4,e4,v4,G4,H4,I4,r4,x4,p4⟩:=hZ131;have k4:=k3.snd e4 x4.hh;refine aS (ho' p s4 σ G4 H4 v2 v4 d2 d4 u w' I4 x4.gh (p2.mono (x3.gg.trans x4.gg)) p4 r2 r4 k4.fst) λd' s5 hZ132=>?_;obtain⟨d5,e5,v5,G5,H5,I5,r5,x5,p5⟩:=hZ132;have k5:=k4.snd e5 x5.hh;cases d5 with
   |bl k=>
    rw[rep_bl]at p5;subst p5;cases r5;exact wpAny_truthy_bool ⟨al e1 (al e2 (al e3 (al e4 (al e5 rfl)))),G5,H5,I5,(((x1.trans x2).trans x3).trans x4).trans x5⟩
   |_=>exact k5.elim
 |_=>exact k3.elim
end
mutual
def b9:D→D→Bool
 |.non,.non=>true
 |.bl a,.bl b=>a==b
 |.int a,.int b=>a==b
 |.bl a,.int b=>(if a then (1:Int) else 0)==b
 |.int a,.bl b=>a==(if b then (1:Int) else 0)
 |.str a,.str b=>a==b
 |.lst a,.lst b=>eqBL a b
 |.tup a,.tup b=>eqBL a b
 |_,_=>false
def eqBL:List D→List D→Bool
 | [],[]=>true
 |a::as,b::bs=>b9 a b&&eqBL as bs
 |_,_=>false
end
mutual
def a7:Nat→D→Bool
 |_,.non=>true
 |_,.bl _=>true
 |_,.int _=>true
 |_,.str _=>true
 |n,.lst l=>decide (1≤n)&&plL (n-1) l
 |n,.tup l=>decide (1≤n)&&plL (n-1) l
 |_,.ins _ _ _=>false
 |_,.dct _ _=>false
 |_,.scr _=>false
 |_,.xc _=>false
 |_,.fdc _ _=>false
def plL:Nat→List D→Bool
 |_,[]=>true
 |n,d::ds=>a7 n d&&plL n ds
end
theorem vg:∀{n:Nat} {ds:List D} {i:Nat} {d:D},plL n ds=true→ds[i]?=some d→a7 n d=true
 |_,[],_,_,_,e=>by simp at e
 |n,a::as,0,_,h,e=>by
  simp at e;subst e;unfold plL at h;rw[and_eq_true]at h;exact h.1
 |n,a::as,i+1,d,h,e=>by
  unfold plL at h;rw[and_eq_true]at h;exact vg (i:=i) h.2 (by simpa using e)
theorem rE:∀{as bs:List D} {n:Nat} {e:Nat→Bool},as.length=bs.length→(∀(i:Nat) (a b:D),as[i]?=some a→bs[i]?=some b→e i=b9 a b)→n=as.length→(List.range n).all e=eqBL as bs
 | [],[],_,_,_,_,hn=>by subst hn;unfold eqBL;rfl
 | [],_::_,_,_,h,_,_=>by simp at h
 |_::_,[],_,_,h,_,_=>by simp at h
 |a::as,b::bs,n,e,h,he,hn=>by
  subst hn;unfold eqBL;rw[length_cons,List.range_succ_eq_map,List.all_cons,he 0 a b rfl rfl,all_map];congr 1;exact rE (e:=e ∘ Nat.succ) (by simpa using h) (λi x y hx hy=>he (i+1) x y (by simpa using hx) (by simpa using hy)) rfl
theorem mL:∀{as bs:List D},as.length≠bs.length→eqBL as bs=false
 | [],[],h=>absurd rfl h
 | [],_::_,_=>by unfold eqBL;rfl
 |_::_,[],_=>by unfold eqBL;rfl
 |a::as,b::bs,h=>by
  unfold eqBL;rw[mL (as:=as) (bs:=bs) (λz=>h (by simp[z])),Bool.and_false]
mutual
theorem rF:∀{n:Nat} {d:D},a7 n d=true→b9 d d=true
 |_,.non,_=>by unfold b9;rfl
 |_,.bl b,_=>by unfold b9;simp
 |_,.int b,_=>by unfold b9;simp
 |_,.str b,_=>by unfold b9;simp
 |n,.lst l,h=>by
  unfold a7 at h;rw[and_eq_true]at h;unfold b9;exact eqBL_refl h.2
 |n,.tup l,h=>by
  unfold a7 at h;rw[and_eq_true]at h;unfold b9;exact eqBL_refl h.2
 |_,.ins _ _ _,h=>by unfold a7 at h;cases h
theorem eqBL_refl:∀{n:Nat} {ds:List D},plL n ds=true→eqBL ds ds=true
 |_,[],_=>by unfold eqBL;rfl
 |n,d::ds,h=>by
  unfold plL at h;rw[and_eq_true]at h;unfold eqBL;rw[rF h.1,eqBL_refl h.2];rfl
end
section
variable{X:Cx}{E:XK}{pins:Z9}{σ:St}{G H:Hp}{s:Shared}
def Inv.isTup (I:Inv X pins σ H s){a:Zz}{xs:List V}(h:lT X.K H a xs):∃its:List Value,Vals xs its∧s.heap.IsTuple a its.toArray:=by
 obtain⟨its,r,p,_⟩:=I.tuple h;exact⟨its,r,p⟩
def Inv.isLst (I:Inv X pins σ H s){a:Zz}{xs:List V}(h:f_ X.K H a xs):∃its:List Value,Vals xs its∧s.heap.IsList a its.toArray:=by
 obtain⟨its,r,p,_⟩:=I.list h;exact⟨its,r,p.isList⟩
mutual
theorem Rep.inj (I:Inv X pins σ H s)(hs:Same G H):∀{n m:Nat} {d e:D} {x:V},a7 n d=true→a7 m e=true→Rep X.K G d x→Rep X.K G e x→d=e
 |_,_,.non,e,x,_,he,hx,hy=>by
  rw[rep_non]at hx;subst hx;cases e with
  |non=>rfl
  |bl b=>rw[rep_bl]at hy;cases hy
  |int b=>rw[rep_int]at hy;cases hy
  |str b=>rw[rep_str]at hy;cases hy
  |lst b=>rw[rep_lst]at hy;obtain⟨_,_,q,_⟩:=hy;cases q
  |tup b=>rw[rep_tup]at hy;obtain⟨_,_,q,_⟩:=hy;cases q
  |ins _ _ _=>unfold a7 at he;cases he
  |dct _ _=>unfold a7 at he;cases he
  |scr _=>unfold a7 at he;cases he
  |xc _=>unfold a7 at he;cases he
  |fdc _ _=>unfold a7 at he;cases he
 |_,_,.bl c,e,x,_,he,hx,hy=>by
  rw[rep_bl]at hx;subst hx;cases e with
  |non=>rw[rep_non]at hy;cases hy
  |bl b=>rw[rep_bl]at hy;cases hy;rfl
  |int b=>rw[rep_int]at hy;cases hy
  |str b=>rw[rep_str]at hy;cases hy
  |lst b=>rw[rep_lst]at hy;obtain⟨_,_,q,_⟩:=hy;cases q
  |tup b=>rw[rep_tup]at hy;obtain⟨_,_,q,_⟩:=hy;cases q
  |ins _ _ _=>unfold a7 at he;cases he
  |dct _ _=>unfold a7 at he;cases he
  |scr _=>unfold a7 at he;cases he
  |xc _=>unfold a7 at he;cases he
  |fdc _ _=>unfold a7 at he;cases he
 |_,_,.int c,e,x,_,he,hx,hy=>by
  rw[rep_int]at hx;subst hx;cases e with
  |non=>rw[rep_non]at hy;cases hy
  |bl b=>rw[rep_bl]at hy;cases hy
  |int b=>rw[rep_int]at hy;cases hy;rfl
  |str b=>rw[rep_str]at hy;cases hy
  |lst b=>rw[rep_lst]at hy;obtain⟨_,_,q,_⟩:=hy;cases q
  |tup b=>rw[rep_tup]at hy;obtain⟨_,_,q,_⟩:=hy;cases q
  |ins _ _ _=>unfold a7 at he;cases he
  |dct _ _=>unfold a7 at he;cases he
  |scr _=>unfold a7 at he;cases he
  |xc _=>unfold a7 at he;cases he
  |fdc _ _=>unfold a7 at he;cases he
 |_,_,.str c,e,x,_,he,hx,hy=>by
  rw[rep_str]at hx;subst hx;cases e with
  |non=>rw[rep_non]at hy;cases hy
  |bl b=>rw[rep_bl]at hy;cases hy
  |int b=>rw[rep_int]at hy;cases hy
  |str b=>rw[rep_str]at hy;cases hy;rfl
  |lst b=>rw[rep_lst]at hy;obtain⟨_,_,q,_⟩:=hy;cases q
  |tup b=>rw[rep_tup]at hy;obtain⟨_,_,q,_⟩:=hy;cases q
  |ins _ _ _=>unfold a7 at he;cases he
  |dct _ _=>unfold a7 at he;cases he
  |scr _=>unfold a7 at he;cases he
  |xc _=>unfold a7 at he;cases he
  |fdc _ _=>unfold a7 at he;cases he
 |n,m,.lst c,e,x,hd,he,hx,hy=>by
  rw[rep_lst]at hx;obtain⟨a,xs,rfl,sq,rl⟩:=hx;unfold a7 at hd;rw[and_eq_true]at hd;cases e with
  |non=>rw[rep_non]at hy;cases hy
  |bl b=>rw[rep_bl]at hy;cases hy
  |int b=>rw[rep_int]at hy;cases hy
  |str b=>rw[rep_str]at hy;cases hy
  |lst b=>
   rw[rep_lst]at hy;obtain⟨a',ys,q,p,r⟩:=hy;cases q;rw[I.list_inj (hs.seq p.sq) (hs.seq sq.sq)]at r;unfold a7 at he;rw[and_eq_true]at he;rw[RepL.inj I hs hd.2 he.2 rl r]
  |tup b=>
   rw[rep_tup]at hy;obtain⟨a',ys,q,p,r⟩:=hy;cases q;obtain⟨_,_,p1⟩:=I.isLst (hs.seq sq.sq);obtain⟨_,_,p2⟩:=I.isTup (hs.seqT p.sq);exact absurd rfl (SeqAt.ne_of_list_tuple p1 p2)
  |ins _ _ _=>unfold a7 at he;cases he
  |dct _ _=>unfold a7 at he;cases he
  |scr _=>unfold a7 at he;cases he
  |xc _=>unfold a7 at he;cases he
  |fdc _ _=>unfold a7 at he;cases he
 |n,m,.tup c,e,x,hd,he,hx,hy=>by
  rw[rep_tup]at hx;obtain⟨a,xs,rfl,sq,rl⟩:=hx;unfold a7 at hd;rw[and_eq_true]at hd;cases e with
  |non=>rw[rep_non]at hy;cases hy
  |bl b=>rw[rep_bl]at hy;cases hy
  |int b=>rw[rep_int]at hy;cases hy
  |str b=>rw[rep_str]at hy;cases hy
  |tup b=>
   rw[rep_tup]at hy;obtain⟨a',ys,q,p,r⟩:=hy;cases q;rw[I.tuple_inj (hs.seqT p.sq) (hs.seqT sq.sq)]at r;unfold a7 at he;rw[and_eq_true]at he;rw[RepL.inj I hs hd.2 he.2 rl r]
  |lst b=>
   rw[rep_lst]at hy;obtain⟨a',ys,q,p,r⟩:=hy;cases q;obtain⟨_,_,p1⟩:=I.isLst (hs.seq p.sq);obtain⟨_,_,p2⟩:=I.isTup (hs.seqT sq.sq);exact absurd rfl (SeqAt.ne_of_list_tuple p1 p2)
  |ins _ _ _=>unfold a7 at he;cases he
  |dct _ _=>unfold a7 at he;cases he
  |scr _=>unfold a7 at he;cases he
  |xc _=>unfold a7 at he;cases he
  |fdc _ _=>unfold a7 at he;cases he
 |_,_,.ins _ _ _,_,_,hd,_,_,_=>by unfold a7 at hd;cases hd
theorem RepL.inj (I:Inv X pins σ H s)(hs:Same G H):∀{n m:Nat} {ds es:List D} {xs:List V},plL n ds=true→plL m es=true→RepL X.K G ds xs→RepL X.K G es xs→ds=es
 |_,_,[],es,_,_,_,h,h'=>by
  rw[h.inv0]at h';cases es with
  |nil=>rfl
  |cons e es=>obtain⟨_,_,q,_⟩:=h'.inv;cases q
 |_,_,d::ds,es,_,hd,he,h,h'=>by
  obtain⟨v,r,rfl,a,b⟩:=h.inv;cases es with
  |nil=>have z:=h'.inv0;cases z
  |cons e es=>
   obtain⟨v',r',q,a',b'⟩:=h'.inv;cases q;unfold plL at hd he;rw[and_eq_true]at hd he;rw[Rep.inj I hs hd.1 he.1 a a',RepL.inj I hs hd.2 he.2 b b']
end
end
end L2
namespace L2
open PySem PySem.Spec PyProof.Rows PySem.SeqAt
section
variable{X:Cx}{E:XK}{pins:Z9}{σ:St}{G H:Hp}{s:Shared}
def FF (A:Zl)(s:Z3)(u v:Zc)(b:Bool):Prop:=EqAt A s u v b∧RcAt A s u v b∧RcNeAt A s u v (!b)
def vE {xs:List V}{us:Z1}(r:Vals xs us){j:Nat}(h:j<us.toArray.size):∃x,xs[j]?=some x∧RelV x us.toArray[j]:=by
 have hl:=r.length;have h':j<us.length:=by simpa using h
 have hx:j<xs.length:=by omega
 obtain⟨u,hu,ru⟩:=r.get (i:=j) (x:=xs[j]) (by simp[hx]);refine⟨xs[j],by simp[hx],?_⟩;have e:us.toArray[j]=u:=by
  have q:us[j]?=some us[j]:=by simp[h']
  rw[q]at hu;cases hu;simp
 rw[e];exact ru
def jY {n:Nat}{ds es:List D}{xs ys:List V}{us vs:Z1}{A:Zl}(rd:RepL X.K G ds xs)(re:RepL X.K G es ys)(ru:Vals xs us)(rv:Vals ys vs)(ih:∀(d e:D) (x y:V) (u v:Value),d∈ds→e∈es→Rep X.K G d x→Rep X.K G e y→RelV x u→RelV y v→EqAt A s u v (b9 d e)) :
  ∀j (h1:j<us.toArray.size) (h2:j<vs.toArray.size),EqAt A s us.toArray[j] vs.toArray[j] (b9 (ds.getD j .non) (es.getD j .non)):=by
 intro j h1 h2;obtain⟨x,hx,rx⟩:=vE ru h1;obtain⟨y,hy,ry⟩:=vE rv h2;have l1:=rd.length;have l2:=re.length;have jx:j<ds.length:=by rw[l1];exact(d8 hx).1
 have jy:j<es.length:=by rw[l2];exact(d8 hy).1
 have e1:ds[j]?=some ds[j]:=by simp[jx]
 have e2:es[j]?=some es[j]:=by simp[jy]
 obtain⟨x',hx',px⟩:=rd.get e1;obtain⟨y',hy',py⟩:=re.get e2;rw[hx]at hx';cases hx';rw[hy]at hy';cases hy';have g1:ds.getD j .non=ds[j]:=by simp[List.getD,e1]
 have g2:es.getD j .non=es[j]:=by simp[List.getD,e2]
 rw[g1,g2];exact ih _ _ x y _ _ (getElem_mem jx) (getElem_mem jy) px py rx ry
def uW {ds:List D}{i:Nat}{d:D}(h:ds[i]?=some d):ds.getD i .non=d:=by simp[List.getD,h]
def mM {ds es:List D}{us vs:Z1}{xs ys:List V}(rd:RepL X.K G ds xs)(re:RepL X.K G es ys)(ru:Vals xs us)(rv:Vals ys vs)(hsz:us.toArray.size=vs.toArray.size) :(List.range us.toArray.size).all (λj=>b9 (ds.getD j .non) (es.getD j .non))=eqBL ds es:=by
 have l1:=rd.length;have l2:=re.length;have l3:=ru.length;have l4:=rv.length;have h1:us.length=vs.length:=by simpa using hsz
 refine rE (by omega) (λi a b ha hb=>?_) (by simp;omega);rw[uW ha,uW hb]
def FI (K:Z8)(G:Hp)(s:Z3):D→Value→Prop
 |.non,u=>u= .none
 |.bl b,u=>u= .bool b
 |.int i,u=>∃t,u= .int i t
 |.str x,u=>∃t,u= .str x t
 |.lst ds,u=>∃a its xs,u= .ref a∧s.heap.IsList a its.toArray∧RepL K G ds xs∧Vals xs its
 |.tup ds,u=>∃a its xs,u= .ref a∧s.heap.IsTuple a its.toArray∧RepL K G ds xs∧Vals xs its
 |.ins _ _ _,_=>True
 |.dct _ _,_=>True
 |.scr _,_=>True
 |.xc _,_=>True
 |.fdc _ _,_=>True
def j8 (I:Inv X pins σ H s)(hs:Same G H){d:D}{x:V}{u:Zc}(rx:Rep X.K G d x)(ru:RelV x u):FI X.K G s d u:=by
 cases d with
 |non=>rw[rep_non]at rx;subst rx;exact ru
 |bl b=>rw[rep_bl]at rx;subst rx;exact ru
 |int i=>rw[rep_int]at rx;subst rx;exact ru
 |str i=>rw[rep_str]at rx;subst rx;exact ru
 |lst l=>
  rw[rep_lst]at rx;obtain⟨a,xs,rfl,sq,rl⟩:=rx;obtain⟨its,r,p⟩:=I.isLst (hs.seq sq.sq);exact⟨a,its,xs,ru,p,rl,r⟩
 |tup l=>
  rw[rep_tup]at rx;obtain⟨a,xs,rfl,sq,rl⟩:=rx;obtain⟨its,r,p⟩:=I.isTup (hs.seqT sq.sq);exact⟨a,its,xs,ru,p,rl,r⟩
 |ins _ _ _=>trivial
 |dct _ _=>trivial
 |scr _=>trivial
 |xc _=>trivial
 |fdc _ _=>trivial
def vU {n m:Nat}{ds es:List D}{xs ys:List V}{us vs:Z1}{A:Zl}(hu:A.units<cLine)(ha:s.heap.IsList a us.toArray)(hb:s.heap.IsList b vs.toArray)(rd:RepL X.K G ds xs)(re:RepL X.K G es ys)(ru:Vals xs us)(rv:Vals ys vs)(same:a=b→eqBL ds es=true)(ih:∀(d e:D) (x y:V) (u v:Value),d∈ds→e∈es→Rep X.K G d x→Rep X.K G e y→RelV x u→RelV y v→EqAt A.in1 s u v (b9 d e)):FF A s (.ref a) (.ref b) (eqBL ds es):=by
 have l1:=rd.length;have l2:=re.length;have l3:=ru.length;have l4:=rv.length;have rc:RcAt A s (.ref a) (.ref b) (eqBL ds es)∧RcNeAt A s (.ref a) (.ref b) (!eqBL ds es):=by
  by_cases r:us.toArray.size=vs.toArray.size
  ·have e1:=mM rd re ru rv r;rw[←e1];exact⟨RcAt.lists ha hb r hu (jY (n:=n) rd re ru rv ih),RcNeAt.lists ha hb r hu (jY (n:=n) rd re ru rv ih)⟩
  ·have e1:eqBL ds es=false:=mL λz=>r (by simp;omega);rw[e1];have hne:(us.toArray.size != vs.toArray.size)=true:=by simpa using r
   exact⟨RcAt.lists_lengths ha hb hne hu,RcNeAt.lists_lengths ha hb hne hu⟩
 refine⟨?_,rc.1,rc.2⟩;by_cases hab:a=b
 ·subst hab;rw[same rfl];exact EqAt.same _
 ·exact EqAt.of_refs hab rc.1
def tH {n m:Nat}{ds es:List D}{xs ys:List V}{us vs:Z1}{A:Zl}(hu:A.units<cLine)(ha:s.heap.IsTuple a us.toArray)(hb:s.heap.IsTuple b vs.toArray)(rd:RepL X.K G ds xs)(re:RepL X.K G es ys)(ru:Vals xs us)(rv:Vals ys vs)(same:a=b→eqBL ds es=true)(ih:∀(d e:D) (x y:V) (u v:Value),d∈ds→e∈es→Rep X.K G d x→Rep X.K G e y→RelV x u→RelV y v→EqAt A.in1 s u v (b9 d e)):FF A s (.ref a) (.ref b) (eqBL ds es):=by
 have l1:=rd.length;have l2:=re.length;have l3:=ru.length;have l4:=rv.length;have val:((List.range (min us.toArray.size vs.toArray.size)).all (λj=>b9 (ds.getD j .non) (es.getD j .non))&&us.toArray.size==vs.toArray.size)=eqBL ds es:=by
  by_cases r:us.toArray.size=vs.toArray.size
  ·have e1:=mM rd re ru rv r;rw[←r,Nat.min_self,e1];simp
  ·have e1:eqBL ds es=false:=mL λz=>r (by simp;omega);have e2:(us.toArray.size==vs.toArray.size)=false:=by simpa using r
   rw[e1,e2,Bool.and_false]
 have rc:RcAt A s (.ref a) (.ref b) (eqBL ds es)∧RcNeAt A s (.ref a) (.ref b) (!eqBL ds es):=by
  rw[←val];exact⟨RcAt.tuples ha hb hu (jY (n:=n) rd re ru rv ih),RcNeAt.tuples ha hb hu (jY (n:=n) rd re ru rv ih)⟩
 refine⟨?_,rc.1,rc.2⟩;by_cases hab:a=b
 ·subst hab;rw[same rfl];exact EqAt.same _
 ·exact EqAt.of_refs hab rc.1
def dq {n:Nat}{ds:List D}{d:D}(h:plL n ds=true)(hd:d∈ds):a7 n d=true:=by
 obtain⟨i,hi⟩:=List.getElem?_of_mem hd;exact vg h hi
def mK (I:Inv X pins σ H s)(hs:Same G H):∀(n m:Nat) (d e:D) (x y:V) (u v:Zc) (A:Around),a7 n d=true→a7 m e=true→Rep X.K G d x→Rep X.K G e y→RelV x u→RelV y v→A.units+n<cLine→FF A s u v (b9 d e):=by
 intro n
 induction n with
 |zero=>
  intro m d e x y u v A F B rx L Q P hu;have kd:=j8 I hs rx Q;have C:=j8 I hs L P;have w:A.units<cLine:=by omega
  cases d with
  |lst l=>unfold a7 at F;simp at F
  |tup l=>unfold a7 at F;simp at F
  |ins _ _ _=>unfold a7 at F;cases F
  |dct _ _=>unfold a7 at F;cases F
  |scr _=>unfold a7 at F;cases F
  |xc _=>unfold a7 at F;cases F
  |fdc _ _=>unfold a7 at F;cases F
  |non=>
   cases (show u= .none from kd);cases e with
   |non=>cases (show v= .none from C);unfold b9;exact⟨EqAt.same _,RcAt.none_none,RcNeAt.none_none⟩
   |bl b=>cases (show v= .bool b from C);unfold b9;exact⟨EqAt.none_bool _,RcAt.none_bool _,RcNeAt.none_bool _⟩
   |int b=>obtain⟨t,rfl⟩:=C;unfold b9;exact⟨EqAt.none_int _ _,RcAt.none_int _ _,RcNeAt.none_int _ _⟩
   |str b=>obtain⟨t,rfl⟩:=C;unfold b9;exact⟨EqAt.none_str _ _,RcAt.none_str _ _,RcNeAt.none_str _ _⟩
   |lst b=>obtain⟨a,J,O,rfl,p,_⟩:=C;unfold b9;exact⟨EqAt.none_list p w,RcAt.none_list p w,RcNeAt.none_list p w⟩
   |tup b=>obtain⟨a,J,O,rfl,p,_⟩:=C;unfold b9;exact⟨EqAt.none_tuple p w,RcAt.none_tuple p w,RcNeAt.none_tuple p w⟩
   |ins _ _ _=>unfold a7 at B;cases B
   |dct _ _=>unfold a7 at B;cases B
   |scr _=>unfold a7 at B;cases B
   |xc _=>unfold a7 at B;cases B
   |fdc _ _=>unfold a7 at B;cases B
  |bl c=>
   cases (show u= .bool c from kd);cases e with
   |non=>cases (show v= .none from C);unfold b9;exact⟨EqAt.bool_none _,RcAt.bool_none _,RcNeAt.bool_none _⟩
   |bl b=>cases (show v= .bool b from C);unfold b9;exact⟨EqAt.bool_bool _ _,RcAt.bool_bool _ _,RcNeAt.bool_bool _ _⟩
   |int b=>obtain⟨t,rfl⟩:=C;unfold b9;exact⟨EqAt.bool_int _ _ _,RcAt.bool_int _ _ _,RcNeAt.bool_int _ _ _⟩
   |str b=>obtain⟨t,rfl⟩:=C;unfold b9;exact⟨EqAt.bool_str _ _ _,RcAt.bool_str _ _ _,RcNeAt.bool_str _ _ _⟩
   |lst b=>obtain⟨a,J,O,rfl,p,_⟩:=C;unfold b9;exact⟨EqAt.bool_list _ p w,RcAt.bool_list _ p w,RcNeAt.bool_list _ p w⟩
   |tup b=>obtain⟨a,J,O,rfl,p,_⟩:=C;unfold b9;exact⟨EqAt.bool_tuple _ p w,RcAt.bool_tuple _ p w,RcNeAt.bool_tuple _ p w⟩
   |ins _ _ _=>unfold a7 at B;cases B
   |dct _ _=>unfold a7 at B;cases B
   |scr _=>unfold a7 at B;cases B
   |xc _=>unfold a7 at B;cases B
   |fdc _ _=>unfold a7 at B;cases B
  |int c=>
   obtain⟨t0,rfl⟩:=kd;cases e with
   |non=>cases (show v= .none from C);unfold b9;exact⟨EqAt.int_none _ _,RcAt.int_none _ _,RcNeAt.int_none _ _⟩
   |bl b=>cases (show v= .bool b from C);unfold b9;exact⟨EqAt.int_bool _ _ _,RcAt.int_bool _ _ _,RcNeAt.int_bool _ _ _⟩
   |int b=>obtain⟨t,rfl⟩:=C;unfold b9;exact⟨EqAt.int_int _ _ _ _,RcAt.int_int _ _ _ _,RcNeAt.int_int _ _ _ _⟩
   |str b=>obtain⟨t,rfl⟩:=C;unfold b9;exact⟨EqAt.int_str _ _ _ _,RcAt.int_str _ _ _ _,RcNeAt.int_str _ _ _ _⟩
   |lst b=>obtain⟨a,J,O,rfl,p,_⟩:=C;unfold b9;exact⟨EqAt.int_list _ _ p w,RcAt.int_list _ _ p w,RcNeAt.int_list _ _ p w⟩
   |tup b=>obtain⟨a,J,O,rfl,p,_⟩:=C;unfold b9;exact⟨EqAt.int_tuple _ _ p w,RcAt.int_tuple _ _ p w,RcNeAt.int_tuple _ _ p w⟩
   |ins _ _ _=>unfold a7 at B;cases B
   |dct _ _=>unfold a7 at B;cases B
   |scr _=>unfold a7 at B;cases B
   |xc _=>unfold a7 at B;cases B
   |fdc _ _=>unfold a7 at B;cases B
  |str c=>
   obtain⟨t0,rfl⟩:=kd;cases e with
   |non=>cases (show v= .none from C);unfold b9;exact⟨EqAt.str_none _ _,RcAt.str_none _ _,RcNeAt.str_none _ _⟩
   |bl b=>cases (show v= .bool b from C);unfold b9;exact⟨EqAt.str_bool _ _ _,RcAt.str_bool _ _ _,RcNeAt.str_bool _ _ _⟩
   |int b=>obtain⟨t,rfl⟩:=C;unfold b9;exact⟨EqAt.str_int _ _ _ _,RcAt.str_int _ _ _ _,RcNeAt.str_int _ _ _ _⟩
   |str b=>obtain⟨t,rfl⟩:=C;unfold b9;exact⟨EqAt.str_str _ _ _ _,RcAt.str_str _ _ _ _,RcNeAt.str_str _ _ _ _⟩
   |lst b=>obtain⟨a,J,O,rfl,p,_⟩:=C;unfold b9;exact⟨EqAt.str_list _ _ p w,RcAt.str_list _ _ p w,RcNeAt.str_list _ _ p w⟩
   |tup b=>obtain⟨a,J,O,rfl,p,_⟩:=C;unfold b9;exact⟨EqAt.str_tuple _ _ p w,RcAt.str_tuple _ _ p w,RcNeAt.str_tuple _ _ p w⟩
   |ins _ _ _=>unfold a7 at B;cases B
   |dct _ _=>unfold a7 at B;cases B
   |scr _=>unfold a7 at B;cases B
   |xc _=>unfold a7 at B;cases B
   |fdc _ _=>unfold a7 at B;cases B
 |succ n ih=>
  intro m d e x y u v A F B rx L Q P hu;have kd:=j8 I hs rx Q;have C:=j8 I hs L P;have w:A.units<cLine:=by omega
  have hu1:A.in1.units+n<cLine:=by show A.units+1+n<cLine;omega
  have R:∀(c:D),a7 (n+1) c=true→(match c with|.lst _=>False|.tup _=>False|_=>True)→a7 n c=true:=λc h hc=>by cases c <;> first|exact hc.elim|(unfold a7 at h ⊢;exact h)
  cases d with
  |lst l=>
   obtain⟨a,us,O,rfl,E,rl,r1⟩:=kd;have hd':=F;unfold a7 at hd';rw[and_eq_true]at hd';cases e with
   |non=>cases (show v= .none from C);unfold b9;exact⟨EqAt.list_none E w,RcAt.list_none E w,RcNeAt.list_none E w⟩
   |bl b=>cases (show v= .bool b from C);unfold b9;exact⟨EqAt.list_bool _ E w,RcAt.list_bool _ E w,RcNeAt.list_bool _ E w⟩
   |int b=>obtain⟨t,rfl⟩:=C;unfold b9;exact⟨EqAt.list_int _ _ E w,RcAt.list_int _ _ E w,RcNeAt.list_int _ _ E w⟩
   |str b=>obtain⟨t,rfl⟩:=C;unfold b9;exact⟨EqAt.list_str _ _ E w,RcAt.list_str _ _ E w,RcNeAt.list_str _ _ E w⟩
   |lst l2=>
    obtain⟨b,vs,ys,rfl,N,M,r2⟩:=C;have he':=B;unfold a7 at he';rw[and_eq_true]at he';unfold b9;refine vU (X:=X) (n:=n) (m:=m) w E N rl M r1 r2 (λhab=>?_) λd' e' x' y' u' v' hm1 hm2 q1 q2 q3 q4=>(ih (m-1) d' e' x' y' u' v' A.in1 (dq hd'.2 hm1) (dq he'.2 hm2) q1 q2 q3 q4 hu1).1;subst hab;have ex:x= .ref a:=by rw[rep_lst]at rx;obtain⟨a',_,rfl,_⟩:=rx;cases Q;rfl
    have ey:y= .ref a:=by rw[rep_lst]at L;obtain⟨a',_,rfl,_⟩:=L;cases P;rfl
    subst ex ey;have z:=Rep.inj I hs F B rx L;cases z;exact eqBL_refl hd'.2
   |tup l2=>
    obtain⟨b,vs,ys,rfl,N,M,r2⟩:=C;unfold b9;exact⟨EqAt.list_tuple E N w,RcAt.list_tuple E N w,RcNeAt.list_tuple E N w⟩
   |ins _ _ _=>unfold a7 at B;cases B
   |dct _ _=>unfold a7 at B;cases B
   |scr _=>unfold a7 at B;cases B
   |xc _=>unfold a7 at B;cases B
   |fdc _ _=>unfold a7 at B;cases B
  |tup l=>
   obtain⟨a,us,O,rfl,E,rl,r1⟩:=kd;have hd':=F;unfold a7 at hd';rw[and_eq_true]at hd';cases e with
   |non=>cases (show v= .none from C);unfold b9;exact⟨EqAt.tuple_none E w,RcAt.tuple_none E w,RcNeAt.tuple_none E w⟩
   |bl b=>cases (show v= .bool b from C);unfold b9;exact⟨EqAt.tuple_bool _ E w,RcAt.tuple_bool _ E w,RcNeAt.tuple_bool _ E w⟩
   |int b=>obtain⟨t,rfl⟩:=C;unfold b9;exact⟨EqAt.tuple_int _ _ E w,RcAt.tuple_int _ _ E w,RcNeAt.tuple_int _ _ E w⟩
   |str b=>obtain⟨t,rfl⟩:=C;unfold b9;exact⟨EqAt.tuple_str _ _ E w,RcAt.tuple_str _ _ E w,RcNeAt.tuple_str _ _ E w⟩
   |tup l2=>
    obtain⟨b,vs,ys,rfl,N,M,r2⟩:=C;have he':=B;unfold a7 at he';rw[and_eq_true]at he';unfold b9;refine tH (X:=X) (n:=n) (m:=m) w E N rl M r1 r2 (λhab=>?_) λd' e' x' y' u' v' hm1 hm2 q1 q2 q3 q4=>(ih (m-1) d' e' x' y' u' v' A.in1 (dq hd'.2 hm1) (dq he'.2 hm2) q1 q2 q3 q4 hu1).1;subst hab;have ex:x= .ref a:=by rw[rep_tup]at rx;obtain⟨a',_,rfl,_⟩:=rx;cases Q;rfl
    have ey:y= .ref a:=by rw[rep_tup]at L;obtain⟨a',_,rfl,_⟩:=L;cases P;rfl
    subst ex ey;have z:=Rep.inj I hs F B rx L;cases z;exact eqBL_refl hd'.2
   |lst l2=>
    obtain⟨b,vs,ys,rfl,N,M,r2⟩:=C;unfold b9;exact⟨EqAt.tuple_list E N w,RcAt.tuple_list E N w,RcNeAt.tuple_list E N w⟩
   |ins _ _ _=>unfold a7 at B;cases B
   |dct _ _=>unfold a7 at B;cases B
   |scr _=>unfold a7 at B;cases B
   |xc _=>unfold a7 at B;cases B
   |fdc _ _=>unfold a7 at B;cases B
  |ins _ _ _=>unfold a7 at F;cases F
  |dct _ _=>unfold a7 at F;cases F
  |scr _=>unfold a7 at F;cases F
  |xc _=>unfold a7 at F;cases F
  |fdc _ _=>unfold a7 at F;cases F
  |non=>exact ih m _ e x y u v A (R _ F trivial) B rx L Q P (by omega)
  |bl c=>exact ih m _ e x y u v A (R _ F trivial) B rx L Q P (by omega)
  |int c=>exact ih m _ e x y u v A (R _ F trivial) B rx L Q P (by omega)
  |str c=>exact ih m _ e x y u v A (R _ F trivial) B rx L Q P (by omega)
def Cy (d e:D):Res D:=if a7 20 d=true∧a7 20 e=true then .ok (.bl (b9 d e)) else .bad
def lK (d e:D):Res D:=if a7 20 d=true∧a7 20 e=true then .ok (.bl (!b9 d e)) else .bad
def xw (hu:X.A.units+64<cLine):DOp X E (compareOp .Eq) Cy:=by
 intro pins s σ G H x y dx dy v u I hs rx ry rv ru ok;unfold Cy at ok ⊢;by_cases h:a7 20 dx=true∧a7 20 dy=true
 ·rw[Yj h];exact(mK I hs 20 20 dx dy x y v u X.A h.1 h.2 rx ry rv ru (by omega)).2.1 _ _ _ _ ⟨_,rfl,.bl (b9 dx dy),G,H,I,rfl,.refl hs,rep_bl.mpr rfl⟩
 ·rw[Yi h]at ok;exact ok.elim
def gc (hu:X.A.units+64<cLine):DOp X E (compareOp .NotEq) lK:=by
 intro pins s σ G H x y dx dy v u I hs rx ry rv ru ok;unfold lK at ok ⊢;by_cases h:a7 20 dx=true∧a7 20 dy=true
 ·rw[Yj h];exact(mK I hs 20 20 dx dy x y v u X.A h.1 h.2 rx ry rv ru (by omega)).2.2 _ _ _ _ ⟨_,rfl,.bl (!b9 dx dy),G,H,I,rfl,.refl hs,rep_bl.mpr rfl⟩
 ·rw[Yi h]at ok;exact ok.elim
end
section
variable{X:Cx}{E:XK}{pins:Z9}{σ:St}{G H:Hp}{s:Shared}
open Classical in
noncomputable def w_ (K:Z8)(G:Hp)(ds:List D)(dx:D)(u:Zc):Bool:=decide (∃d x,d∈ds∧Rep K G d x∧RelV x u∧b9 d dx=true)
def fU (I:Inv X pins σ H s)(hs:Same G H){ds:List D}{dx d:D}{x:V}{u:Zc}(hp:plL 19 ds=true)(hd:d∈ds)(rx:Rep X.K G d x)(ru:RelV x u):w_ X.K G ds dx u=b9 d dx:=by
 unfold w_;cases e:b9 d dx with
 |true=>exact @decide_eq_true _ (Classical.propDecidable _) ⟨d,x,hd,rx,ru,e⟩
 |false=>
  refine @decide_eq_false _ (Classical.propDecidable _) λhZ133=>?_;obtain⟨d',x',hd',rx',ru',e'⟩:=hZ133;have hx:x'=x:=RelV.inj ru' ru;subst hx;rw[Rep.inj I hs (dq hp hd') (dq hp hd) rx' rx,e]at e';cases e'
def gR {ds:List D}{xs:List V}{us:Z1}{f:Value→Bool}{g:D→Bool}:RepL X.K G ds xs→Vals xs us→(∀d x u,d∈ds→Rep X.K G d x→RelV x u→f u=g d)→us.any f=ds.any g:=by
 intro rd
 induction ds generalizing xs us with
 |nil=>intro r _;rw[rd.inv0]at r;cases r;rfl
 |cons d ds ih=>
  intro r h;obtain⟨v,q,rfl,a,b⟩:=rd.inv;cases r with
  |cons r1 r2=>
   rw[any_cons,any_cons,h d v _ mem_cons_self a r1,ih b r2 λd' x' u' hm=>h d' x' u' (cN hm)]
def jn (neg:Bool)(d e:D):Res D:=match e with
 |.lst l=>if plL 19 l=true∧a7 19 d=true then .ok (.bl (if neg then !(l.any λy=>b9 y d) else l.any λy=>b9 y d)) else .bad
 |.tup l=>if plL 19 l=true∧a7 19 d=true then .ok (.bl (if neg then !(l.any λy=>b9 y d) else l.any λy=>b9 y d)) else .bad
 |_=>.bad
def ka {ds:List D}{xs:List V}{us:Z1}(rd:RepL X.K G ds xs)(r:Vals xs us)(hu:u∈us):∃d x,d∈ds∧Rep X.K G d x∧RelV x u:=by
 induction ds generalizing xs us with
 |nil=>rw[rd.inv0]at r;cases r;cases hu
 |cons d ds ih=>
  obtain⟨v,q,rfl,a,b⟩:=rd.inv;cases r with
  |cons r1 r2=>
   rcases mem_cons.mp hu with rfl|hu
   ·exact⟨d,v,mem_cons_self,a,r1⟩
   ·obtain⟨d',x',h1,h2,h3⟩:=ih b r2 hu;exact⟨d',x',cN h1,h2,h3⟩
def xy (hu:X.A.units+64<cLine):DOp X E (compareOp .In) (jn false):=by
 intro pins s σ G H x y F dy v u I j rx ry rv ru ok;unfold jn at ok ⊢;cases dy with
 |lst l=>
  dsimp only at ok ⊢;by_cases h:plL 19 l=true∧a7 19 F=true
  ·rw[Yj h];rw[rep_lst]at ry;obtain⟨a,xs,rfl,sq,rl⟩:=ry;cases (show u= .ref a from ru);obtain⟨its,r,p⟩:=I.isLst (j.seq sq.sq);refine in_listAt (w_ X.K G l F) p (λw hw=>?_) ?_
   ·obtain⟨d,z,h1,B,J⟩:=ka rl r (by simpa using hw);rw[fU I j h.1 h1 B J];exact(mK I j 19 19 d F z x w v X.A.in1 (dq h.1 h1) h.2 B rx J rv (by show X.A.units+1+19<cLine;omega)).1
   ·have e1:its.toArray.any (w_ X.K G l F)=l.any λy=>b9 y F:=by
     rw[any_toArray];exact gR rl r λd z w hm B J=>fU I j h.1 hm B J
    rw[e1];exact⟨_,rfl,.bl (l.any λy=>b9 y F),G,H,I,rfl,.refl j,rep_bl.mpr rfl⟩
  ·rw[Yi h]at ok;exact ok.elim
 |tup l=>
  dsimp only at ok ⊢;by_cases h:plL 19 l=true∧a7 19 F=true
  ·rw[Yj h];rw[rep_tup]at ry;obtain⟨a,xs,rfl,sq,rl⟩:=ry;cases (show u= .ref a from ru);obtain⟨its,r,p⟩:=I.isTup (j.seqT sq.sq);refine in_tupleAt (w_ X.K G l F) p (λw hw=>?_) ?_
   ·obtain⟨d,z,h1,B,J⟩:=ka rl r (by simpa using hw);rw[fU I j h.1 h1 B J];exact(mK I j 19 19 d F z x w v X.A.in1 (dq h.1 h1) h.2 B rx J rv (by show X.A.units+1+19<cLine;omega)).1
   ·have e1:its.toArray.any (w_ X.K G l F)=l.any λy=>b9 y F:=by
     rw[any_toArray];exact gR rl r λd z w hm B J=>fU I j h.1 hm B J
    rw[e1];exact⟨_,rfl,.bl (l.any λy=>b9 y F),G,H,I,rfl,.refl j,rep_bl.mpr rfl⟩
  ·rw[Yi h]at ok;exact ok.elim
 |_=>exact ok.elim
def gi (hu:X.A.units+64<cLine):DOp X E (compareOp .NotIn) (jn true):=by
 intro pins s σ G H x y F dy v u I j rx ry rv ru ok;unfold jn at ok ⊢;cases dy with
 |lst l=>
  dsimp only at ok ⊢;by_cases h:plL 19 l=true∧a7 19 F=true
  ·rw[Yj h];rw[rep_lst]at ry;obtain⟨a,xs,rfl,sq,rl⟩:=ry;cases (show u= .ref a from ru);obtain⟨its,r,p⟩:=I.isLst (j.seq sq.sq);refine notIn_listAt (w_ X.K G l F) p (λw hw=>?_) ?_
   ·obtain⟨d,z,h1,B,J⟩:=ka rl r (by simpa using hw);rw[fU I j h.1 h1 B J];exact(mK I j 19 19 d F z x w v X.A.in1 (dq h.1 h1) h.2 B rx J rv (by show X.A.units+1+19<cLine;omega)).1
   ·have e1:its.toArray.any (w_ X.K G l F)=l.any λy=>b9 y F:=by
     rw[any_toArray];exact gR rl r λd z w hm B J=>fU I j h.1 hm B J
    rw[e1];exact⟨_,rfl,.bl (!(l.any λy=>b9 y F)),G,H,I,rfl,.refl j,rep_bl.mpr rfl⟩
  ·rw[Yi h]at ok;exact ok.elim
 |tup l=>
  dsimp only at ok ⊢;by_cases h:plL 19 l=true∧a7 19 F=true
  ·rw[Yj h];rw[rep_tup]at ry;obtain⟨a,xs,rfl,sq,rl⟩:=ry;cases (show u= .ref a from ru);obtain⟨its,r,p⟩:=I.isTup (j.seqT sq.sq);refine notIn_tupleAt (w_ X.K G l F) p (λw hw=>?_) ?_
   ·obtain⟨d,z,h1,B,J⟩:=ka rl r (by simpa using hw);rw[fU I j h.1 h1 B J];exact(mK I j 19 19 d F z x w v X.A.in1 (dq h.1 h1) h.2 B rx J rv (by show X.A.units+1+19<cLine;omega)).1
   ·have e1:its.toArray.any (w_ X.K G l F)=l.any λy=>b9 y F:=by
     rw[any_toArray];exact gR rl r λd z w hm B J=>fU I j h.1 hm B J
    rw[e1];exact⟨_,rfl,.bl (!(l.any λy=>b9 y F)),G,H,I,rfl,.refl j,rep_bl.mpr rfl⟩
  ·rw[Yi h]at ok;exact ok.elim
 |_=>exact ok.elim
def Ei:D→Option Value
 |.non=>some (.type "NoneType")
 |.bl _=>some (.type "bool")
 |.int _=>some (.type "int")
 |.str _=>some (.type "str")
 |.lst _=>some (.type "list")
 |.tup _=>some (.type "tuple")
 |.ins _ _ _=>none
 |.dct _ _=>none
 |.scr _=>none
 |.xc C=>some (.ref C)
 |.fdc _ _=>none
def fV (K:Z8)(c:Zc)(d:D):Res D:=match Ei d with
 |some t=>match W.kitOne K t c with|some b=>.ok (.bl b)|none=>.bad
 |none=>.bad
def x9 {A:Zl}{d:D}{x:V}{b:Bool}{Q:Z5}{E':Z5}(I:Inv X pins σ H s)(hs:Same G H)(rx:Rep X.K G d x)(ru:RelV x u)(ht:Ei d=some t)(e:W.kitOne X.K t c=some b)(h:∀tk,Q (.bool b) {s with toks:=tk}) :
  wpAny (model X.prog X.w) A (call (.builtin "isinstance") [u,c]) Q E' s:=by
 have kv:=j8 I hs rx ru;cases d with
 |non=>cases ht;cases (show u= .none from kv);exact W.kia_one W.kitx_none I.kIn True.intro e (λz=>nomatch z) h
 |bl y=>cases ht;cases (show u= .bool y from kv);exact W.kia_one W.kitx_bool I.kIn True.intro e (λz=>nomatch z) h
 |int i=>cases ht;obtain⟨t,rfl⟩:=kv;exact W.kia_one W.kitx_int I.kIn True.intro e (λz=>nomatch z) h
 |str i=>cases ht;obtain⟨t,rfl⟩:=kv;exact W.kia_one W.kitx_str I.kIn True.intro e (λz=>nomatch z) h
 |lst l=>
  cases ht;obtain⟨a,its,xs,rfl,⟨o,h1,h2,_⟩,_⟩:=kv;exact W.kia_one W.kitx_list I.kIn ⟨o,h1,h2⟩ e (λz=>nomatch z) h
 |tup l=>
  cases ht;obtain⟨a,its,xs,rfl,⟨o,h1,h2,_⟩,_⟩:=kv;exact W.kia_one W.kitx_tuple I.kIn ⟨o,h1,h2⟩ e (λz=>nomatch z) h
 |ins _ _ _=>cases ht
 |dct _ _=>cases ht
 |scr _=>cases ht
 |fdc _ _=>cases ht
 |xc C=>
  cases ht;rw[y9]at rx;obtain⟨a,rfl,ha,kk⟩:=rx;cases (show u=Value.ref a from ru);obtain⟨p,_,_⟩:=(show ObjOk X.prog X.w H s.heap a (Ce a (.ref C)) from I.hok a _ (hs a _ ha));exact W.kia_one (yd kk) I.kIn p e (λz=>nomatch z) h
def DH {p pos:Yn}{fa:DS→Res D}{vc:V}(ha:PD X E a fa)(hcl:PE X c (tC vc))(hvc:cV vc≠ .none)(hg:Gl X "isinstance")(hm:X.mg "isinstance" =none)(hs1:starEach [a,c] X.env=(false,eval a X.env)::starEach [c] X.env:=by rfl) (hs2:starEach [c] X.env=(false,eval c X.env)::starEach [] X.env:=by rfl) (hpl:(backTo pos (starEach [c] X.env)).any (·.1)=false:=by rfl) :
  PD X E (.Call (.Name "isinstance" p) [a,c] [] pos) (λρ=>(fa ρ).bind (fV X.K (cV vc))):=by
 intro pins s σ G H ρ I hs hro ho;have hp:PA X [a,c] (vB (tD X.K E fa) (vB (tC vc) BH)):=cf (dP ha) (cf hcl ef hs2) hs1;refine wpAny_Call_Name_kw (iW I hg hm PyProof.Rows.boot_isinstance ?_ (by decide) (by decide));refine PyProof.Rows.callWith_builtin1 (aS (hp pos pins s σ H (λvs H'=>∃d x G',fa ρ= .ok d∧vs=[x,vc]∧Ext G H G' H'∧Rep X.K G' d x) I ?_) λus s1 hZ134=>?_) hs1 hpl
 ·exact⟨G,ρ,hs,hro,ho.fst,λd e v G1 H1 x1 rp=>⟨d,v,G1,e,rfl,x1,rp⟩⟩
 ·obtain⟨vs,H1,I1,r1,d,x,G1,e1,e2,x1,rp⟩:=hZ134;subst e2;obtain⟨u1,u2,rfl,q1,q2⟩:=zG r1;rw[Cr q2 hvc];have k:=ho.snd e1 x1.hh;unfold fV at k;cases ht:Ei d with
  |none=>rw[ht]at k;exact k.elim
  |some t=>
   rw[ht]at k;dsimp only at k;cases hk:W.kitOne X.K t (cV vc) with
   |none=>rw[hk]at k;exact k.elim
   |some b=>exact x9 I1 x1.gh rp q1 ht hk λtk=>⟨.bl b,al e1 (by unfold fV;rw[ht];dsimp only;rw[hk]),.bl b,G1,H1,I1.tok tk,rfl,x1,rep_bl.mpr rfl⟩
end
end L2
namespace L2
open PySem PySem.Spec PyProof.Rows
def zR (K:Z8)(J:It)(ds:List D)(G:Hp):Prop:=∀(G2 H2:Hp),Same G G2→Same G2 H2→∀(i:Nat),
 (∀d,ds[i]?=some d→J.go i H2∧∀x H',J.yld i H2 x H'→∃G',Ext G2 H2 G' H'∧Rep K G' d x)∧(ds.length≤i→J.stop i H2)
inductive tDI (K:Z8)(E:XK)(fi:DS→Res (List D))(σ:St)(H:Hp)(R:It→Hp→Prop):Prop
 |mk (G:Hp) (ρ:DS) (s:Same G H) (r:Ro K G σ ρ) (o:OkR E H (fi ρ)) (k:∀ds,fi ρ= .ok ds→∀J G' H',Ext G H G' H'→zR K J ds G'→R J H')
section
variable{X:Cx}{E:XK}{tg:Expr}
def zm:D→Res (List D)
 |.lst l=>.ok l
 |_=>.bad
def Eh:D→Res (List D)
 |.tup l=>.ok l
 |_=>.bad
def sJ {K:Z8}{G:Hp}{xs:List V}{ds:List D}(sq:f_ K G a xs)(rl:RepL K G ds xs):zR K (BO K a) ds G:=by
 intro G2 H2 g1 g2 i;have sq2:f_ K H2 a xs:=g2.seq (g1.seq sq);refine⟨λd hd=>?_,λhl=>⟨xs,sq2,by rw[←rl.length];exact hl⟩⟩;obtain⟨v,hv,rv⟩:=rl.get hd;refine⟨⟨xs,v,sq2,hv⟩,λy H' hZ135=>?_⟩;obtain⟨e,h⟩:=hZ135;subst e;have q:=h xs sq2;rw[hv]at q;cases q;exact⟨G2,.refl g2,rv.mono g1⟩
def BD {K:Z8}{G:Hp}{xs:List V}{ds:List D}(sq:lT K G a xs)(rl:RepL K G ds xs):zR K (FA K a) ds G:=by
 intro G2 H2 g1 g2 i;have sq2:lT K H2 a xs:=g2.seqT (g1.seqT sq);refine⟨λd hd=>?_,λhl=>⟨xs,sq2,by rw[←rl.length];exact hl⟩⟩;obtain⟨v,hv,rv⟩:=rl.get hd;refine⟨⟨xs,v,sq2,hv⟩,λy H' hZ136=>?_⟩;obtain⟨e,h⟩:=hZ136;subst e;have q:=h xs sq2;rw[hv]at q;cases q;exact⟨G2,.refl g2,rv.mono g1⟩
def nJ (lo:Int)(n:Nat):List D:=(List.range n).map λ(i:Nat)=>D.int (lo+(i:Int))
def lr {K:Z8}{G:Hp}(lo:Int)(n:Nat):zR K (Er lo n) (nJ lo n) G:=by
 intro G2 H2 g1 g2 i;refine⟨λd hd=>?_,λhl=>(show n≤i by simpa [nJ] using hl)⟩;unfold nJ at hd;rw[getElem?_map]at hd;cases e:(List.range n)[i]? with
 |none=>rw[e]at hd;cases hd
 |some j=>
  rw[e]at hd;obtain⟨hj,rfl⟩:=d8 e;cases hd;have hi:i<n:=by simpa using hj
  refine⟨hi,λy H' hZ137=>?_⟩;obtain⟨e1,e2⟩:=hZ137;subst e1 e2;refine⟨G2,.refl g2,rep_int.mpr ?_⟩;rw[getElem_range]
def bH {f:DS→Res D}(h:PD X E e f):PI X tg e (tDI X.K E (λρ=>(f ρ).bind zm)):=by
 intro pins s σ H R I hZ7;obtain⟨G,ρ,hs,hro,ho,k⟩:=hZ7;refine qI (dP h) pins s σ H R I ⟨G,ρ,hs,hro,ho.fst,λd e v G1 H1 x1 p1=>?_⟩;have kk:=ho.snd e x1.hh;cases d with
 |lst l=>
  rw[rep_lst]at p1;obtain⟨a,xs,rfl,sq,rl⟩:=p1;exact⟨a,rfl,⟨xs,x1.gh.seq sq.sq⟩,k l (al e rfl) (BO X.K a) G1 H1 x1 (sJ sq.sq rl)⟩
 |_=>exact kk.elim
def A9 {f:DS→Res D}(h:PD X E e f):PI X tg e (tDI X.K E (λρ=>(f ρ).bind Eh)):=by
 intro pins s σ H R I hZ8;obtain⟨G,ρ,hs,hro,ho,k⟩:=hZ8;refine DU (dP h) pins s σ H R I ⟨G,ρ,hs,hro,ho.fst,λd e v G1 H1 x1 p1=>?_⟩;have kk:=ho.snd e x1.hh;cases d with
 |tup l=>
  rw[rep_tup]at p1;obtain⟨a,xs,rfl,sq,rl⟩:=p1;exact⟨a,rfl,⟨xs,x1.gh.seqT sq⟩,k l (al e rfl) (FA X.K a) G1 H1 x1 (BD sq rl)⟩
 |_=>exact kk.elim
def cR (i:Int):Bool:=decide (-(2 ^ 62)≤i)&&decide (i<2 ^ 62)
def nI:List D→Res (List D)
 | [.int j]=>if cR j=true then .ok (nJ 0 j.toNat) else .bad
 |_=>.bad
def zb:List D→Res (List D)
 | [.int i,.int j]=>if (cR i&&cR j)=true then .ok (nJ i (j-i).toNat) else .bad
 |_=>.bad
def dQ {fs:DS→Res (List D)}(hg:Gl X "range")(hm:X.mg "range" =none)(ha:lP X E [a] fs)(hs:starEach [a] X.env=[(false,eval a X.env)]:=by rfl):PI X tg (.Call (.Name "range" p) [a] [] pos) (tDI X.K E (λρ=>(fs ρ).bind nI)):=by
 intro pins s σ H R I hZ9;obtain⟨G,ρ,hsm,hro,ho,k⟩:=hZ9;refine pf hg hm (ii ha) hs pins s σ H R I ⟨G,ρ,hsm,hro,ho.fst,λds e vs G1 H1 x1 p1=>?_⟩;have kk:=ho.snd e x1.hh;unfold nI at kk;split at kk
 ·rename_i j;obtain⟨v,r,rfl,rv,r0⟩:=p1.inv;rw[r0.inv0];rw[rep_int]at rv;subst rv;by_cases hj:cR j=true
  ·have hj':=hj;unfold cR at hj';rw[and_eq_true]at hj';exact⟨j,rfl,Zj hj'.1,Zj hj'.2,k _ (al e (Yj hj)) _ G1 H1 x1 (lr 0 j.toNat)⟩
  ·rw[Yi hj]at kk;exact kk.elim
 ·exact kk.elim
def nz {fs:DS→Res (List D)}(hg:Gl X "range")(hm:X.mg "range" =none)(ha:lP X E [a,b] fs)(hs:starEach [a,b] X.env=[(false,eval a X.env),(false,eval b X.env)]:=by rfl)(hs2:starEach [b] X.env=[(false,eval b X.env)]:=by rfl):PI X tg (.Call (.Name "range" p) [a,b] [] pos) (tDI X.K E (λρ=>(fs ρ).bind zb)):=by
 intro pins s σ H R I hZ10;obtain⟨G,ρ,hsm,hro,ho,k⟩:=hZ10;refine wI hg hm (ii ha) hs hs2 pins s σ H R I ⟨G,ρ,hsm,hro,ho.fst,λds e vs G1 H1 x1 p1=>?_⟩;have kk:=ho.snd e x1.hh;unfold zb at kk;split at kk
 ·rename_i i j;obtain⟨v,r,rfl,rv,r0⟩:=p1.inv;obtain⟨v2,r2,rfl,rv2,r02⟩:=r0.inv;rw[r02.inv0];rw[rep_int]at rv rv2;subst rv rv2;by_cases hj:(cR i&&cR j)=true
  ·have hj':=hj;unfold cR at hj';rw[and_eq_true,and_eq_true,and_eq_true]at hj';exact⟨i,j,rfl,⟨Zj hj'.1.1,Zj hj'.1.2,Zj hj'.2.1,Zj hj'.2.2⟩,k _ (al e (Yj hj)) _ G1 H1 x1 (lr i (j-i).toNat)⟩
  ·rw[Yi hj]at kk;exact kk.elim
 ·exact kk.elim
def bA (t:D→Res Bool)(f:D→Res D):List D→Res (List D)
 | []=>.ok []
 |d::ds=>match t d with
  |.ok true=>(match f d with
   |.ok e=>(bA t f ds).bind λes=>.ok (e::es)
   |_=>.bad)
  |.ok false=>bA t f ds
  |_=>.bad
theorem kT {t:D→Res Bool}{f:D→Res D}:∀{as bs es:List D},bA t f (as ++ bs)= .ok es→∃e1 e2,bA t f as= .ok e1∧bA t f bs= .ok e2∧es=e1 ++ e2
 | [],bs,es,h=>⟨[],es,rfl,h,rfl⟩
 |a::as,bs,es,h=>by
  rw[List.cons_append]at h;unfold bA at h;cases ht:t a with
  |bad=>rw[ht]at h;cases h
  |exc c=>rw[ht]at h;cases h
  |ok b=>
   rw[ht]at h;cases b with
   |false=>
    obtain⟨e1,e2,h1,h2,h3⟩:=kT h;exact⟨e1,e2,by unfold bA;rw[ht];exact h1,h2,h3⟩
   |true=>
    cases hf:f a with
    |bad=>rw[hf]at h;cases h
    |exc c=>rw[hf]at h;cases h
    |ok e=>
     rw[hf]at h;dsimp only at h;cases hr:bA t f (as ++ bs) with
     |bad=>rw[hr]at h;cases h
     |exc c=>rw[hr]at h;cases h
     |ok es'=>
      rw[hr]at h;have h':Res.ok (e::es')=Res.ok es:=h;cases h';obtain⟨e1,e2,h1,h2,h3⟩:=kT hr;subst h3;exact⟨e::e1,e2,by unfold bA;rw[ht,hf];dsimp only;rw[h1];rfl,h2,rfl⟩
theorem kW {t:D→Res Bool}{f:D→Res D}:∀{as es:List D},bA t f as= .ok es→es.length≤as.length
 | [],es,h=>by unfold bA at h;cases h;exact le_refl _
 |a::as,es,h=>by
  unfold bA at h;cases ht:t a with
  |bad=>rw[ht]at h;cases h
  |exc c=>rw[ht]at h;cases h
  |ok b=>
   rw[ht]at h;cases b with
   |false=>exact Nat.le_succ_of_le (kW h)
   |true=>
    cases hf:f a with
    |bad=>rw[hf]at h;cases h
    |exc c=>rw[hf]at h;cases h
    |ok e=>
     rw[hf]at h;dsimp only at h;cases hr:bA t f as with
     |bad=>rw[hr]at h;cases h
     |exc c=>rw[hr]at h;cases h
     |ok es'=>
      rw[hr]at h;have h':Res.ok (e::es')=Res.ok es:=h;cases h';have:=kW hr;rw[length_cons,length_cons];omega
def d9 (caps:Zo)(ρ:DS):DS:=caps.map λo=>o.bind λk=>(ρ[k]?).join
def zZ {K:Z8}{G:Hp}{σ:St}{ρ:DS}{caps:Zo}(h:Ro K G σ ρ):Ro K G (fm caps σ) (d9 caps ρ):=by
 intro i d e;unfold d9 at e;rw[getElem?_map]at e;unfold fm;rw[getElem?_map];cases q:caps[i]? with
 |none=>rw[q]at e;cases e
 |some o=>
  rw[q]at e;cases o with
  |none=>simp at e
  |some k=>
   simp only[map_some,bind_some,Option.some.injEq]at e ⊢;cases q2:ρ[k]? with
   |none=>rw[q2]at e;simp at e
   |some o2=>
    rw[q2]at e;simp at e;subst e;obtain⟨v,hv,rv⟩:=h k d q2;exact⟨v,by rw[hv];rfl,rv⟩
def Ro.set {K:Z8}{G:Hp}{σ:St}{ρ:DS}{j:Nat}{v:V}{d:D}(h:Ro K G σ ρ)(hj:j<σ.length)(r:Rep K G d v):Ro K G (σ.set j (some v)) (ρ.set j (some d)):=by
 intro i e q;by_cases hi:i=j
 ·subst hi;by_cases hl:i<ρ.length
  ·rw[getElem?_set_self hl]at q;cases q;exact⟨v,getElem?_set_self hj,r⟩
  ·rw[getElem?_eq_none (by simpa using hl)]at q;cases q
 ·rw[getElem?_set_ne (Ne.symm hi)]at q ⊢;exact h i e q
abbrev pM:XK:=λ_ _ _=>False
def vI (X:Cx)(E:XK)(ifs:Zd)(f:DS→Res Bool):Prop:=Em X ifs (tDT X.K E f)
def bu:vI X E [] (λ_=>.ok true):=λpins s σ H Q I hZ138=>(by obtain⟨G,ρ,hs,hr,ho,k⟩:=hZ138;exact Ba pins s σ H Q I (k true rfl G H (.refl hs)))
def gA {f:DS→Res Bool}(h:s9 X E c f):vI X E [c] f:=Bb (F_ h)
end
section
variable{X:Cx}{E:XK}
def allInts:List D→Option (List Int)
 | []=>some []
 |.int i::ds=>(allInts ds).map (i::·)
 |_=>none
theorem gP:∀{ds:List D} {ns:List Int},allInts ds=some ns→ds=ns.map D.int
 | [],ns,h=>by unfold allInts at h;cases h;rfl
 |d::ds,ns,h=>by
  cases d with
  |int i=>
   unfold allInts at h;cases q:allInts ds with
   |none=>rw[q]at h;cases h
   |some ms=>rw[q]at h;cases h;rw[gP q];rfl
  |_=>unfold allInts at h;cases h
theorem fJ:∀(ns:List Int),allInts (ns.map D.int)=some ns
 | []=>rfl
 |n::ns=>by show (allInts (ns.map D.int)).map (n::·)=_;rw[fJ ns];rfl
def F7:List Int→Int
 | []=>0
 | [a]=>a
 |a::as=>min a (F7 as)
def k9:List Int→Int
 | []=>0
 | [a]=>a
 |a::as=>max a (k9 as)
theorem k_:∀{ns:List Int},ns≠[]→k9 ns∈ns∧∀a∈ns,a≤k9 ns
 | [],h=>absurd rfl h
 | [a],_=>⟨mem_singleton.mpr rfl,λb hb=>by rw[mem_singleton.mp hb];exact Int.le_refl _⟩
 |a::b::r,_=>by
  obtain⟨h1,h2⟩:=k_ (ns:=b::r) (by simp);show max a (k9 (b::r))∈_∧_;refine⟨?_,λc hc=>?_⟩
  ·by_cases h:k9 (b::r)≤a
   ·rw[Int.max_eq_left h];exact mem_cons_self
   ·rw[Int.max_eq_right (by omega)];exact cN h1
  ·show c≤max a (k9 (b::r))
   rcases mem_cons.mp hc with rfl|hc
   ·exact Int.le_max_left _ _
   ·exact Int.le_trans (h2 c hc) (Int.le_max_right _ _)
def qz:List D→Res D
 | [.lst l]=>match allInts l with|some (n::ns)=>.ok (.int (k9 (n::ns)))|_=>.bad
 |_=>.bad
def vM (hc:X.calm=true):dZ X (.builtin "max") (λxs H Q=>∃p ns,xs=[.ref p]∧f_ X.K H p (ns.map V.int)∧ns≠[]∧Q (.int (k9 ns)) H):=by
 intro pins s σ H xs us Q I r h;obtain⟨p,ns,rfl,sq,hne,q⟩:=h;obtain⟨u,rfl,ru⟩:=i8 r;cases (show u= .ref p from ru);obtain⟨its,rv,pl,_⟩:=I.list sq;have hi:=jI rv;obtain⟨ys,e⟩:=hi.allInts.items;have G:ns=ys.toList.map (·.1):=by rw[←hi.numsOf,←nums_intItems,←e]
 have hsz:0<ys.size:=by
  have h3:0<ns.length:=List.length_pos_iff.mpr hne;rw[G,length_map,length_toList]at h3;exact h3
 have hl:=pl.isList;rw[e]at hl;refine max_intList (I.ok.hd hc) hl hsz λv h' tk hv hk=>?_;obtain⟨t,rfl⟩:=intItems_at hv;obtain⟨h1,h2⟩:=argBest_gt (numAt ys) (ys.size-1);have hm:numAt ys (argBest (λi j=>decide (numAt ys i>numAt ys j)) (ys.size-1))=k9 ns:=by
  obtain⟨m1,m2⟩:=k_ hne;refine Int.le_antisymm (m2 _ ?_) ?_
  ·rw[G,numAt_eq];exact getD_mem (by rw[length_map,length_toList];omega)
  ·rw[G]at m1;obtain⟨j,hj,ej⟩:=mem_getD m1;rw[length_map,length_toList]at hj;rw[←G]at ej;rw[←ej,G,←numAt_eq];exact h2 j (by omega)
 rw[hm];exact⟨.int (k9 ns),H,I.kept hk,⟨t,rfl⟩,q⟩
def Ac {K:Z8}:zO K E (λxs H Q=>∃p ns,xs=[.ref p]∧f_ K H p (ns.map V.int)∧ns≠[]∧Q (.int (k9 ns)) H) qz:=by
 intro G H vs ds Q hs rl ok k;unfold qz at ok k;split at ok
 ·rename_i l;obtain⟨v,r,rfl,rx,r0⟩:=rl.inv;rw[r0.inv0];rw[rep_lst]at rx;obtain⟨p,xs,rfl,sq,rx⟩:=rx;dsimp only at k;cases q:allInts l with
  |none=>rw[q]at ok;exact ok.elim
  |some ns=>
   cases ns with
   |nil=>rw[q]at ok;exact ok.elim
   |cons n ns=>
    rw[q]at k;have e:=gP q;subst e;have ex:=rx.ints;subst ex;exact⟨p,n::ns,rfl,hs.seq sq.sq,by simp,k _ _ G H rfl (.refl hs) (rep_int.mpr rfl)⟩
 ·exact ok.elim
def qQ (hi:Int)(n:Nat):List D:=(List.range n).map λ(i:Nat)=>D.int (hi-(i:Int))
def oi {a b c:Int}{t u v:Tok}{n:Nat}{pins:Z9}{σ:St}{H:Hp}{s:Z3}{Q:VK}(hc:X.calm=true)(I:Inv X pins σ H s)(hr:IsRange s.heap r a b c t u v)(hsm:Builtin.Range.small a b c=true)(hn:Builtin.Range.rangeSize a b c=n)(hz:n≤100000)(q:∀p,H p=none→Q (.ref p) (bc H p (.lst ((List.range n).map λ(i:Nat)=>V.int (a+(i:Int)*c))))):wpAny (model X.prog X.w) X.A (call (.type "list") [.ref r]) (EP X pins σ Q) X.xe s:=by
 refine call_list_range (I.ok.hd hc) hr hsm hn (le_trans hz (by decide)) λh' tk acc c' hk hD hI=>?_;obtain⟨h1,h2⟩:=hI;have hv:Vals ((List.range n).map λ(i:Nat)=>V.int (a+(i:Int)*c)) acc.toList:=by
  have aux:∀(m:Nat) (f:Nat→V) (l:List Value),l.length=m→(∀j u,l[j]?=some u→RelV (f j) u)→Vals ((List.range m).map f) l:=by
   intro m
   induction m with
   |zero=>
    intro f l hl _;cases l with
    |nil=>exact .nil
    |cons x xs=>simp at hl
   |succ m ih=>
    intro f l hl h;cases l with
    |nil=>simp at hl
    |cons x xs=>
     rw[List.range_succ_eq_map,map_cons,map_map];exact .cons (h 0 x rfl) (ih (f ∘ Nat.succ) xs (by simpa using hl) λj u e=>h (j+1) u (by simpa using e))
  refine aux n _ acc.toList (by simpa using h1) λj u e=>?_;obtain⟨t',rfl⟩:=h2 j u (by simpa using e);exact⟨t',rfl⟩
 refine⟨.ref s.heap.objs.size,_,I.laid (o:=.lst ((List.range n).map λ(i:Nat)=>V.int (a+(i:Int)*c))) hk (le_refl _) ⟨?_,acc.toList,c',hv,?_⟩,rfl,q _ (I.hok.fresh (le_refl _))⟩
 ·rw[length_map,length_range];exact le_trans hz (by decide)
 ·rw[hD]
def iQ {i:Int}(h1: -(2 ^ 62)≤i)(h2:i≤2 ^ 62):Builtin.Range.rangeFitsLong i=true:=by
 unfold Builtin.Range.rangeFitsLong;simp only[and_eq_true,decide_eq_true_eq];omega
def pD {a b:Int}:Builtin.Range.rangeSize a b (-1)=((a-b).toNat:Int):=by
 unfold Builtin.Range.rangeSize;rw[Yi (by decide)];split
 ·have:(-(-1:Int))=1:=by decide
  rw[this,Int.ediv_one];omega
 ·omega
def pE {a b c:Int}(h1: -(2 ^ 60)≤a)(h2:a<2 ^ 60)(h3: -(2 ^ 60)≤b)(h4:b<2 ^ 60)(hc:c=1∨c= -1):Builtin.Range.small a b c=true:=by
 rcases hc with rfl|rfl
 ·exact small_one (by omega) (by omega) (by omega) (by omega)
 ·unfold Builtin.Range.small;rw[pD,iQ (i:=a) (by omega) (by omega),iQ (i:=b) (by omega) (by omega),iQ (i:= -1) (by decide) (by decide),iQ (i:=((a-b).toNat:Int)) (by omega) (by omega)];rw[Yi (by decide),iQ (i:=b+(-1+1)) (by omega) (by omega)];simp
def tj (p:Zz)(a b c:Int):HO:=.ext λh=>∃t u v,IsRange h p a b c t u v
def Inv.rng {pins:Z9}{σ:St}{H:Hp}{s:Z3}{a b c:Int}{t u v:Tok}{tk:Nat}(I:Inv X pins σ H s):Inv X pins σ (bc H s.heap.objs.size (tj s.heap.objs.size a b c)) {s with heap:=s.heap.push {cls:=.type "range",data:=.fields #[.int a t,.int b u,.int c v]},toks:=tk}:=
 I.laid (λb o e=>Heap.get?_push_of_some _ e) (le_refl _) ⟨⟨t,u,v,Heap.get?_push_size _ rfl⟩,⟨_,Heap.get?_push_size _ rfl⟩,λh1 h2 ⟨t,u,v,e⟩ k=>⟨t,u,v,k _ e⟩⟩
def rg:dZ X (.type "range") (λxs H Q=>∃i j,xs=[.int i,.int j]∧∀p,H p=none→Q (.ref p) (bc H p (tj p i j 1))):=by
 intro pins s σ H xs us Q I r h;obtain⟨i,j,rfl,q⟩:=h;obtain⟨u1,u2,rfl,⟨t1,rfl⟩,⟨t2,rfl⟩⟩:=zG r;exact call_range_2 ⟨.ref s.heap.objs.size,_,I.rng,rfl,q _ (I.hok.fresh (le_refl _))⟩
def Fy {x y z:V}{us:Z1}(r:Vals [x,y,z] us):∃u v w,us=[u,v,w]∧RelV x u∧RelV y v∧RelV z w:=by
 cases r with
 |cons a b=>cases b with
  |cons c d=>cases d with
   |cons e f=>cases f;exact⟨_,_,_,rfl,a,c,e⟩
def rh:dZ X (.type "range") (λxs H Q=>∃i j,xs=[.int i,.int j,.int (-1)]∧∀p,H p=none→Q (.ref p) (bc H p (tj p i j (-1)))):=by
 intro pins s σ H xs us Q I r h;obtain⟨i,j,rfl,q⟩:=h;obtain⟨u1,u2,u3,rfl,⟨t1,rfl⟩,⟨t2,rfl⟩,⟨t3,rfl⟩⟩:=Fy r;exact call_range_3 (by decide) ⟨.ref s.heap.objs.size,_,I.rng (tk:=s.toks),rfl,q _ (I.hok.fresh (le_refl _))⟩ (.inl (PyProof.noPylong_small (by decide)))
def jW (hc:X.calm=true):dZ X (.type "list") (λxs H Q=>∃p a b c n,xs=[.ref p]∧H p=some (tj p a b c)∧Builtin.Range.small a b c=true∧Builtin.Range.rangeSize a b c=((n:Nat):Int)∧n≤100000∧∀l,H l=none→Q (.ref l) (bc H l (.lst ((List.range n).map λ(i:Nat)=>V.int (a+(i:Int)*c))))):=by
 intro pins s σ H xs us Q I r h;obtain⟨p,a,b,c,n,rfl,hp,hsm,hn,hz,q⟩:=h;obtain⟨u,rfl,ru⟩:=i8 r;cases (show u= .ref p from ru);obtain⟨⟨t,u,v,e⟩,_,_⟩:=(show ObjOk X.prog X.w H s.heap p (tj p a b c) from I.hok p _ hp);exact oi hc I e hsm hn hz q
def iF (i:Int):Bool:=decide (-(2 ^ 60)≤i)&&decide (i<2 ^ 60)
def oZ:List D→Res D
 | [.int i,.int j]=>if (iF i&&iF j&&aG (j-i).toNat)=true then .ok (.lst (nJ i (j-i).toNat)) else .bad
 |_=>.bad
def o_:List D→Res D
 | [.int i,.int j,.int k]=>if (iF i&&iF j&&aG (i-j).toNat&&decide (k= -1))=true then .ok (.lst (qQ i (i-j).toNat)) else .bad
 |_=>.bad
theorem nF {K:Z8}{G:Hp}{f:Nat→D}{g:Nat→V}(h:∀i,Rep K G (f i) (g i)):∀(l:List Nat),RepL K G (l.map f) (l.map g)
 | []=>.nil
 |a::r=>.cons (h a) (nF h r)
def t9 {p1 p2 pos1 pos2:Yn}{fs:DS→Res (List D)}(hc:X.calm=true)(hgl:Gl X "list")(hml:X.mg "list" =none)(hg:Gl X "range")(hm:X.mg "range" =none)(ha:lP X E [a,b] fs)(hs:starEach [a,b] X.env=(false,eval a X.env)::starEach [b] X.env:=by rfl) (hpl:(backTo pos2 (starEach [b] X.env)).any (·.1)=false:=by rfl)(hs3:starEach [.Call (.Name "range" p2) [a,b] [] pos2] X.env=(false,eval (.Call (.Name "range" p2) [a,b] [] pos2) X.env)::starEach [] X.env:=by rfl) :
  PD X E (.Call (.Name "list" p1) [.Call (.Name "range" p2) [a,b] [] pos2] [] pos1) (bq fs oZ):=by
 intro pins s σ G H ρ I hsm hro ho;have he:=cS (pos:=pos1) (p:=p1) (jW hc) hgl hml PyProof.Rows.boot_list (cf (cS (pos:=pos2) (p:=p2) rg hg hm boot_range (ii ha) (by decide) (by decide) hs hpl) ef hs3) (by decide) (by decide) hs3 rfl;refine aS (he pins s σ H (λv H'=>∃d G',bq fs oZ ρ= .ok d∧Ext G H G' H'∧Rep X.K G' d v) I ?_) λu s' hZ139=>(by obtain⟨v,H',I',r,d,G',e,xx,rp⟩:=hZ139;exact⟨d,e,v,G',H',I',r,xx,rp⟩);refine⟨G,ρ,hsm,hro,ho.fst,λds e vs G1 H1 x1 p1=>?_⟩;have kk:=ho.snd e x1.hh;unfold oZ at kk;split at kk
 ·rename_i i j;obtain⟨v,r,rfl,rv,r0⟩:=p1.inv;obtain⟨v2,r2,rfl,rv2,r02⟩:=r0.inv;rw[r02.inv0];rw[rep_int]at rv rv2;subst rv rv2;by_cases hj:(iF i&&iF j&&aG (j-i).toNat)=true
  ·have hj':=hj;unfold iF at hj';simp only[and_eq_true,decide_eq_true_eq]at hj';obtain⟨⟨⟨a1,a2⟩,b1,b2⟩,l1⟩:=hj';refine⟨i,j,rfl,λp hp=>⟨p,i,j,1,(j-i).toNat,rfl,ao,pE a1 a2 b1 b2 (.inl rfl),by rw[rangeSize_one];split <;> omega,Zj l1,λl hl=>?_⟩⟩;have x2:=x1.trans (Ext.new x1.gh hp (tj p i j 1));have x3:=x2.trans (Ext.new x2.gh hl (.lst ((List.range (j-i).toNat).map λ(k:Nat)=>V.int (i+(k:Int)*1))));refine⟨_,_,al e (Yj hj),x3,rep_lst.mpr ⟨l,_,rfl,.of ao,nF (λk=>rep_int.mpr (by rw[Int.mul_one])) _⟩⟩
  ·rw[Yi hj]at kk;exact kk.elim
 ·exact kk.elim
def t_ {p1 p2 pos1 pos2:Yn}{fs:DS→Res (List D)}(hc:X.calm=true)(hgl:Gl X "list")(hml:X.mg "list" =none)(hg:Gl X "range")(hm:X.mg "range" =none)(ha:lP X E [a,b,c] fs)(hs:starEach [a,b,c] X.env=(false,eval a X.env)::starEach [b,c] X.env:=by rfl) (hpl:(backTo pos2 (starEach [b,c] X.env)).any (·.1)=false:=by rfl)(hs3:starEach [.Call (.Name "range" p2) [a,b,c] [] pos2] X.env=(false,eval (.Call (.Name "range" p2) [a,b,c] [] pos2) X.env)::starEach [] X.env:=by rfl) :
  PD X E (.Call (.Name "list" p1) [.Call (.Name "range" p2) [a,b,c] [] pos2] [] pos1) (bq fs o_):=by
 intro pins s σ G H ρ I hsm hro ho;have he:=cS (pos:=pos1) (p:=p1) (jW hc) hgl hml PyProof.Rows.boot_list (cf (cS (pos:=pos2) (p:=p2) rh hg hm boot_range (ii ha) (by decide) (by decide) hs hpl) ef hs3) (by decide) (by decide) hs3 rfl;refine aS (he pins s σ H (λv H'=>∃d G',bq fs o_ ρ= .ok d∧Ext G H G' H'∧Rep X.K G' d v) I ?_) λu s' hZ140=>(by obtain⟨v,H',I',r,d,G',e,xx,rp⟩:=hZ140;exact⟨d,e,v,G',H',I',r,xx,rp⟩);refine⟨G,ρ,hsm,hro,ho.fst,λds e vs G1 H1 x1 p1=>?_⟩;have kk:=ho.snd e x1.hh;unfold o_ at kk;split at kk
 ·rename_i i j k;obtain⟨v,r,rfl,rv,r0⟩:=p1.inv;obtain⟨v2,r2,rfl,rv2,r02⟩:=r0.inv;obtain⟨v3,r3,rfl,rv3,r03⟩:=r02.inv;rw[r03.inv0];rw[rep_int]at rv rv2 rv3;subst rv rv2 rv3;by_cases hj:(iF i&&iF j&&aG (i-j).toNat&&decide (k= -1))=true
  ·have hj':=hj;unfold iF at hj';simp only[and_eq_true,decide_eq_true_eq]at hj';obtain⟨⟨⟨⟨a1,a2⟩,b1,b2⟩,l1⟩,rfl⟩:=hj';refine⟨i,j,rfl,λp hp=>⟨p,i,j,-1,(i-j).toNat,rfl,ao,pE a1 a2 b1 b2 (.inr rfl),pD,Zj l1,λl hl=>?_⟩⟩;have x2:=x1.trans (Ext.new x1.gh hp (tj p i j (-1)));have x3:=x2.trans (Ext.new x2.gh hl (.lst ((List.range (i-j).toNat).map λ(k:Nat)=>V.int (i+(k:Int)*(-1)))));refine⟨_,_,al e (Yj hj),x3,rep_lst.mpr ⟨l,_,rfl,.of ao,nF (λk=>rep_int.mpr (by congr 1;omega)) _⟩⟩
  ·rw[Yi hj]at kk;exact kk.elim
 ·exact kk.elim
def tF (l:List D)(lo hi:Yy):List D:=(l.drop (HT.cG l.length 0 lo)).take (HT.cG l.length l.length hi-HT.cG l.length 0 lo)
def pW {K:Z8}{G:Hp}{ds:List D}{xs:List V}(h:RepL K G ds xs)(lo hi:Yy):RepL K G (tF ds lo hi) (rq xs lo hi):=by
 unfold tF rq;rw[←h.length];exact(h.drop _).take _
def fG (lo hi:Yy):D→Res D
 |.lst l=>.ok (.lst (tF l lo hi))
 |.tup l=>if HT.cG l.length 0 lo=0∧HT.cG l.length l.length hi=l.length then .bad else .ok (.tup (tF l lo hi))
 |_=>.bad
inductive tPO (K:Z8)(E:XK)(f:DS→Res (Option Int))(σ:St)(H:Hp)(Q:Option Int→Hp→Prop):Prop
 |mk (G:Hp) (ρ:DS) (s:Same G H) (r:Ro K G σ ρ) (ok:OkR E H (f ρ)) (k:∀o,f ρ= .ok o→∀G' H',Ext G H G' H'→Q o H')
def Ch (X:Cx)(E:XK)(e:Option Expr)(f:DS→Res (Option Int)):Prop:=PO X e (tPO X.K E f)
def kj:Ch X E none (λ_=>.ok none):=λpins s σ H Q I hZ141=>(by obtain⟨G,ρ,hs,hr,ho,k⟩:=hZ141;exact Bj pins s σ H Q I (k none rfl G H (.refl hs)))
def FP:D→Res (Option Int)
 |.int i=>.ok (some i)
 |_=>.bad
def kl {f:DS→Res D}(h:PD X E e f):Ch X E (some e) (λρ=>(f ρ).bind FP):=by
 intro pins s σ H Q I hZ11;obtain⟨G,ρ,hs,hr,ho,k⟩:=hZ11;refine Bk (dP h) pins s σ H Q I ⟨G,ρ,hs,hr,ho.fst,λd e v G1 H1 x1 p1=>?_⟩;have kk:=ho.snd e x1.hh;cases d with
 |int i=>rw[rep_int]at p1;exact⟨i,p1,k (some i) (al e rfl) G1 H1 x1⟩
 |_=>exact kk.elim
def zN (f:DS→Res D)(lo hi:DS→Res (Option Int)):DS→Res D:=λρ=>(f ρ).bind λd=>(lo ρ).bind λl=>(hi ρ).bind λu=>fG l u d
def nu {lo hi:Option Expr}{f:DS→Res D}{fl fh:DS→Res (Option Int)}(he:PD X E e f)(hl:Ch X E lo fl)(hh:Ch X E hi fh):PD X E (.Subscript e (.Slice lo hi none p2) pos) (zN f fl fh):=by
 intro pins s σ G H ρ I hsm hro ho;have hp:=sf (pos:=pos) (p2:=p2) (sl_list.or zq) (dP he) hl hh;refine aS (hp pins s σ H (λv H'=>∃d G',zN f fl fh ρ= .ok d∧Ext G H G' H'∧Rep X.K G' d v) I ?_) λu s' hZ142=>(by obtain⟨v,H',I',r,d,G',e,xx,rp⟩:=hZ142;exact⟨d,e,v,G',H',I',r,xx,rp⟩);refine⟨G,ρ,hsm,hro,ho.fst,λd e v G1 H1 x1 p1=>?_⟩;have k1:=ho.snd e x1.hh;refine⟨G1,ρ,x1.gh,hro.mono x1.gg,k1.fst,λl el G2 H2 x2=>?_⟩;have k2:=k1.snd el x2.hh;refine⟨G2,ρ,x2.gh,(hro.mono x1.gg).mono x2.gg,k2.fst,λu eu G3 H3 J=>?_⟩;have k3:=k2.snd eu J.hh;have x13:=(x1.trans x2).trans J;have p3:=p1.mono (x2.gg.trans J.gg);cases d with
 |lst ds=>
  rw[rep_lst]at p3;obtain⟨a,xs,rfl,sq,rl⟩:=p3;exact .inl ⟨a,xs,rfl,J.gh.seq sq.sq,λp hp=>⟨_,_,al e (al el (al eu rfl)),x13.trans (.new J.gh hp _),rep_lst.mpr ⟨p,_,rfl,.of ao,(pW rl l u).mono (Ext.new J.gh hp _).gg⟩⟩⟩
 |tup ds=>
  rw[rep_tup]at p3;obtain⟨a,xs,rfl,sq,rl⟩:=p3;unfold fG at k3;dsimp only at k3;by_cases hw:HT.cG ds.length 0 l=0∧HT.cG ds.length ds.length u=ds.length
  ·rw[Yj hw]at k3;exact k3.elim
  ·exact .inr ⟨a,xs,rfl,J.gh.seqT sq,by rw[←rl.length];exact hw,λp hp=>⟨_,_,al e (al el (al eu (Yi hw))),x13.trans (.new J.gh hp _),rep_tup.mpr ⟨p,_,rfl,.of ao,(pW rl l u).mono (Ext.new J.gh hp _).gg⟩⟩⟩
 |_=>exact k3.elim
end
inductive Out where
 |nx (ρ:DS)|rt (d:D)|bk (ρ:DS)|ct (ρ:DS)|exc (c:Addr)|bad
abbrev Z7:=DS→Res D
abbrev Z6:=DS→Res (List D)
abbrev Zy:=List D
abbrev Zu:=List V
abbrev Zs:=List D→Res D
abbrev Zq:=DS→Res Bool
abbrev Zm:=DS→Res (List Nat)
abbrev Zi:=DS→Out
abbrev Zf:=D→V→List Addr→Prop
abbrev Zb:=D→DS→Option DS
abbrev Y6:=D→D→Res D
abbrev Y3:=DS→Res (Option Int)
abbrev Y0:=Option D
def OkO (E:XK)(H:Hp):Out→Prop
 |.exc c=>∀H',Same H H'→E (.ref c) none H'
 |.bad=>False
 |_=>True
def Out.then:Out→(DS→Out)→Out
 |.nx ρ,f=>f ρ
 |o,_=>o
def Res.out {α:Type}:Res α→(α→Out)→Out
 |.ok a,f=>f a
 |.exc c,_=>.exc c
 |.bad,_=>.bad
def SO (X:Cx)(pins:Z9)(G H:Hp)(o:Out)(fl:Flow)(s':Z3):Prop:=
 match fl with
 |.next=>∃ρ' σ' G' H',o= .nx ρ'∧Inv X pins σ' H' s'∧Ext G H G' H'∧Ro X.K G' σ' ρ'
 |.brk=>∃ρ' σ' G' H',o= .bk ρ'∧Inv X pins σ' H' s'∧Ext G H G' H'∧Ro X.K G' σ' ρ'
 |.cont=>∃ρ' σ' G' H',o= .ct ρ'∧Inv X pins σ' H' s'∧Ext G H G' H'∧Ro X.K G' σ' ρ'
 |.ret u=>∃d v σ' G' H',o= .rt d∧Inv X pins σ' H' s'∧RelV v u∧Ext G H G' H'∧Rep X.K G' d v
def FL (X:Cx)(E:XK)(st:Yl)(F:Zi):Prop:=
 ∀(pins:Z9) (s:Z3) (σ:St) (G H:Hp) (ρ:DS),Inv X pins σ H s→Same G H→Ro X.K G σ ρ→OkO E H (F ρ)→
  wpAny (model X.prog X.w) X.A (exec st X.env) (SO X pins G H (F ρ)) X.xe s
def FN (X:Cx)(E:XK)(sts:List Stmt)(F:Zi):Prop:=
 ∀(pins:Z9) (s:Z3) (σ:St) (G H:Hp) (ρ:DS),Inv X pins σ H s→Same G H→Ro X.K G σ ρ→OkO E H (F ρ)→
  wpAny (model X.prog X.w) X.A (execs sts X.env) (SO X pins G H (F ρ)) X.xe s
def OkO.fst {E:XK}{H:Hp}{o:Out}{f:Zi}(h:OkO E H (o.then f)):OkO E H o:=by cases o <;> first|exact h|trivial
def OkO.snd {E:XK}{H H1:Hp}{o:Out}{f:Zi}{ρ:DS}(h:OkO E H (o.then f))(e:o= .nx ρ)(s:Same H H1):OkO E H1 (f ρ):=by
 subst e;have h':OkO E H (f ρ):=h;cases q:f ρ with
 |exc c=>rw[q]at h';exact λH' s'=>h' H' (s.trans s')
 |bad=>rw[q]at h';exact h'
 |nx _=>trivial
 |rt _=>trivial
 |bk _=>trivial
 |ct _=>trivial
def OkO.le {E:XK}{H H1:Hp}{o:Out}(h:OkO E H o)(s:Same H H1):OkO E H1 o:=by
 cases o with
 |exc c=>exact λH' s'=>h H' (s.trans s')
 |bad=>exact h
 |_=>trivial
def OkO.res {α:Type}{E:XK}{H:Hp}{x:Res α}{f:α→Out}(h:OkO E H (x.out f)):OkR E H x:=by cases x <;> first|exact h|trivial
def OkO.res2 {α:Type}{E:XK}{H H1:Hp}{x:Res α}{f:α→Out}{a:α}(h:OkO E H (x.out f))(e:x= .ok a)(s:Same H H1):OkO E H1 (f a):=by
 subst e;exact OkO.le (show OkO E H (f a) from h) s
def bN {α:Type}{x:Res α}{f:α→Out}{a:α}(e:x= .ok a):x.out f=f a:=by subst e;rfl
section
variable{X:Cx}{E:XK}
def ax (F R:Zi):DS→Out:=λρ=>(F ρ).then R
def vo {st:Yl}{F:Zi}(h1:FL X E st F):FN X E [st] F:=by
 intro pins s σ G H ρ I hs hr ho;refine wpAny_execs_cons (aS (h1 pins s σ G H ρ I hs hr ho) λfl s1 q=>?_);cases fl with
 |next=>exact wpAny_execs_nil q
 |brk=>exact q
 |cont=>exact q
 |ret u=>exact q
def bI (f:Z7):DS→Out:=λρ=>(f ρ).out .rt
def yU {f:Z7}(h:PD X E e f):FL X E (.Return (some e) pos) (bI f):=by
 intro pins s σ G H ρ I hs hr ho;refine aS (ug (pos:=pos) (dP h) pins s σ H {nx:=λ_ _=>False,bk:=λ_ _=>False,ct:=λ_ _=>False,rt:=λv H'=>∃d G',f ρ= .ok d∧Ext G H G' H'∧Rep X.K G' d v} I ⟨G,ρ,hs,hr,ho.res,λd e v G' H' x rp=>⟨d,G',e,x,rp⟩⟩) λfl s1 q=>?_;cases fl with
 |next=>obtain⟨_,_,_,q⟩:=q;exact q.elim
 |brk=>obtain⟨_,_,_,q⟩:=q;exact q.elim
 |cont=>obtain⟨_,_,_,q⟩:=q;exact q.elim
 |ret u=>
  obtain⟨v,σ',H',I',rv,d,G',e,x,rp⟩:=q;exact⟨d,v,σ',G',H',bN e,I',rv,x,rp⟩
def aQ (i:Nat)(f:Z7):DS→Out:=λρ=>(f ρ).out λd=>.nx (ρ.set i (some d))
def fL (fc:Zq)(Fa Fb:Zi):DS→Out:=λρ=>(fc ρ).out λk=>if k=true then Fa ρ else Fb ρ
def D8 (C:Zz)(ok:DS→Bool):DS→Out:=λρ=>if ok ρ=true then .exc C else .bad
def AC (j:Nat)(F:Zi):List D→DS→Out
 | [],ρ=>.nx ρ
 |d::ds,ρ=>match F (ρ.set j (some d)) with
  |.nx ρ'=>AC j F ds ρ'
  |.ct ρ'=>AC j F ds ρ'
  |.bk ρ'=>.nx ρ'
  |.rt d=>.rt d
  |.exc c=>.exc c
  |.bad=>.bad
def FW (fi:Z6)(j:Nat)(F:Zi):DS→Out:=λρ=>(fi ρ).out λds=>AC j F ds ρ
end
def ee:Out→Res D
 |.rt d=>.ok d
 |.nx _=>.ok .non
 |.exc c=>.exc c
 |_=>.bad
def aH (N:Zw)(ds:Zy):DS:=ds.map some ++ replicate (N.length-ds.length) none
def sF {K:Z8}{G:Hp}{N:Zw}{ds:Zy}{vs:Zu}(h:RepL K G ds vs):Ro K G (fN N vs) (aH N ds):=by
 intro i d e;unfold aH at e;unfold fN;by_cases hi:i<ds.length
 ·rw[getElem?_append_left (by simpa using hi),getElem?_map]at e;cases q:ds[i]? with
  |none=>rw[q]at e;cases e
  |some d'=>
   rw[q]at e;cases e;obtain⟨v,hv,rv⟩:=h.get q;have hv2:i<vs.length:=(d8 hv).1;exact⟨v,by rw[getElem?_append_left (by simpa using hv2),getElem?_map,hv];rfl,rv⟩
 ·rw[getElem?_append_right (by simpa using hi),List.getElem?_replicate]at e;split at e <;> cases e
section
variable{P:Zv}{w:Zn}{K:Z8}{mg:Z4}{base:Heap}
abbrev xf (P:Zv)(w:Zn)(K:Z8)(mg:Z4)(base:Y5)(N:Zw)(qual:Yq)(scope:Yz)(f:Zz)(cdv:Zc)(A:Zl)(outer:Yx)(s:Z3)(H:Hp)(E:XK):Cx:=rB (CXF P w) P w K mg base N qual scope f cdv A outer s H E
def Fun.okF {st:Yl}{fd:Y9}{N ps:Zw}{k:Nat}{sp:Sp}(F:Fun K x qual st f fd)(S:FnScope N ps (ai st))(len:∀vs H Q E,sp vs H Q E→vs.length=ps.length)(hbody:∀(cdv:Zc) (A:Zl) (outer:Yx) (s:Z3) (H:Hp) (vs:Zu) (Q:VK) (E:XK),Room k (A.deeper (envOfC qual (ai st) s.heap.objs.size f cdv))→sp vs H Q E→
   ∃t,En (xf P w K mg base N qual (ai st) f cdv A outer s H E) (cM st) t∧t {nx:=λ_ H'=>Q .non H',rt:=Q} (fN N vs) H):FnOk P w K mg base (CXF P w) (k+1) f fd ps sp:=by
 obtain⟨oc,od,kV,doc,pm,an,cdv,ct,osl,rfl,lk,hcd⟩:=F.ex;exact xQ lk hcd S len λA outer s H vs Q E hr hsp=>hbody cdv A outer s H vs Q E hr hsp
def Fun.pure {st:Yl}{fd:Y9}{N ps:Zw}{k:Nat}{m:Zs}(F:Fun K x qual st f fd)(S:FnScope N ps (ai st))(len:∀ds,m ds≠ .bad→ds.length=ps.length)(hbody:∀(cdv:Zc) (A:Zl) (outer:Yx) (s:Z3) (H:Hp) (E:XK),Room k (A.deeper (envOfC qual (ai st) s.heap.objs.size f cdv))→
   ∃Fb,FN (xf P w K mg base N qual (ai st) f cdv A outer s H E) E (cM st) Fb∧∀ds,m ds≠ .bad→ee (Fb (aH N ds))=m ds):FnOk P w K mg base (CXF P w) (k+1) f fd ps (pureSp K m):=by
 have nb:∀{E:XK} {H:Hp} {r:Res D},OkR E H r→r≠ .bad:=λh z=>by rw[z]at h;exact h
 obtain⟨oc,od,kV,doc,pm,an,cdv,ct,osl,rfl,lk,hcd⟩:=F.ex;refine xQ lk hcd S (λvs H Q E hZ143=>(by obtain⟨ds,G,_,rl,L,_⟩:=hZ143;rw[←rl.length];exact len ds (nb L))) λA outer s H vs Q E hr hsp=>?_;obtain⟨ds,G,hs,rl,L,k⟩:=hsp;obtain⟨Fb,hb,hm⟩:=hbody cdv A outer s H E hr;have J:=hm ds (nb L);have hoO:OkO E H (Fb (aH N ds)):=by
  rw[←J]at L;cases q:Fb (aH N ds) with
  |exc c=>rw[q]at L;exact L
  |bad=>rw[q]at L;exact L
  |_=>trivial
 refine⟨λD σ H1=>(σ=fN N vs∧H1=H∧(D.nx=λ_ M=>Q .non M)∧D.rt=Q),?_,rfl,rfl,rfl,rfl⟩;intro pins s1 σ H1 D I hZ12;obtain⟨e1,e2,e3,e4⟩:=hZ12;subst e1 e2;refine aS (hb pins s1 _ G H1 (aH N ds) I hs (sF rl) hoO) λfl s2 q=>?_;cases fl with
 |next=>
  obtain⟨ρ',B,G',M,e,I',x,r⟩:=q;refine⟨B,M,I',?_⟩;rw[e3];exact k .non (by rw[←J,e];rfl) .non G' M x (rep_non.mpr rfl)
 |brk=>
  obtain⟨ρ',B,G',M,e,I',x,r⟩:=q;rw[e]at J;exact absurd J.symm (nb L)
 |cont=>
  obtain⟨ρ',B,G',M,e,I',x,r⟩:=q;rw[e]at J;exact absurd J.symm (nb L)
 |ret u=>
  obtain⟨d,v,B,G',M,e,I',rv,x,rp⟩:=q;refine⟨v,B,M,I',rv,?_⟩;rw[e4];exact k d (by rw[←J,e];rfl) v G' M x rp
end
section
variable{X:Cx}{E:XK}
def ab (i:Nat):DS→Res D:=λρ=>match ρ[i]? with|some (some d)=>.ok d|_=>.bad
def dv (i:Nat){x:Yq}{pos:Yn}(hN:X.N[i]?=some x:=by rfl)(hv:tm X.env.scope x:=by first|exact Or.inl rfl|exact Or.inr (Or.inl rfl)|exact Or.inr (Or.inr rfl))(hd:zQ1 x:=by decide)(hcd:(x==("__classdict__" :Str))=false:=by decide):PD X E (.Name x pos) (ab i):=DL hN hv hd hcd
end
section
variable{α β:Type}{a:α}{f:α→Res β}{g:α→Out}{c:Addr}
def av:(Res.ok a).bind f=f a:=id rfl
def rH:(Res.exc c:Res α).bind f= .exc c:=id rfl
def aU:(Res.ok a).out g=g a:=id rfl
def tK:(Res.exc c:Res α).out g= .exc c:=id rfl
end
section
variable{ρ:DS}{R:Zi}{d e:D}{i j:Int}{l:Zy}{c:Zz}{F F':Zi}{f f':Z7}{fc:Zq}{b:Bool}
def bp:(Out.nx ρ).then R=R ρ:=id rfl
def tL:(Out.rt d).then R= .rt d:=id rfl
def rJ:(Out.exc c).then R= .exc c:=id rfl
def cr:ax F R ρ=(F ρ).then R:=id rfl
def xG {k:Nat}:aQ k f ρ=(f ρ).out λd=>.nx (ρ.set k (some d)):=id rfl
def kR:bI f ρ=(f ρ).out .rt:=id rfl
def EH:fL fc F F' ρ=(fc ρ).out λk=>if k=true then F ρ else F' ρ:=id rfl
def BU {o:Y6}:ac f f' o ρ=(f ρ).bind λa=>(f' ρ).bind λb=>o a b:=id rfl
def ED {fs:Z6}{g:Zs}:bq fs g ρ=(fs ρ).bind g:=id rfl
def CB:ck f ρ=(f ρ).bind λd=>match d with|.bl b=>.ok b|_=>.bad:=id rfl
def Ay:ab 0 (some d::ρ)= .ok d:=id rfl
def Az {k:Nat}{o:Y0}:ab (k+1) (o::ρ)=ab k ρ:=id rfl
def As {o o':Y0}:(o::ρ).set 0 o'=o'::ρ:=id rfl
def Au {k:Nat}{o o':Y0}:(o::ρ).set (k+1) o'=o::ρ.set k o':=id rfl
def xF:ee (.rt d)= .ok d:=id rfl
def xE:ee (.nx ρ)= .ok .non:=id rfl
def vZ:ee (.exc c)= .exc c:=id rfl
def Cz:xk (.int i) (.int j)= .ok (.int (i+j)):=id rfl
def C1:lX (.int i) (.int j)= .ok (.int (i-j)):=id rfl
def An (h1: -(2 ^ 64)<j)(h2:j<2 ^ 64):wE (.int i) (.int j)= .ok (.int (i*j)):=by
 unfold wE iH;dsimp only;rw[Yj (Zk (show CMul i j from Or.inr ⟨h1,h2⟩))]
def Am (h1: -(2 ^ 64)<i)(h2:i<2 ^ 64):wE (.int i) (.int j)= .ok (.int (i*j)):=by
 unfold wE iH;dsimp only;rw[Yj (Zk (show CMul i j from Or.inl ⟨h1,h2⟩))]
def mO (h:0<j):la (.int i) (.int j)= .ok (.int (i % j)):=by
 unfold la iH;dsimp only;rw[Yj (Zk h)]
def uL (h1:0<j)(h2:j<1073741824):uR (.int i) (.int j)= .ok (.int (i / j)):=by
 unfold uR iH;dsimp only;rw[Yj (Zk (show xb i j from ⟨h1,h2⟩))]
def EI:ym (.int i) (.int j)= .ok (.bl (decide (i<j))):=id rfl
def BS:s_ (.int i) (.int j)= .ok (.bl (decide (i≤j))):=id rfl
def EG:AG (.int i) (.int j)= .ok (.bl (decide (j<i))):=id rfl
def EF:FY (.int i) (.int j)= .ok (.bl (decide (j≤i))):=id rfl
def uO:aY [.lst l]= .ok (.int l.length):=id rfl
def Ah:aY [.tup l]= .ok (.int l.length):=id rfl
def qf {d:D}(h:atI l i=some d):aJ (.lst l) (.int i)= .ok d:=by unfold aJ;dsimp only;rw[h]
def fS {d:D}(h:atI l i=some d):aJ (.tup l) (.int i)= .ok d:=by unfold aJ;dsimp only;rw[h]
def jA {α:Type}{xs:List α}{i:Int}{v:α}(h0:0≤i)(h:xs[i.toNat]?=some v):atI xs i=some v:=by
 have:=uG (j:=i.toNat) h;rwa[Int.toNat_of_nonneg h0]at this
def Al:E7 [.int i,.int j]= .ok (.int (min i j)):=id rfl
def Aj:E6 [.int i,.int j]= .ok (.int (max i j)):=id rfl
end
section
variable{X:Cx}{E:XK}
def uQ (f:Z7):DS→Out:=λρ=>(f ρ).out λ_=>.nx ρ
def qo (K:Z8)(C:Zz)(m:Zs):Sp:=λvs H Q E=>∃p dx rest ds G,vs= .ref p::rest∧H p=some (.ins C dx [])∧Same G H∧G p=none∧RepL K G ds rest∧OkR E H (m ds)∧
 ∀ns fds,m ds= .ok (.ins C ns fds)→∀fs G' H',fs.map (·.1)=ns→RepL K G' fds (fs.map (·.2))→H' p=some (.ins C dx fs)→(∀b o,H b=some o→b≠p→H' b=some o)→Same G G'→Same G' H'→(∀b o,G' b=some o→G b=some o∨H b=none∨mZ o)→G' p=none→Q .non H'
def Cf (C:Zz)(m:Zs):Prop:=∀ds d,m ds= .ok d→∃ns fds,d= .ins C ns fds
def A3 {CX:qX}{k:Nat}{f C:Zz}{fd:Y9}{ps:Zw}{m:Zs}{p pos:Yn}{e:Y1}{es:Zd}{fs:Z6}(M:Mk X.K C f)(F:FnOk X.prog X.w X.K X.mg X.base CX k f fd ps (qo X.K C m))(hmk:Cf C m)(hr:Room (k+1) X.A)(hg:Gl X x)(hm:X.mg x=some (.ref C))(hb:Binds X.K fd ps [])(hx:cQ CX X E)(ha:lP X E (e::es) fs) (hpe:∀t,PA X (e::es) t→PE X (.Call (.Name x p) (e::es) [] pos) (Ca C (qo X.K C m) [] E t)) :
  PD X E (.Call (.Name x p) (e::es) [] pos) (bq fs m):=by
 intro pins s σ G H ρ I hs hro ho;refine aS (hpe _ (ii ha) pins s σ H (λv H'=>∃d G',bq fs m ρ= .ok d∧Ext G H G' H'∧Rep X.K G' d v) I ?_) λu s' hZ144=>(by obtain⟨v,H',I',r',d,G',e,x,rp⟩:=hZ144;exact⟨d,e,v,G',H',I',r',x,rp⟩);refine⟨G,ρ,hs,hro,ho.fst,λds e1 vs G1 H1 x1 p1 y dy hy hdy hne=>?_⟩;have kk:=ho.snd e1 x1.hh;have O:Same H1 (bc (bc H1 dy (.own y)) y (.ins C dy [])):=λb o L=>by rw[aj (aB L hy),aj (aB L hdy)];exact L
 have fr2:∀b,(bc (bc H1 dy (.own y)) y (.ins C dy [])) b=none→H1 b=none:=λb L=>O.free L;have g1y:G1 y=none:=by
  cases q:G1 y with
  |none=>rfl
  |some o=>rw[x1.gh y o q]at hy;cases hy
 refine⟨y,dy,vs,ds,G1,by rw[append_nil],ao,x1.gh.trans O,g1y,p1,kk.le O,λns fds em fs2 G' H' hn rl hp kp sg sh nw gp=>⟨rfl,?_⟩⟩;refine⟨.ins C ns fds,bc G' y (.ins C dy fs2),al e1 em,x1.trans ⟨?_,?_,?_,?_⟩,rep_ins.mpr ⟨y,dy,fs2,rfl,ao,hn,rl.mono ?_⟩⟩
 ·exact λb o L=>kp b o (O b o L) (aB L hy)
 ·exact λb o L=>by rw[aj (aB (sg b o L) gp)];exact sg b o L
 ·intro b o L;by_cases N:b=y
  ·subst N;rw[ao]at L;cases L;exact hp
  ·rw[aj N]at L;exact sh b o L
 ·intro b o L;by_cases N:b=y
  ·subst N;exact .inr (.inl hy)
  ·rw[aj N]at L;exact(nw b o L).imp id (Or.imp (fr2 b) id)
 ·exact λb o L=>by rw[aj (aB L gp)];exact L
def Gr (F:Zi)(g:Addr→Option D):DS→Out:=λρ=>match F ρ with
 |.exc c=>(match g c with|some d=>.rt d|none=>.bad)
 |o=>o
end
def gX:bootBuiltins "list" =some (.type "list"):=by decide +kernel
def my:bootBuiltins "tuple" =some (.type "tuple"):=by decide +kernel
def Cn:bootBuiltins "int" =some (.type "int"):=by decide +kernel
def zX:bootBuiltins "bool" =some (.type "bool"):=by decide +kernel
def Co:bootBuiltins "max" =some (.builtin "max"):=by decide +kernel
section
variable{X:Cx}{E:XK}
def se {i:Int}(hm:∃t,X.mg x=some (.int i t))(hg:Gl X x:=by rfl)(hd:zQ1 x:=by decide):PD X E (.Name x pos) (λ_=>.ok (.int i)):=by
 obtain⟨t,hm⟩:=hm;exact yA hg hm ⟨t,rfl⟩ hd
end
section
variable{ρ:DS}{fa fb fc:Z7}{f g:Zq}{b:Bool}{c:Zz}{F:Zi}{j:Nat}{d:D}{ds:List D}
def CA:zT f g ρ=(f ρ).bind λb=>if b=true then g ρ else .ok false:=id rfl
def EJ:tf f g ρ=(f ρ).bind λb=>if b=true then .ok true else g ρ:=id rfl
def CZ:fA f ρ=(f ρ).bind λb=>.ok (!b):=id rfl
def Af:uQ fa ρ=(fa ρ).out λ_=>.nx ρ:=id rfl
def CH {fi:Z6}:FW fi j F ρ=(fi ρ).out λds=>AC j F ds ρ:=id rfl
def CW {a b:Int}:lK (.int a) (.int b)= .ok (.bl (!(a==b))):=id rfl
def CF {a b:Int}:Cy (.int a) (.int b)= .ok (.bl (a==b)):=id rfl
def Ae:Cl fa fb ρ=(fa ρ).bind λd=>match d with|.bl true=>fb ρ|.bl false=>.ok (.bl false)|_=>.bad:=id rfl
def Ao:Dt fa ρ=(fa ρ).bind λd=>match d with|.bl b=>.ok (.bl (!b))|_=>.bad:=id rfl
def Ai {fs:Z6}:dl fs ρ=(fs ρ).bind λds=>if aG ds.length=true then .ok (.lst ds) else .bad:=id rfl
def Aw {fs:Z6}:cE fs ρ=(fs ρ).bind λds=>if aG ds.length=true then .ok (.tup ds) else .bad:=id rfl
def Ak {C:Zz}{m:Yq}{gm:Zs}:lJ C m fa gm ρ=(fa ρ).bind λo=>if lB C m o=true then gm [o] else .bad:=id rfl
def xH {lo hi:Y3}:zN fa lo hi ρ=(fa ρ).bind λd=>(lo ρ).bind λl=>(hi ρ).bind λu=>fG l u d:=id rfl
def C2 {F:Zi}{gx:Addr→Option D}:Gr F gx ρ=match F ρ with|.exc c=>(match gx c with|some d=>.rt d|none=>.bad)|o=>o:=id rfl
def CN {d:D}:C9 d .non= .ok (.bl (C8 d)):=id rfl
def Ap {d:D}:E9 d .non= .ok (.bl (!C8 d)):=id rfl
end
section
variable{X:Cx}{E:XK}
def Fg {pl:Sem Bool}{k:Nat}{f C:Zz}{fd:Y9}{ps:Zw}{g:Zs}{apos pos:Yn}{fo:Z7}(hoo:PD X E o fo)(c:Cls X.K C)(hm:Meth X.K C m f)(F:FnOk X.prog X.w X.K X.mg X.base (CXF X.prog X.w) k f fd ps (pureSp X.K g))(hr:Room k X.A)(hb:Binds X.K fd ps [])(hx:cQ (CXF X.prog X.w) X E:=by exact iL λ_ _ _ h=>h)(ht:eval (.Call (.Attribute o m apos) [] [] pos) X.env=(do
   let ov ←eval o X.env
   standAt apos.atName
   let (f,first) ←holding [ov] (getMethod ov m pl)
   callWith pos f first (backTo pos (starEach [] X.env)) (backToKw pos (keywordEach [] X.env))):=by rfl):PD X E (.Call (.Attribute o m apos) [] [] pos) (lJ C m fo g):=
 yB (pl:=pl) hoo c hm F hr hb hx (yK (pl:=pl) (dP hoo) c hm F hr hb .nil hx ht)
end
section
variable{X:Cx}{E:XK}{e e2:Y1}{p pos:Yn}{f f2:DS→Res D}
def aV (hm:X.mg "len" =none)(h:PD X E e f)(hg:Gl X "len" :=by rfl)(he:zQ2 X e []:=by rfl):PD X E (.Call (.Name "len" p) [e] [] pos) (λρ=>(f ρ).bind λa=>aY [a]):=by
 have q:=kh (X:=X) (E:=E) (p:=p) (pos:=pos) pU Cs hg hm PySem.boot_len (aa h ae he) (by decide) (by decide) he rfl;have e:bq (λρ=>(f ρ).bind λd=>(Res.ok []:Res (List D)).bind λds=>.ok (d::ds)) aY=λρ=>(f ρ).bind λa=>aY [a]:=funext λρ=>by
  show ((f ρ).bind _).bind _=_;cases f ρ <;> rfl
 exact e ▸ q
def va (hm:X.mg "list" =none)(h:PD X E e f)(hg:Gl X "list" :=by rfl)(he:zQ2 X e []:=by rfl):PD X E (.Call (.Name "list" p) [e] [] pos) (λρ=>(f ρ).bind λa=>cq [a]):=by
 have q:=lc (X:=X) (E:=E) (p:=p) (pos:=pos) g_ uI hg hm gX (aa h ae he) (by decide) (by decide) he rfl;have e:bq (λρ=>(f ρ).bind λd=>(Res.ok []:Res (List D)).bind λds=>.ok (d::ds)) cq=λρ=>(f ρ).bind λa=>cq [a]:=funext λρ=>by
  show ((f ρ).bind _).bind _=_;cases f ρ <;> rfl
 exact e ▸ q
def yF (hm:X.mg "tuple" =none)(h:PD X E e f)(hg:Gl X "tuple" :=by rfl)(he:zQ2 X e []:=by rfl):PD X E (.Call (.Name "tuple" p) [e] [] pos) (λρ=>(f ρ).bind λa=>nQ [a]):=by
 have q:=lc (X:=X) (E:=E) (p:=p) (pos:=pos) nZ xt hg hm my (aa h ae he) (by decide) (by decide) he rfl;have e:bq (λρ=>(f ρ).bind λd=>(Res.ok []:Res (List D)).bind λds=>.ok (d::ds)) nQ=λρ=>(f ρ).bind λa=>nQ [a]:=funext λρ=>by
  show ((f ρ).bind _).bind _=_;cases f ρ <;> rfl
 exact e ▸ q
def A4 (hm:X.mg "max" =none)(h:PD X E e f)(hc:X.calm=true:=by rfl)(hg:Gl X "max" :=by rfl)(he:zQ2 X e []:=by rfl):PD X E (.Call (.Name "max" p) [e] [] pos) (λρ=>(f ρ).bind λa=>qz [a]):=by
 have q:=kh (X:=X) (E:=E) (p:=p) (pos:=pos) (vM hc) Ac hg hm Co (aa h ae he) (by decide) (by decide) he rfl;have e:bq (λρ=>(f ρ).bind λd=>(Res.ok []:Res (List D)).bind λds=>.ok (d::ds)) qz=λρ=>(f ρ).bind λa=>qz [a]:=funext λρ=>by
  show ((f ρ).bind _).bind _=_;cases f ρ <;> rfl
 exact e ▸ q
def si {n:String}{pos:Yn}(hm:X.mg x=none)(hv:bootBuiltins x=some (.type n))(hg:Gl X x:=by rfl)(hn:x≠ "__name__" :=by decide)(hd:zQ1 x:=by decide):PE X (.Name x pos) (tC (.ty n)):=qG hg hm hv rfl hn hd
def nr {p pos:Yn}{fa:Z7}{vc:V}(hm:X.mg "isinstance" =none)(ha:PD X E a fa)(hcl:PE X c (tC vc))(hvc:cV vc≠ .none:=by exact λz=>nomatch z)(hg:Gl X "isinstance" :=by rfl)(hs1:starEach [a,c] X.env=(false,eval a X.env)::starEach [c] X.env:=by rfl) (hs2:starEach [c] X.env=(false,eval c X.env)::starEach [] X.env:=by rfl) (hpl:(backTo pos (starEach [c] X.env)).any (·.1)=false:=by rfl) :
  PD X E (.Call (.Name "isinstance" p) [a,c] [] pos) (λρ=>(fa ρ).bind (fV X.K (cV vc))):=DH ha hcl hvc hg hm hs1 hs2 hpl
end
section
variable{ρ:DS}{fa fb fc:Z7}{c:Zz}{l:Zy}{i:Int}
def yi:D→D→Res D→Res Bool
 |.int a,.int b,z=>if a≤b then z.bind λc=>(match c with|.int c=>.ok (decide (b≤c))|_=>.bad) else .ok false
 |_,_,_=>.bad
def CP {x y z:Int}:yi (.int x) (.int y) (.ok (.int z))= .ok (decide (x≤y)&&decide (y≤z)):=by
 unfold yi;dsimp only;by_cases h:x≤y
 ·rw[Yj h,Zk h];rfl
 ·rw[Yi h,Zh h];rfl
def vX:hG fa fb fc s_ s_ ρ=(fa ρ).bind λa=>(fb ρ).bind λb=>yi a b (fc ρ):=by
 unfold hG;cases fa ρ with
 |ok a=>
  cases fb ρ with
  |ok b=>
   rw[av,av,av,av];cases a with
   |int x=>
    cases b with
    |int y=>
     rw[BS,av];unfold yi;dsimp only;by_cases h:x≤y
     ·rw[Zk h,Yj h];dsimp only;cases fc ρ with
      |ok c=>
       rw[av,av];cases c <;> rfl
      |_=>rfl
     ·rw[Zh h,Yi h]
    |_=>rfl
   |_=>cases b <;> rfl
  |_=>rfl
 |_=>rfl
def CC:FP (.int i)= .ok (some i):=id rfl
def Ax:Eh (.tup l)= .ok l:=id rfl
def Ar:zm (.lst l)= .ok l:=id rfl
def EK:D8 c (λ_=>true) ρ= .exc c:=id rfl
def CY:Ds (.int i)= .ok (.int (-i)):=id rfl
def Av {x y z:D}:(([x,y,z]:List D).length:Int)=3:=id rfl
def xI {x:D}{r:Zy}:aJ (.tup (x::r)) (.int 0)= .ok x:=fS (jA (by decide) rfl)
def xJ {x y:D}{r:Zy}:aJ (.tup (x::y::r)) (.int 1)= .ok y:=fS (jA (by decide) rfl)
def uP {x y z:D}{r:Zy}:aJ (.tup (x::y::z::r)) (.int 2)= .ok z:=fS (jA (by decide) rfl)
def uM {x:D}{r:Zy}:aJ (.lst (x::r)) (.int 0)= .ok x:=qf (jA (by decide) rfl)
def uN {x y:D}{r:Zy}:aJ (.lst (x::y::r)) (.int 1)= .ok y:=qf (jA (by decide) rfl)
def CQ {α:Type}:aG ([]:List α).length=true:=Zk (by show 0≤100000;decide)
def CS {α:Type}{a:α}:aG [a].length=true:=Zk (by show 1≤100000;decide)
def CT {α:Type}{a b:α}:aG [a,b].length=true:=Zk (by show 2≤100000;decide)
def CU {α:Type}{a b c:α}:aG [a,b,c].length=true:=Zk (by show 3≤100000;decide)
def CV {α:Type}{a b c d:α}:aG [a,b,c,d].length=true:=Zk (by show 4≤100000;decide)
def C0 {x y z:D}:fG none (some 2) (.tup [x,y,z])= .ok (.tup [x,y]):=by
 unfold fG;dsimp only;rw[Yi (by simp[HT.cG])];rfl
end
def dm {P:Zv}{w:Zn}{X:Cx}:cQ (CXF P w) X pM:=by
 intro pins σ H s e s' I h;obtain⟨_,_,_,_,_,_,_,_,_,_,_,_,_,_,q⟩:=h;exact q.elim
def EV:D→Option bD
 |.int i=>some (.inl i)
 |.str x=>some (.inr x)
 |_=>none
def gl:List D→Option (List bD)
 | []=>some []
 |d::ds=>match EV d,gl ds with
  |some k,some ks=>some (k::ks)
  |_,_=>none
theorem ji {K:Z8}{G:Hp}:∀{ds:Zy} {xs:Zu} {k:List bD},RepL K G ds xs→gl ds=some k→xs=k.map kV
 | [],xs,k,h,e=>by unfold gl at e;cases e;rw[h.inv0];rfl
 |d::ds,xs,k,h,e=>by
  obtain⟨v,r,rfl,h1,h2⟩:=h.inv;unfold gl at e;split at e
  ·rename_i k0 ks e1 e2;cases e;rw[ji h2 e2];unfold EV at e1;split at e1
   ·cases e1;rw[rep_int.mp h1];rfl
   ·cases e1;rw[rep_str.mp h1];rfl
   ·cases e1
  ·cases e
def qU:List (List bD)→List D→List bD→Option D
 |k::ks,d::ds,q=>if k=q then some d else qU ks ds q
 |_,_,_=>none
theorem sS {K:Z8}{G:Hp}{q:List bD}:∀{kvs:List (List bD×V)} {ds:List D},RepL K G ds (kvs.map (·.2))→(∀d,qU (kvs.map (·.1)) ds q=some d→∃v,iI kvs q=some v∧Rep K G d v)∧(qU (kvs.map (·.1)) ds q=none→iI kvs q=none)
 | [],ds,h=>⟨λd e=>(by unfold qU at e;cases ds <;> cases e),λ_=>rfl⟩
 |(k,v)::r,ds,h=>by
  cases ds with
  |nil=>exact absurd h.inv0 (by simp)
  |cons d0 ds=>
   obtain⟨v',r',e',h1,h2⟩:=h.inv;rw[map_cons]at e';cases e';have ih:=sS (q:=q) h2;have ev:iI ((k,v)::r) q=if k=q then some v else iI r q:=by
    unfold iI;rw[find?_cons];by_cases z:k=q
    ·rw[Zk z,Yj z];rfl
    ·rw[Zh z,Yi z]
   rw[map_cons];unfold qU;rw[ev];by_cases z:k=q
   ·rw[Yj z,Yj z];exact⟨λd e=>⟨v,rfl,(by cases e;exact h1)⟩,λe=>(by cases e)⟩
   ·rw[Yi z,Yi z];exact ih
def jX (ks:List (List bD))(ds kd:Zy):Res D:=match gl kd with
 |some k=>(match qU ks ds k with|some d=>.ok d|none=>.bad)
 |none=>.bad
def bm:D→D→Res D
 |.dct ks ds,.tup kd=>jX ks ds kd
 |.fdc ks ds,.tup kd=>jX ks ds kd
 |_,_=>.bad
def Same.rd {H H':Hp}{u:HO}(s:Same H H')(h:Rd H a u):Rd H' a u:=by
 rcases h with h|⟨o,h⟩
 ·exact .inl (s _ _ h)
 ·exact .inr ⟨o,s _ _ h⟩
section
variable{X:Cx}{E:XK}
def ij {fo fi:Z7}(hu:X.A.units+64<cLine)(ho:PD X E o fo)(hi:PD X E i fi)(hs:zP i:=by intro _ _;rfl):PD X E (.Subscript o i pos) (ac fo fi bm):=by
 intro pins s σ G H ρ I hsm hro hok;refine aS (ve (pos:=pos) (by omega) (dP ho) (dP hi) hs pins s σ H (λv H'=>∃d G',ac fo fi bm ρ= .ok d∧Ext G H G' H'∧Rep X.K G' d v) I ?_) λu s' hZ145=>(by obtain⟨v,H',I',r',d,G',e,x,rp⟩:=hZ145;exact⟨d,e,v,G',H',I',r',x,rp⟩);refine⟨G,ρ,hsm,hro,hok.fst,λd1 e1 v1 G1 H1 x1 p1=>⟨G1,ρ,x1.gh,hro.mono x1.gg,(hok.snd e1 x1.hh).fst,λd2 e2 v2 G2 H2 x2 p2=>?_⟩⟩;have O:=(hok.snd e1 x1.hh).snd e2 x2.hh;have eo:ac fo fi bm ρ=bm d1 d2:=by unfold ac;rw[e1,av,e2,av]
 have go:∀{ks:List (List bD)} {ds kd:Zy} {a:Zz} {N:List (List bD×V)},bm d1 d2=jX ks ds kd→v1= .ref a→Rd G1 a (.dT N)→N.map (·.1)=ks→RepL X.K G1 ds (N.map (·.2))→Rep X.K G2 (.tup kd) v2→B_ (λ_ H Q=>Q v1 H) (λ_ H Q=>Q v2 H) σ H2 (λv H'=>∃d G',ac fo fi bm ρ= .ok d∧Ext G H G' H'∧Rep X.K G' d v):=λ{ks ds kd a N} ed ev rd hk rl p2=>by
  rw[ed]at O;unfold jX at O;cases ek:gl kd with
  |none=>rw[ek]at O;exact O.elim
  |some k=>
  rw[ek]at O;dsimp only at O;cases eq:qU ks ds k with
  |none=>rw[eq]at O;exact O.elim
  |some d=>
  rw[rep_tup]at p2;obtain⟨b,xs,rfl,tb,rk⟩:=p2;subst hk;obtain⟨v,ev',rv⟩:=(sS (q:=k) rl).1 d eq;have hx:=ji rk ek;subst hx;refine⟨a,v,ev,.inr ⟨N,k,b,(x2.gg.trans x2.gh).rd rd,rfl,x2.gh _ _ tb.h,ev'.symm⟩,d,G2,?_,x1.trans x2,rv.mono x2.gg⟩;rw[eo,ed];unfold jX;rw[ek];dsimp only;rw[eq]
 cases d1 with
 |dct ks ds=>
  cases d2 with
  |tup kd=>
   rw[rep_dct]at p1;obtain⟨a,N,e,rd,hk,rl⟩:=p1;exact go rfl e rd hk rl p2
  |_=>exact O.elim
 |fdc ks ds=>
  cases d2 with
  |tup kd=>
   rw[rep_fdc]at p1;obtain⟨a,o,N,e,rd,hk,rl⟩:=p1;exact go rfl e (.inr ⟨o,rd⟩) hk rl p2
  |_=>exact O.elim
 |_=>exact O.elim
end
section
variable{X:Cx}{E:XK}
def xl:D→D→Res D
 |.str a,.str b=>if aG (a.length+b.length)=true then .ok (.str (a ++ b)) else .bad
 |_,_=>.bad
def do_addS:DOp X E (binaryOp .Add) xl:=DOp.of t8 λG H x y dx dy hs rx ry ok=>by
 unfold xl at ok ⊢;split at ok
 ·rename_i a b;rw[rep_str]at rx ry;subst rx ry;by_cases hz:aG (a.length+b.length)=true
  ·rw[Yj hz];exact⟨a,b,rfl,rfl,bG hz,_,G,rfl,.refl hs,rep_str.mpr rfl⟩
  ·rw[Yi hz]at ok;exact ok.elim
 ·exact ok.elim
def vP:D→D→Res D
 |.lst a,.lst b=>if aG (a.length+b.length)=true then .ok (.lst (a ++ b)) else .bad
 |_,_=>.bad
def Cu:DOp X E (binaryOp .Add) vP:=DOp.of Dy λG H x y dx dy hs rx ry ok=>by
 unfold vP at ok ⊢;split at ok
 ·rename_i a b;rw[rep_lst]at rx ry;obtain⟨p,xs,rfl,l1,r1⟩:=rx;obtain⟨q,ys,rfl,l2,r2⟩:=ry;by_cases hz:aG (a.length+b.length)=true
  ·rw[Yj hz];refine⟨p,q,xs,ys,rfl,rfl,hs _ _ l1.h,hs _ _ l2.h,by rw[←r1.length,←r2.length];exact bG hz,λt ht=>⟨_,_,rfl,.new hs ht _,?_⟩⟩;exact rep_lst.mpr ⟨t,_,rfl,.of ao,(r1.append r2).mono (Ext.new hs ht _).gg⟩
  ·rw[Yi hz]at ok;exact ok.elim
 ·exact ok.elim
theorem RepL.flat {K:Z8}{G:Hp}{ds:Zy}{vs:Zu}(h:RepL K G ds vs):∀n:Nat,RepL K G (replicate n ds).flatten (replicate n vs).flatten
 |0=>.nil
 |n+1=>by rw[replicate_succ,replicate_succ,flatten_cons,flatten_cons];exact h.append (RepL.flat h n)
def D9:D→D→Res D
 |.lst a,.int k=>if (decide (-1000000≤k)&&decide (k≤1000000)&&aG (a.length*k.toNat))=true then .ok (.lst (replicate k.toNat a).flatten) else .bad
 |_,_=>.bad
def Cw:DOp X E (binaryOp .Mult) D9:=DOp.of DC λG H x y dx dy hs rx ry ok=>by
 unfold D9 at ok ⊢;split at ok
 ·rename_i a k;rw[rep_lst]at rx;rw[rep_int]at ry;subst ry;obtain⟨p,xs,rfl,l1,r1⟩:=rx;by_cases hz:(decide (-1000000≤k)&&decide (k≤1000000)&&aG (a.length*k.toNat))=true
  ·rw[Yj hz];simp only[and_eq_true,decide_eq_true_eq]at hz;refine⟨p,k,xs,rfl,rfl,hs _ _ l1.h,by omega,by omega,by rw[←r1.length];exact bG hz.2,λt ht=>⟨_,_,rfl,.new hs ht _,?_⟩⟩;exact rep_lst.mpr ⟨t,_,rfl,.of ao,(r1.flat _).mono (Ext.new hs ht _).gg⟩
  ·rw[Yi hz]at ok;exact ok.elim
 ·exact ok.elim
def B5 (g1 g2:Y6)(a b:D):Res D:=match g1 a b with
 |.bad=>g2 a b
 |r=>r
def DOp.or {f:Value→Value→Sem Value}{g1 g2:Y6}(h1:DOp X E f g1)(h2:DOp X E f g2):DOp X E f (B5 g1 g2):=by
 intro o s σ G H x y dx dy v u I hs rx ry rv ru ok;unfold B5 at ok ⊢;cases q:g1 dx dy with
 |bad=>
  rw[q]at ok;exact h2 o s σ G H x y dx dy v u I hs rx ry rv ru ok
 |ok d=>
  rw[q]at ok;have:=h1 o s σ G H x y dx dy v u I hs rx ry rv ru (by rw[q];exact ok);rw[q]at this;exact this
 |exc c=>
  rw[q]at ok;have:=h1 o s σ G H x y dx dy v u I hs rx ry rv ru (by rw[q];exact ok);rw[q]at this;exact this
def aO:D→D→Res D:=B5 xk (B5 xl vP)
def fy:D→D→Res D:=B5 wE D9
def aA:DOp X E (binaryOp .Add) aO:=do_add.or (do_addS.or Cu)
def cB:DOp X E (binaryOp .Mult) fy:=do_mul.or Cw
def mN {i j:Int}:aO (.int i) (.int j)= .ok (.int (i+j)):=id rfl
def rG {a b:Zy}(h:aG (a.length+b.length)=true):aO (.lst a) (.lst b)= .ok (.lst (a ++ b)):=by
 show vP (.lst a) (.lst b)=_;exact Yj h
end
section
variable{X:Cx}{E:XK}{tg:Expr}
end
section
variable{X:Cx}{E:XK}
end
section
variable{X:Cx}{E:XK}
end
section
variable{X:Cx}{E:XK}{pins:Z9}{σ:St}{H:Hp}{s:Shared}
end
section
variable{X:Cx}{E:XK}{pins:Z9}{σ:St}{H:Hp}{s:Shared}
end
section
variable{X:Cx}{CX:qX}{k:Nat}{f C:Zz}{fd:Y9}{ps:Zw}{sp:Sp}{dvs:Zu}{ds:Z1}{E:XK}
end
end L2
namespace TX
open PySem PySem.Builtin PySem.Builtin.Str PySem.StrLaws
end TX
namespace L2
open PySem PySem.Spec PyProof.Rows
section
variable{X:Cx}{E:XK}
end
end L2
namespace PySem
open Sem (wp)
end PySem
namespace L2
open PySem PySem.Spec PyProof.Rows
section
variable{X:Cx}{E:XK}{e:Y1}{f:Z7}{p pos:Pos}
def qC {g:Zs}:bq (λρ=>(f ρ).bind λd=>(Res.ok []:Res (List D)).bind λds=>.ok (d::ds)) g=λρ=>(f ρ).bind λa=>g [a]:=funext λρ=>by
 show ((f ρ).bind _).bind _=_;cases f ρ <;> rfl
def CG {a b:Yq}:Cy (.str a) (.str b)= .ok (.bl (a==b)):=id rfl
def tJ {a b:Yq}:lK (.str a) (.str b)= .ok (.bl (!(a==b))):=id rfl
end
mutual
def flat:D→Bool
 |.lst _=>false
 |.dct _ _=>false
 |.fdc _ _=>false
 |.scr _=>false
 |.tup l=>flats l
 |.ins _ _ l=>flats l
 |_=>true
def flats:List D→Bool
 | []=>true
 |d::ds=>flat d&&flats ds
end
theorem fu:∀(ns:List Int),flats (ns.map D.int)=true
 | []=>by unfold flats;rfl
 |n::ns=>by rw[map_cons];unfold flats;rw[fu ns];unfold flat;rfl
def isCell (S:Y4)(o:HO):Prop:=(∃xs,o= .lst xs)∨(∃kvs,o= .dT kvs)∨∃xs b,o= .tup xs∧V.ref b∈xs∧S b
def isCell.mono {S T:Y4}{o:HO}(k:∀a,S a→T a)(h:isCell S o):isCell T o:=h.imp id (Or.imp id λhZ146=>(by obtain⟨xs,b,e,m,s⟩:=hZ146;exact⟨xs,b,e,m,k b s⟩))
def isCell.nokey {S:Y4}{o:HO}(h:isCell S o):¬mZ o:=by
 intro hZ13;obtain⟨ks,rfl⟩:=hZ13
 rcases h with ⟨xs,e⟩|⟨kvs,e⟩|⟨xs,b,e,m,s⟩
 ·cases e
 ·cases e
 ·cases e;obtain⟨k,_,e⟩:=mem_map.mp m;cases k with
  |inl i=>cases e
  |inr x=>cases e
noncomputable def nV (W:Y4)(G:Hp):Hp:=λb=> @ite _ (W b) (Classical.propDecidable _) none (G b)
def j7 {W:Y4}{G:Hp}{o:HO}(h:nV W G b=some o):¬W b∧G b=some o:=by
 unfold nV at h;by_cases q:W b
 ·rw[Yj q]at h;cases h
 ·rw[Yi q]at h;exact⟨q,h⟩
def qm {W:Y4}{G:Hp}{o:HO}(h1:¬W b)(h2:G b=some o):nV W G b=some o:=by
 unfold nV;rw[Yi h1];exact h2
def C6 {W:Y4}{G:Hp}(h1:W b):nV W G b=none:=by
 unfold nV;rw[Yj h1]
mutual
theorem Rep.nocell {K:Z8}{G:Hp}{W:Y4}(hl:∀b o,W b→G b=some o→isCell W o):∀{d:D} {v:V},L2.flat d=true→Rep K G d v→∀a,v= .ref a→¬W a
 |.non,_,_,h,a,e=>by unfold Rep at h;subst h;cases e
 |.bl _,_,_,h,a,e=>by unfold Rep at h;subst h;cases e
 |.int _,_,_,h,a,e=>by unfold Rep at h;subst h;cases e
 |.str _,_,_,h,a,e=>by unfold Rep at h;subst h;cases e
 |.lst ds,_,ha,_,_,_=>by unfold L2.flat at ha;cases ha
 |.dct _ _,_,ha,_,_,_=>by unfold L2.flat at ha;cases ha
 |.fdc _ _,_,ha,_,_,_=>by unfold L2.flat at ha;cases ha
 |.scr _,_,ha,_,_,_=>by unfold L2.flat at ha;cases ha
 |.tup ds,_,ha,h,a,e=>λw=>by
  unfold Rep at h;unfold L2.flat at ha;obtain⟨a',ys,r,s,t⟩:=h;subst r;cases e
  rcases hl a _ w s.h with ⟨vs,z⟩|⟨vs,z⟩|⟨vs,b,z,m,wb⟩
  ·cases z
  ·cases z
  ·cases z;exact RepL.nocell hl ha t (.ref b) m b rfl wb
 |.ins _ _ ds,_,ha,h,a,e=>λw=>by
  unfold Rep at h;obtain⟨a',dx,fs,r,s,n,t⟩:=h;subst r;cases e
  rcases hl a _ w s with ⟨vs,z⟩|⟨vs,z⟩|⟨vs,b,z,m,wb⟩ <;> cases z
 |.xc _,_,_,h,a,e=>λw=>by
  unfold Rep at h;obtain⟨a',r,s,_⟩:=h;subst r;cases e
  rcases hl a _ w s with ⟨vs,z⟩|⟨vs,z⟩|⟨vs,b,z,m,wb⟩ <;> cases z
theorem RepL.nocell {K:Z8}{G:Hp}{W:Y4}(hl:∀b o,W b→G b=some o→isCell W o):∀{ds:Zy} {vs:List V},flats ds=true→RepL K G ds vs→∀v∈vs,∀a,v= .ref a→¬W a
 | [],_,_,h,v,m=>by unfold RepL at h;subst h;cases m
 |_::_,_,ha,h,v,m=>by
  unfold RepL at h;unfold flats at ha;rw[and_eq_true]at ha;obtain⟨w,r,q,a,b⟩:=h;subst q
  rcases mem_cons.mp m with z|z
  ·subst z;exact Rep.nocell hl ha.1 a
  ·exact RepL.nocell hl ha.2 b v z
end
mutual
theorem Rep.lfree {K:Z8}{G:Hp}{W:Y4}(hl:∀b o,W b→G b=some o→isCell W o):∀{d:D} {v:V},L2.flat d=true→Rep K G d v→Rep K (nV W G) d v
 |.non,_,_,h=>by unfold Rep at h ⊢;exact h
 |.bl _,_,_,h=>by unfold Rep at h ⊢;exact h
 |.int _,_,_,h=>by unfold Rep at h ⊢;exact h
 |.str _,_,_,h=>by unfold Rep at h ⊢;exact h
 |.lst ds,_,ha,h=>by unfold L2.flat at ha;cases ha
 |.dct _ _,_,ha,h=>by unfold L2.flat at ha;cases ha
 |.fdc _ _,_,ha,h=>by unfold L2.flat at ha;cases ha
 |.scr _,_,ha,h=>by unfold L2.flat at ha;cases ha
 |.tup ds,v,ha,h=>by
  have nc:=Rep.nocell hl ha h;unfold Rep at h ⊢;unfold L2.flat at ha;obtain⟨a,ys,r,s,t⟩:=h;exact⟨a,ys,r,⟨qm (nc a r) s.h⟩,RepL.lfree hl ha t⟩
 |.ins _ _ ds,v,ha,h=>by
  have nc:=Rep.nocell hl ha h;unfold Rep at h ⊢;unfold L2.flat at ha;obtain⟨a,dx,fs,r,s,n,t⟩:=h;exact⟨a,dx,fs,r,qm (nc a r) s,n,RepL.lfree hl ha t⟩
 |.xc _,v,ha,h=>by
  have nc:=Rep.nocell hl ha h;unfold Rep at h ⊢;obtain⟨a,r,s,k⟩:=h;exact⟨a,r,qm (nc a r) s,k⟩
theorem RepL.lfree {K:Z8}{G:Hp}{W:Y4}(hl:∀b o,W b→G b=some o→isCell W o):∀{ds:Zy} {vs:List V},flats ds=true→RepL K G ds vs→RepL K (nV W G) ds vs
 | [],_,_,h=>by unfold RepL at h ⊢;exact h
 |_::_,_,ha,h=>by
  unfold RepL at h ⊢;unfold flats at ha;rw[and_eq_true]at ha;obtain⟨v,r,q,a,b⟩:=h;exact⟨v,r,q,Rep.lfree hl ha.1 a,RepL.lfree hl ha.2 b⟩
end
def AllW (P:Zf):List D→List V→List Addr→Prop
 | [],vs,S=>vs=[]∧S=[]
 |d::ds,vs,S=>∃v r A B,vs=v::r∧S=A ++ B∧P d v A∧AllW P ds r B
def Ow (K:Z8)(G H:Hp):Nat→D→V→List Addr→Prop
 |0,d,v,S=>S=[]∧Rep K G d v
 |n+1,.lst ds,v,S=>∃a xs T,v= .ref a∧H a=some (.lst xs)∧S=a::T∧AllW (Ow K G H n) ds xs T
 |n+1,.dct ks ds,v,S=>∃a kvs T,v= .ref a∧H a=some (.dT kvs)∧kvs.map (·.1)=ks∧S=a::T∧AllW (Ow K G H n) ds (kvs.map (·.2)) T
 |n+1,.tup ds,v,S=>(L2.flat (.tup ds)=true∧S=[]∧Rep K G (.tup ds) v)∨∃a xs T,v= .ref a∧H a=some (.tup xs)∧S=a::T∧T≠[]∧AllW (Ow K G H n) ds xs T
 |_+1,d,v,S=>L2.flat d=true∧S=[]∧Rep K G d v
def b_:Nat→D→Bool
 |0,d=>L2.flat d
 |n+1,.lst ds=>ds.all (b_ n)
 |n+1,.dct _ ds=>ds.all (b_ n)
 |n+1,.tup ds=>L2.flat (.tup ds)||ds.all (b_ n)
 |_+1,d=>L2.flat d
theorem jg:∀{ds:List D},flats ds=true→∀{d:D},d∈ds→L2.flat d=true
 | [],_,_,m=>by cases m
 |d0::ds,h,d,m=>by
  unfold flats at h;rw[and_eq_true]at h
  rcases mem_cons.mp m with z|z
  ·subst z;exact h.1
  ·exact jg h.2 z
theorem kZ {d:D}(h:L2.flat d=true):∀{n:Nat},b_ n d=true
 |0=>h
 |n+1=>by
  cases d with
  |lst ds=>unfold L2.flat at h;cases h
  |dct ks ds=>unfold L2.flat at h;cases h
  |tup ds=>unfold b_;rw[h];rfl
  |_=>unfold b_;exact h
section
variable{K:Z8}{G H G' H':Hp}
theorem AllW.mono {P Q:Zf}:∀{ds:Zy} {vs:Zu} {S:List Addr},(∀d v A,d∈ds→(∀a∈A,a∈S)→P d v A→Q d v A)→AllW P ds vs S→AllW Q ds vs S
 | [],_,_,_,h=>h
 |d::ds,_,_,k,h=>by
  obtain⟨v,r,A,B,e1,e2,h1,h2⟩:=h;subst e2;exact⟨v,r,A,B,e1,rfl,k d v A (mem_cons_self ..) (λa ha=>mem_append_left _ ha) h1,AllW.mono (λd' v' A' hd ha=>k d' v' A' (cN hd) λa h=>mem_append_right _ (ha a h)) h2⟩
theorem AllW.length {P:Zf}:∀{ds:Zy} {vs:Zu} {S:List Addr},AllW P ds vs S→ds.length=vs.length
 | [],_,_,h=>by rw[h.1];rfl
 |d::ds,_,_,h=>by
  obtain⟨v,r,A,B,e1,e2,h1,h2⟩:=h;subst e1;rw[length_cons,length_cons,AllW.length h2]
theorem AllW.append {P:Zf}:∀{ds es:Zy} {vs ws:Zu} {S T:List Addr},AllW P ds vs S→AllW P es ws T→AllW P (ds ++ es) (vs ++ ws) (S ++ T)
 | [],_,_,_,_,_,h,h'=>by rw[h.1,h.2];exact h'
 |d::ds,_,_,_,_,_,h,h'=>by
  obtain⟨v,r,A,B,e1,e2,h1,h2⟩:=h;subst e1 e2;exact⟨v,_,A,_,rfl,append_assoc ..,h1,AllW.append h2 h'⟩
def AllW.one {P:Zf}{d:D}{v:V}{S:Zt}(h:P d v S):AllW P [d] [v] S:=⟨v,[],S,[],rfl,(append_nil _).symm,h,rfl,rfl⟩
theorem AllW.at {P:Zf}:∀{ds:Zy} {vs:Zu} {S:Zt} {i:Nat} {d:D},AllW P ds vs S→ds[i]?=some d→
  ∃v A L R,vs[i]?=some v∧S=L ++ A ++ R∧P d v A∧(∀Q:D→V→List Addr→Prop,(∀d v B,(∀b∈B,b∈L∨b∈R)→P d v B→Q d v B)→∀d' v' A',Q d' v' A'→AllW Q (ds.set i d') (vs.set i v') (L ++ A' ++ R))
 | [],_,_,_,_,_,e=>by simp at e
 |d0::ds,_,_,0,d,h,e=>by
  obtain⟨v,r,A,B,e1,e2,h1,h2⟩:=h;subst e1 e2;simp at e;subst e;refine⟨v,A,[],B,rfl,by simp,h1,λQ k d' v' A' hq=>⟨v',r,A',B,rfl,by simp,hq,AllW.mono (λd v B' _ hb hp=>k d v B' (λb hb'=>.inr (hb b hb')) hp) h2⟩⟩
 |d0::ds,_,_,i+1,d,h,e=>by
  obtain⟨v,r,A,B,e1,e2,h1,h2⟩:=h;subst e1 e2;obtain⟨w,A2,L,R,g1,g2,g3,g4⟩:=AllW.at (i:=i) h2 (by simpa using e);refine⟨w,A2,A ++ L,R,by simpa using g1,by rw[g2];simp only[append_assoc],g3,λQ k d' v' A' hq=>⟨v,r.set i v',A,L ++ A' ++ R,rfl,by simp only[append_assoc],k d0 v A (λb hb=>.inl (mem_append_left _ hb)) h1,g4 Q (λd v B hb hp=>k d v B (λb hb'=>(hb b hb').imp (mem_append_right _) id) hp) d' v' A' hq⟩⟩
theorem Ow.mono (sg:Same G G'):∀{n:Nat} {d:D} {v:V} {S:List Addr},(∀a∈S,∀o,H a=some o→H' a=some o)→Ow K G H n d v S→Ow K G' H' n d v S
 |0,_,_,_,_,h=>⟨h.1,h.2.mono sg⟩
 |n+1,d,_,_,k,h=>by
  cases d with
  |lst ds=>
   obtain⟨a,xs,T,e1,e2,e3,h1⟩:=h;subst e3;exact⟨a,xs,T,e1,k a (mem_cons_self ..) _ e2,rfl,h1.mono λd v A _ hA=>Ow.mono sg λb hb o e=>k b (cN (hA b hb)) o e⟩
  |dct ks ds=>
   obtain⟨a,xs,T,e1,e2,e4,e3,h1⟩:=h;subst e3;exact⟨a,xs,T,e1,k a (mem_cons_self ..) _ e2,e4,rfl,h1.mono λd v A _ hA=>Ow.mono sg λb hb o e=>k b (cN (hA b hb)) o e⟩
  |tup ds=>
   rcases h with h|⟨a,xs,T,e1,e2,e3,e5,h1⟩
   ·exact .inl ⟨h.1,h.2.1,h.2.2.mono sg⟩
   ·subst e3;exact .inr ⟨a,xs,T,e1,k a (mem_cons_self ..) _ e2,rfl,e5,h1.mono λd v A _ hA=>Ow.mono sg λb hb o e=>k b (cN (hA b hb)) o e⟩
  |_=>exact⟨h.1,h.2.1,h.2.2.mono sg⟩
theorem AllW.rep {P:Zf}{V':Hp}:∀{ds:Zy} {vs:Zu} {S:List Addr},(∀d v A,(∀a∈A,a∈S)→P d v A→Rep K V' d v)→AllW P ds vs S→RepL K V' ds vs
 | [],_,_,_,h=>by rw[h.1];exact .nil
 |d::ds,_,_,k,h=>by
  obtain⟨v,r,A,B,e1,e2,h1,h2⟩:=h;subst e1 e2;exact .cons (k d v A (λa ha=>mem_append_left _ ha) h1) (AllW.rep (λd' v' A' ha=>k d' v' A' λa h=>mem_append_right _ (ha a h)) h2)
theorem Ow.rep {V':Hp}(sg:Same G V'):∀{n:Nat} {d:D} {v:V} {S:List Addr},(∀a∈S,∀o,H a=some o→V' a=some o)→Ow K G H n d v S→Rep K V' d v
 |0,_,_,_,_,h=>h.2.mono sg
 |n+1,d,_,_,k,h=>by
  cases d with
  |lst ds=>
   obtain⟨a,xs,T,e1,e2,e3,h1⟩:=h;subst e3;exact rep_lst.mpr ⟨a,xs,e1,.of (k a (mem_cons_self ..) _ e2),h1.rep λd v A hA=>Ow.rep sg λb hb o e=>k b (cN (hA b hb)) o e⟩
  |dct ks ds=>
   obtain⟨a,xs,T,e1,e2,e4,e3,h1⟩:=h;subst e3;exact rep_dct.mpr ⟨a,xs,e1,.inl (k a (mem_cons_self ..) _ e2),e4,h1.rep λd v A hA=>Ow.rep sg λb hb o e=>k b (cN (hA b hb)) o e⟩
  |tup ds=>
   rcases h with h|⟨a,xs,T,e1,e2,e3,e5,h1⟩
   ·exact h.2.2.mono sg
   ·subst e3;exact rep_tup.mpr ⟨a,xs,e1,.of (k a (mem_cons_self ..) _ e2),h1.rep λd v A hA=>Ow.rep sg λb hb o e=>k b (cN (hA b hb)) o e⟩
  |_=>exact h.2.2.mono sg
theorem AllW.cell {P:Zf}{C:Y4}:∀{ds:Zy} {vs:Zu} {S:List Addr},(∀d v A,P d v A→∀a∈A,C a)→AllW P ds vs S→∀a∈S,C a
 | [],_,_,_,h,a,ha=>by rw[h.2]at ha;cases ha
 |d::ds,_,_,k,h,a,ha=>by
  obtain⟨v,r,A,B,e1,e2,h1,h2⟩:=h;subst e2
  rcases mem_append.mp ha with z|z
  ·exact k d v A h1 a z
  ·exact AllW.cell k h2 a z
theorem AllW.hasC {P:Zf}(hP:∀d v A,P d v A→A≠[]→∃b,v= .ref b∧b∈A):∀{ds:Zy} {vs:Zu} {S:List Addr},AllW P ds vs S→S≠[]→∃b,V.ref b∈vs∧b∈S
 | [],_,_,h,n=>absurd h.2 n
 |d::ds,_,_,h,n=>by
  obtain⟨v,r,A,B,e1,e2,h1,h2⟩:=h;subst e1 e2;by_cases z:A=[]
  ·obtain⟨b,hb,hb'⟩:=AllW.hasC hP h2 (λy=>n (by rw[z,y];rfl));exact⟨b,cN hb,mem_append_right _ hb'⟩
  ·obtain⟨b,e,hb⟩:=hP d v A h1 z;exact⟨b,by rw[e];exact mem_cons_self ..,mem_append_left _ hb⟩
theorem Ow.head:∀{n:Nat} {d:D} {v:V} {S:List Addr},Ow K G H n d v S→S≠[]→∃b,v= .ref b∧b∈S
 |0,_,_,_,h,n=>absurd h.1 n
 |n+1,d,_,_,h,hn=>by
  cases d with
  |lst ds=>obtain⟨a,xs,T,e1,e2,e3,h1⟩:=h;exact⟨a,e1,by rw[e3];exact mem_cons_self ..⟩
  |dct ks ds=>obtain⟨a,xs,T,e1,e2,e4,e3,h1⟩:=h;exact⟨a,e1,by rw[e3];exact mem_cons_self ..⟩
  |tup ds=>
   rcases h with h|⟨a,xs,T,e1,e2,e3,e5,h1⟩
   ·exact absurd h.2.1 hn
   ·exact⟨a,e1,by rw[e3];exact mem_cons_self ..⟩
  |_=>exact absurd h.2.1 hn
theorem AllW.cell2 {P:Zf}{C:(Addr→Prop)→Addr→Prop}(mo:∀S T a,(∀b,S b→T b)→C S a→C T a):∀{ds:Zy} {vs:Zu} {S:List Addr},(∀d v A,P d v A→∀a∈A,C (· ∈A) a)→AllW P ds vs S→∀a∈S,C (· ∈S) a
 | [],_,_,_,h,a,ha=>by rw[h.2]at ha;cases ha
 |d::ds,_,_,k,h,a,ha=>by
  obtain⟨v,r,A,B,e1,e2,h1,h2⟩:=h;subst e2
  rcases mem_append.mp ha with z|z
  ·exact mo _ _ a (λb hb=>mem_append_left _ hb) (k d v A h1 a z)
  ·exact mo _ _ a (λb hb=>mem_append_right _ hb) (AllW.cell2 mo k h2 a z)
theorem Ow.cell:∀{n:Nat} {d:D} {v:V} {S:List Addr},Ow K G H n d v S→∀a∈S,∃o,H a=some o∧isCell (· ∈S) o
 |0,_,_,_,h,a,ha=>by rw[h.1]at ha;cases ha
 |n+1,d,_,_,h,b,hb=>by
  have mo:∀(S T:Y4) (a:Addr),(∀b,S b→T b)→(∃o,H a=some o∧isCell S o)→∃o,H a=some o∧isCell T o:=λS T a k hZ147=>(by obtain⟨o,e,c⟩:=hZ147;exact⟨o,e,c.mono k⟩);have up:∀{x:Zz} {T:List Addr},(∃o,H b=some o∧isCell (· ∈T) o)→∃o,H b=some o∧isCell (· ∈x::T) o:=λhZ148=>(by obtain⟨o,e,c⟩:=hZ148;exact⟨o,e,c.mono λa ha=>cN ha⟩);cases d with
  |lst ds=>
   obtain⟨a,xs,T,e1,e2,e3,h1⟩:=h;subst e3
   rcases mem_cons.mp hb with z|z
   ·subst z;exact⟨_,e2,.inl ⟨xs,rfl⟩⟩
   ·exact up (h1.cell2 (C:=λS a=>∃o,H a=some o∧isCell S o) mo (λ_ _ _ q=>Ow.cell q) b z)
  |dct ks ds=>
   obtain⟨a,xs,T,e1,e2,e4,e3,h1⟩:=h;subst e3
   rcases mem_cons.mp hb with z|z
   ·subst z;exact⟨_,e2,.inr (.inl ⟨xs,rfl⟩)⟩
   ·exact up (h1.cell2 (C:=λS a=>∃o,H a=some o∧isCell S o) mo (λ_ _ _ q=>Ow.cell q) b z)
  |tup ds=>
   rcases h with h|⟨a,xs,T,e1,e2,e3,e5,h1⟩
   ·rw[h.2.1]at hb;cases hb
   ·subst e3
    rcases mem_cons.mp hb with z|z
    ·subst z;obtain⟨c,hc,hc'⟩:=h1.hasC (λ_ _ _ q=>Ow.head q) e5;exact⟨_,e2,.inr (.inr ⟨xs,c,rfl,hc,cN hc'⟩)⟩
    ·exact up (h1.cell2 (C:=λS a=>∃o,H a=some o∧isCell S o) mo (λ_ _ _ q=>Ow.cell q) b z)
  |_=>rw[h.2.1]at hb;cases hb
theorem Ow.hide {W:Y4}(hl:∀b o,W b→G b=some o→isCell W o):∀{n:Nat} {d:D} {v:V} {S:List Addr},b_ n d=true→Ow K G H n d v S→Ow K (nV W G) H n d v S
 |0,_,_,_,hf,h=>⟨h.1,Rep.lfree hl hf h.2⟩
 |n+1,d,_,_,hf,h=>by
  cases d with
  |lst ds=>
   obtain⟨a,xs,T,e1,e2,e3,h1⟩:=h;unfold b_ at hf;exact⟨a,xs,T,e1,e2,e3,h1.mono λd v A hd _=>Ow.hide hl (all_eq_true.mp hf d hd)⟩
  |dct ks ds=>
   obtain⟨a,xs,T,e1,e2,e4,e3,h1⟩:=h;unfold b_ at hf;exact⟨a,xs,T,e1,e2,e4,e3,h1.mono λd v A hd _=>Ow.hide hl (all_eq_true.mp hf d hd)⟩
  |tup ds=>
   rcases h with h|⟨a,xs,T,e1,e2,e3,e5,h1⟩
   ·exact .inl ⟨h.1,h.2.1,Rep.lfree hl h.1 h.2.2⟩
   ·refine .inr ⟨a,xs,T,e1,e2,e3,e5,h1.mono λd v A hd _=>Ow.hide hl ?_⟩;unfold b_ at hf;rw[or_eq_true]at hf
    rcases hf with z|z
    ·unfold L2.flat at z;exact kZ (jg z hd)
    ·exact all_eq_true.mp z d hd
  |_=>exact⟨h.1,h.2.1,Rep.lfree hl h.1 h.2.2⟩
end
def oa (fp:Zg)(a:Zz):Prop:=∃i,a∈fp i
noncomputable def nX (fp:Zg)(G H:Hp):Hp:=λb=> @ite _ (oa fp b) (Classical.propDecidable _) (H b) (G b)
structure Rw (K:Z8)(μ:Z0)(Ge B G H:Hp)(σ:St)(ρ:DS)(fp:Zg):Prop where
 gh:Same G H
 eg:Same Ge G
 bh:Same B H
 nw:∀b o,G b=some o→Ge b=some o∨B b=none∨mZ o
 gf:∀i a,a∈fp i→G a=none
 ob:∀i a,a∈fp i→B a=none
 oc:∀i a,a∈fp i→∃o,H a=some o∧isCell (· ∈fp i) o
 nd:∀i,(fp i).Nodup
 dj:∀i j a,a∈fp i→a∈fp j→i=j
 sl:∀i d,ρ[i]?=some (some d)→∃v,σ[i]?=some (some v)∧Ow K G H (μ.getD i 0) d v (fp i)
section
variable{K:Z8}{μ:Z0}{Ge B G H G' H':Hp}{σ:St}{ρ:DS}{fp:Nat→List Addr}
def zI (h:oa fp b):nX fp G H b=H b:=by unfold nX;rw[Yj h]
def mn (h:¬oa fp b):nX fp G H b=G b:=by unfold nX;rw[Yi h]
def Rw.vh (R:Rw K μ Ge B G H σ ρ fp):Same (nX fp G H) H:=λb o e=>by
 by_cases q:oa fp b
 ·rw[zI q]at e;exact e
 ·rw[mn q]at e;exact R.gh b o e
def Rw.gv (R:Rw K μ Ge B G H σ ρ fp):Same G (nX fp G H):=λb o e=>by
 by_cases q:oa fp b
 ·obtain⟨i,hi⟩:=q;rw[R.gf i b hi]at e;cases e
 ·rw[mn q];exact e
def Rw.ro (R:Rw K μ Ge B G H σ ρ fp):Ro K (nX fp G H) σ ρ:=λi d e=>by
 obtain⟨v,hv,h⟩:=R.sl i d e;exact⟨v,hv,h.rep R.gv λa ha o eo=>by rw[zI ⟨i,ha⟩];exact eo⟩
def h_ (μ:Z0)(ρ:DS):DS:=ρ.mapIdx λi o=>if μ.getD i 0=0 then o else none
def Rw.rof (R:Rw K μ Ge B G H σ ρ fp):Ro K G σ (h_ μ ρ):=λi d e=>by
 unfold h_ at e;rw[List.getElem?_mapIdx]at e;cases q:ρ[i]? with
 |none=>rw[q]at e;cases e
 |some o=>
  rw[q]at e;simp only[map_some,Option.some.injEq]at e;by_cases m:μ.getD i 0=0
  ·rw[Yj m]at e;subst e;obtain⟨v,hv,h⟩:=R.sl i d q;rw[m]at h;exact⟨v,hv,h.2⟩
  ·rw[Yi m]at e;cases e
def Rw.gg (R:Rw K μ Ge B G H σ ρ fp)(x:Ext (nX fp G H) H G' H'):Same G (nV (oa fp) G'):=λb o e=>by
 by_cases q:oa fp b
 ·obtain⟨i,hi⟩:=q;rw[R.gf i b hi]at e;cases e
 ·exact qm q (x.gg b o (R.gv b o e))
def Rw.grow (R:Rw K μ Ge B G H σ ρ fp)(x:Ext (nX fp G H) H G' H'):Rw K μ Ge B (nV (oa fp) G') H' σ ρ fp:=by
 refine⟨λb o e=>x.gh b o (j7 e).2,R.eg.trans (R.gg x),R.bh.trans x.hh,λb o e=>?_,λi a e=>C6 ⟨i,e⟩,R.ob,λi a e=>?_,R.nd,R.dj,λi d e=>?_⟩
 ·obtain⟨n,e1⟩:=j7 e
  rcases x.nw b o e1 with z|z
  ·rw[mn n]at z;exact R.nw b o z
  ·exact .inr (z.imp R.bh.free id)
 ·obtain⟨o,h1,h2⟩:=R.oc i a e;exact⟨o,x.hh _ _ h1,h2⟩
 ·obtain⟨v,hv,h⟩:=R.sl i d e;exact⟨v,hv,h.mono (R.gg x) λa _ o ho=>x.hh a o ho⟩
def Rw.growF (R:Rw K μ Ge B G H σ ρ fp)(x:Ext G H G' H'):Rw K μ Ge B G' H' σ ρ fp:=by
 refine⟨x.gh,R.eg.trans x.gg,R.bh.trans x.hh,λb o e=>?_,λi a e=>?_,R.ob,λi a e=>?_,R.nd,R.dj,λi d e=>?_⟩
 ·rcases x.nw b o e with z|z
  ·exact R.nw b o z
  ·exact .inr (z.imp R.bh.free id)
 ·cases z:G' a with
  |none=>rfl
  |some o=>
   rcases x.nw a o z with y|y
   ·rw[R.gf i a e]at y;cases y
   ·obtain⟨o',h,hc⟩:=R.oc i a e
    rcases y with y|y
    ·rw[y]at h;cases h
    ·have h2:=x.gh a o z;rw[x.hh a _ h]at h2;cases h2;exact(hc.nokey y).elim
 ·obtain⟨o,h1,h2⟩:=R.oc i a e;exact⟨o,x.hh _ _ h1,h2⟩
 ·obtain⟨v,hv,h⟩:=R.sl i d e;exact⟨v,hv,h.mono x.gg λa _ o ho=>x.hh a o ho⟩
def Rw.cells (R:Rw K μ Ge B G H σ ρ fp)(x:Ext (nX fp G H) H G' H'):∀b o,oa fp b→G' b=some o→isCell (oa fp) o:=λb o ⟨i,hi⟩ e=>by
 obtain⟨o',h1,h2⟩:=R.oc i b hi;have h3:=x.gh b o e;rw[x.hh b _ h1]at h3;cases h3;exact h2.mono λa ha=>⟨i,ha⟩
def Rw.put {i:Nat}{d:D}{v:V}{S:Zt}(R:Rw K μ Ge B G H σ ρ fp)(hi:i<σ.length)(h:Ow K G H (μ.getD i 0) d v S)(nd:S.Nodup)(hS:∀a∈S,G a=none∧B a=none)(hd:∀j,j≠i→∀a∈S,a∉fp j):Rw K μ Ge B G H (σ.set i (some v)) (ρ.set i (some d)) (λj=>if j=i then S else fp j):=by
 refine⟨R.gh,R.eg,R.bh,R.nw,λj a e=>?_,λj a e=>?_,λj a e=>?_,λj=>?_,λj k a ej ek=>?_,λj e q=>?_⟩
 ·split at e
  ·exact(hS a e).1
  ·exact R.gf j a e
 ·split at e
  ·exact(hS a e).2
  ·exact R.ob j a e
 ·by_cases hj:j=i
  ·simp only[Yj hj]at e ⊢;exact h.cell a e
  ·simp only[Yi hj]at e ⊢;exact R.oc j a e
 ·split
  ·exact nd
  ·exact R.nd j
 ·skip
  split at ej
  ·rename_i z1;split at ek
   ·rename_i z2;rw[z1,z2]
   ·rename_i z2;exact absurd ek (hd k z2 a ej)
  ·rename_i z1;split at ek
   ·rename_i z2;exact absurd ej (hd j z1 a ek)
   ·exact R.dj j k a ej ek
 ·by_cases hj:j=i
  ·subst hj;rw[List.getElem?_set_self']at q;cases z:ρ[j]? with
   |none=>rw[z]at q;cases q
   |some o=>
    rw[z]at q;cases q;rw[Yj rfl];exact⟨v,getElem?_set_self hi,h⟩
  ·rw[getElem?_set_ne (Ne.symm hj)]at q ⊢;rw[Yi hj];exact R.sl j e q
def Rw.drop {i:Nat}(R:Rw K μ Ge B G H σ ρ fp):Rw K μ Ge B G H σ (ρ.set i none) (λj=>if j=i then [] else fp j):=by
 refine⟨R.gh,R.eg,R.bh,R.nw,λj a e=>?_,λj a e=>?_,λj a e=>?_,λj=>?_,λj k a ej ek=>?_,λj e q=>?_⟩
 ·split at e
  ·cases e
  ·exact R.gf j a e
 ·split at e
  ·cases e
  ·exact R.ob j a e
 ·by_cases hj:j=i
  ·simp only[Yj hj]at e;cases e
  ·simp only[Yi hj]at e ⊢;exact R.oc j a e
 ·split
  ·exact nodup_nil
  ·exact R.nd j
 ·skip
  split at ej
  ·cases ej
  ·split at ek
   ·cases ek
   ·exact R.dj j k a ej ek
 ·by_cases hj:j=i
  ·subst hj;rw[List.getElem?_set_self']at q;cases z:ρ[j]? with
   |none=>rw[z]at q;cases q
   |some o=>rw[z]at q;cases q
  ·rw[getElem?_set_ne (Ne.symm hj)]at q;rw[Yi hj];exact R.sl j e q
def Rw.write {i:Nat}{ob:HO}{d:D}{v:V}{S:Zt}(R:Rw K μ Ge B G H σ ρ fp)(ha:a∈fp i)(hv:σ[i]?=some (some v))(h:Ow K G (bc H a ob) (μ.getD i 0) d v S)(nd:S.Nodup)(hS:∀b∈S,G b=none∧B b=none)(hd:∀j,j≠i→∀b∈S,b∉fp j):Rw K μ Ge B G (bc H a ob) σ (ρ.set i (some d)) (λj=>if j=i then S else fp j):=by
 have nG:∀{b:Zz} {o:HO},G b=some o→b≠a:=λe z=>by rw[z,R.gf i a ha]at e;cases e
 have nB:∀{b:Zz} {o:HO},B b=some o→b≠a:=λe z=>by rw[z,R.ob i a ha]at e;cases e
 have nj:∀{j:Nat} {b:Addr},j≠i→b∈fp j→b≠a:=λP hb z=>by subst z;exact P (R.dj _ i _ hb ha)
 refine⟨λb o e=>by rw[aj (nG e)];exact R.gh b o e,R.eg,λb o e=>by rw[aj (nB e)];exact R.bh b o e,R.nw,λj b e=>?_,λj b e=>?_,λj b e=>?_,λj=>?_,λj k b ej ek=>?_,λj e q=>?_⟩
 ·split at e
  ·exact(hS b e).1
  ·exact R.gf j b e
 ·split at e
  ·exact(hS b e).2
  ·exact R.ob j b e
 ·by_cases P:j=i
  ·simp only[Yj P]at e ⊢;exact h.cell b e
  ·simp only[Yi P]at e ⊢;rw[aj (nj P e)];exact R.oc j b e
 ·split
  ·exact nd
  ·exact R.nd j
 ·skip
  split at ej
  ·rename_i z1;split at ek
   ·rename_i z2;rw[z1,z2]
   ·rename_i z2;exact absurd ek (hd k z2 b ej)
  ·rename_i z1;split at ek
   ·rename_i z2;exact absurd ej (hd j z1 b ek)
   ·exact R.dj j k b ej ek
 ·by_cases P:j=i
  ·subst P;rw[List.getElem?_set_self']at q;cases z:ρ[j]? with
   |none=>rw[z]at q;cases q
   |some o=>
    rw[z]at q;cases q;rw[Yj rfl];exact⟨v,hv,h⟩
  ·rw[getElem?_set_ne (Ne.symm P)]at q;rw[Yi P];obtain⟨w,hw,hh⟩:=R.sl j e q;exact⟨w,hw,hh.mono (.refl _) λb hb o eo=>by rw[aj (nj P hb)];exact eo⟩
end
def New (H G:Hp)(S:Zt):Prop:=S.Nodup∧∀a∈S,H a=none∧G a=none
def New.nil {H G:Hp}:New H G []:=⟨nodup_nil,λa h=>by cases h⟩
inductive NQ (X:Cx)(pins:Z9)(σ:St)(G H:Hp)(n:Nat)(o:Res D)(u:Zc)(s':Z3):Prop
 |mk (d:D) (e:o= .ok d) (v:V) (G' H':Hp) (S:Zt) (i:Inv X pins σ H' s') (r:RelV v u) (x:Ext G H G' H') (w:Ow X.K G' H' n d v S) (nw:New H G' S)
inductive ZQ (X:Cx)(pins:Z9)(σ:St)(μ:Z0)(Ge B G H:Hp)(ρ:DS)(fp:Zg)(n:Nat)(o:Res D)(u:Zc)(s':Z3):Prop
 |mk (d:D) (e:o= .ok d) (v:V) (G' H':Hp) (S:Zt) (i:Inv X pins σ H' s') (r:RelV v u) (R:Rw X.K μ Ge B G' H' σ ρ fp) (sg:Same G G') (sh:Same H H') (w:Ow X.K G' H' n d v S) (nw:New H G' S)
def PN (X:Cx)(E:XK)(n:Nat)(e:Y1)(f:Z7):Prop:=
 ∀(pins:Z9) (s:Z3) (σ:St) (G H:Hp) (ρ:DS),Inv X pins σ H s→Same G H→Ro X.K G σ ρ→OkR E H (f ρ)→
  wpAny (model X.prog X.w) X.A (eval e X.env) (NQ X pins σ G H n (f ρ)) X.xe s
def Ext.freeze {K:Z8}{G H G' H':Hp}{n:Nat}{d:D}{v:V}{S:Zt}(hs:Same G H)(x:Ext G H G' H')(w:New H G' S)(h:Ow K G' H' n d v S):∃G2,Ext G H G2 H'∧Same G' G2∧Rep K G2 d v:=by
 have dec:∀b,Decidable (b∈S):=λb=>Classical.propDecidable _;refine⟨λb=>if b∈S then H' b else G' b,⟨x.hh,λb o e=>?_,λb o e=>?_,λb o e=>?_⟩,λb o e=>?_,h.rep (λb o e=>?_) λa ha o e=>?_⟩
 ·by_cases q:b∈S
  ·have:=(w.2 b q).1;rw[hs b o e]at this;cases this
  ·show (if b∈S then H' b else G' b)=some o
   rw[Yi q];exact x.gg b o e
 ·have e:(if b∈S then H' b else G' b)=some o:=e
  by_cases q:b∈S
  ·rw[Yj q]at e;exact e
  ·rw[Yi q]at e;exact x.gh b o e
 ·have e:(if b∈S then H' b else G' b)=some o:=e
  by_cases q:b∈S
  ·exact .inr (.inl (w.2 b q).1)
  ·rw[Yi q]at e;exact x.nw b o e
 ·show (if b∈S then H' b else G' b)=some o
  by_cases q:b∈S
  ·rw[(w.2 b q).2]at e;cases e
  ·rw[Yi q];exact e
 ·show (if b∈S then H' b else G' b)=some o
  by_cases q:b∈S
  ·rw[(w.2 b q).2]at e;cases e
  ·rw[Yi q];exact e
 ·show (if a∈S then H' a else G' a)=some o
  rw[Yj ha];exact e
section
variable{X:Cx}{E:XK}{μ:List Nat}
def PN.of {f:Z7}(h:PD X E e f):PN X E 0 e f:=λpins s σ G H ρ I hs hr ho=>
 aS (h pins s σ G H ρ I hs hr ho) λu s' hZ149=>(by obtain⟨d,e,v,G',H',I',rv,x,rp⟩:=hZ149;exact⟨d,e,v,G',H',[],I',rv,x,⟨rfl,rp⟩,.nil⟩)
def PN.pd {n:Nat}{f:Z7}(h:PN X E n e f):PD X E e f:=λpins s σ G H ρ I hs hr ho=>
 aS (h pins s σ G H ρ I hs hr ho) λu s' hZ150=>by
  obtain⟨d,e,v,G',H',S,I',rv,x,o,w⟩:=hZ150;obtain⟨G2,x2,_,rp⟩:=x.freeze hs w o;exact⟨d,e,v,G2,H',I',rv,x2,rp⟩
def PZ (X:Cx)(E:XK)(μ:Z0)(n:Nat)(e:Y1)(f:Z7):Prop:=
 ∀(pins:Z9) (s:Z3) (σ:St) (Ge B G H:Hp) (ρ:DS) (fp:Nat→List Addr),Inv X pins σ H s→Rw X.K μ Ge B G H σ ρ fp→OkR E B (f ρ)→
  wpAny (model X.prog X.w) X.A (eval e X.env) (ZQ X pins σ μ Ge B G H ρ fp n (f ρ)) X.xe s
inductive tZ (K:Z8)(E:XK)(μ:Z0)(n:Nat)(f:Z7)(σ:St)(H:Hp)(Q:VK):Prop
 |mk (Ge B G:Hp) (ρ:DS) (fp:Zg) (R:Rw K μ Ge B G H σ ρ fp) (o:OkR E B (f ρ)) (k:∀d,f ρ= .ok d→∀v G' H' S,Rw K μ Ge B G' H' σ ρ fp→Same G G'→Same H H'→Ow K G' H' n d v S→New H G' S→Q v H')
def sj {n:Nat}{f:Z7}(h:PZ X E μ n e f):PE X e (tZ X.K E μ n f):=by
 intro pins s σ H Q I hZ14;obtain⟨Ge,B,G,ρ,fp,R,ho,k⟩:=hZ14;exact aS (h pins s σ Ge B G H ρ fp I R ho) λu s' hZ151=>(by obtain⟨d,e,v,G',H',S,I',rv,R',sg,sh,o,w⟩:=hZ151;exact⟨v,H',I',rv,k d e v G' H' S R' sg sh o w⟩)
def jS (n:Nat)(f:Z7):DS→Res D:=λρ=>(f ρ).bind λd=>if b_ n d=true then .ok d else .bad
def dY {n:Nat}{f:Z7}(h:PN X E n e f):PZ X E μ n e (jS n f):=by
 intro pins s σ Ge B G H ρ fp I R ho;refine aS (h pins s σ (nX fp G H) H ρ I R.vh R.ro (ho.fst.le R.bh)) λu s' hZ152=>?_;obtain⟨d,e,v,G',H',S,I',rv,x,o,w⟩:=hZ152;have k:=ho.snd e (Same.refl B);by_cases hl:b_ n d=true
 ·exact⟨d,al e (Yj hl),v,nV (oa fp) G',H',S,I',rv,R.grow x,R.gg x,x.hh,o.hide (R.cells x) hl,w.1,λa ha=>⟨(w.2 a ha).1,by
   cases q:nV (oa fp) G' a with
   |none=>rfl
   |some o=>have:=(j7 q).2;rw[(w.2 a ha).2]at this;cases this⟩⟩
 ·rw[Yi hl]at k;exact k.elim
def bS (μ:Z0)(f:Z7):DS→Res D:=λρ=>f (h_ μ ρ)
def au {n:Nat}{f:Z7}(h:PN X E n e f):PZ X E μ n e (bS μ f):=by
 intro pins s σ Ge B G H ρ fp I R ho;exact aS (h pins s σ G H (h_ μ ρ) I R.gh R.rof (ho.le R.bh)) λu s' hZ153=>(by obtain⟨d,e,v,G',H',S,I',rv,x,o,w⟩:=hZ153;exact⟨d,e,v,G',H',S,I',rv,R.growF x,x.gg,x.hh,o,w⟩)
inductive SMn (X:Cx)(μ:Z0)(Ge B G:Hp)(pins:Z9)(P:DS→Prop)(s':Z3):Prop
 |mk (ρ':DS) (σ':St) (G' H':Hp) (fp':Zg) (e:P ρ') (i:Inv X pins σ' H' s') (R:Rw X.K μ Ge B G' H' σ' ρ' fp') (sg:Same G G')
inductive SMr (X:Cx)(r:Nat)(Ge B:Hp)(pins:Z9)(o:Out)(u:Zc)(s':Z3):Prop
 |mk (d:D) (v:V) (σ':St) (G' H':Hp) (S:Zt) (e:o= .rt d) (i:Inv X pins σ' H' s') (rv:RelV v u) (x:Ext Ge B G' H') (w:Ow X.K G' H' r d v S) (nw:New B G' S)
def SM (X:Cx)(μ:Z0)(r:Nat)(Ge B G:Hp)(pins:Z9)(o:Out)(fl:Flow)(s':Z3):Prop:=
 match fl with
 |.next=>SMn X μ Ge B G pins (o= .nx ·) s'
 |.brk=>SMn X μ Ge B G pins (o= .bk ·) s'
 |.cont=>SMn X μ Ge B G pins (o= .ct ·) s'
 |.ret u=>SMr X r Ge B pins o u s'
def lR (X:Cx)(E:XK)(μ:Z0)(r:Nat)(st:Yl)(F:Zi):Prop:=
 ∀(pins:Z9) (s:Z3) (σ:St) (Ge B G H:Hp) (ρ:DS) (fp:Nat→List Addr),Inv X pins σ H s→Rw X.K μ Ge B G H σ ρ fp→OkO E B (F ρ)→
  wpAny (model X.prog X.w) X.A (exec st X.env) (SM X μ r Ge B G pins (F ρ)) X.xe s
def uD (X:Cx)(E:XK)(μ:Z0)(r:Nat)(sts:List Stmt)(F:Zi):Prop:=
 ∀(pins:Z9) (s:Z3) (σ:St) (Ge B G H:Hp) (ρ:DS) (fp:Nat→List Addr),Inv X pins σ H s→Rw X.K μ Ge B G H σ ρ fp→OkO E B (F ρ)→
  wpAny (model X.prog X.w) X.A (execs sts X.env) (SM X μ r Ge B G pins (F ρ)) X.xe s
variable{r:Nat}
def SM.le {Ge B G G1:Hp}{pins:Z9}{o:Out}{fl:Flow}{s':Z3}(s:Same G G1)(h:SM X μ r Ge B G1 pins o fl s'):SM X μ r Ge B G pins o fl s':=by
 cases fl with
 |next=>obtain⟨Q,z,G',H',S,e,I,R,t⟩:=h;exact⟨Q,z,G',H',S,e,I,R,s.trans t⟩
 |brk=>obtain⟨Q,z,G',H',S,e,I,R,t⟩:=h;exact⟨Q,z,G',H',S,e,I,R,s.trans t⟩
 |cont=>obtain⟨Q,z,G',H',S,e,I,R,t⟩:=h;exact⟨Q,z,G',H',S,e,I,R,s.trans t⟩
 |ret u=>exact h
def aW:uD X E μ r [] (λρ=>.nx ρ):=λ_ _ σ Ge B G H ρ fp I R _=>wpAny_execs_nil ⟨ρ,σ,G,H,fp,rfl,I,R,.refl _⟩
def ag {st:Yl}{F R:Zi}(h1:lR X E μ r st F)(h2:uD X E μ r rest R):uD X E μ r (st::rest) (ax F R):=by
 intro pins s σ Ge B G H ρ fp I W ho;refine wpAny_execs_cons (aS (h1 pins s σ Ge B G H ρ fp I W ho.fst) λfl s1 q=>?_);cases fl with
 |next=>
  obtain⟨Q,z,G',H',T,e,I',W',sg⟩:=q;refine aS (h2 pins s1 z Ge B G' H' Q T I' W' (ho.snd e (.refl _))) λfl2 s2 q2=>?_;have e2:ax F R ρ=R Q:=by unfold ax;rw[e];rfl
  rw[e2];exact q2.le sg
 |brk=>obtain⟨Q,z,G',H',T,e,q,q1,q2⟩:=q;exact⟨Q,z,G',H',T,by unfold ax;rw[e];rfl,q,q1,q2⟩
 |cont=>obtain⟨Q,z,G',H',T,e,q,q1,q2⟩:=q;exact⟨Q,z,G',H',T,by unfold ax;rw[e];rfl,q,q1,q2⟩
 |ret u=>obtain⟨d,v,z,G',H',S,e,q,q1,q2,q3,q4⟩:=q;exact⟨d,v,z,G',H',S,by unfold ax;rw[e];rfl,q,q1,q2,q3,q4⟩
def ak {st:Yl}{F:Zi}(h1:lR X E μ r st F):uD X E μ r [st] F:=by
 intro pins s σ Ge B G H ρ fp I W ho;refine wpAny_execs_cons (aS (h1 pins s σ Ge B G H ρ fp I W ho) λfl s1 q=>?_);cases fl with
 |next=>exact wpAny_execs_nil q
 |brk=>exact q
 |cont=>exact q
 |ret u=>exact q
def Rw.apart {K:Z8}{Ge B G H:Hp}{σ:St}{ρ:DS}{fp:Zg}{S:Zt}{G':Hp}(R:Rw K μ Ge B G H σ ρ fp)(w:New H G' S):∀j,∀a∈S,a∉fp j:=λj a ha hj=>by
 obtain⟨o,h,_⟩:=R.oc j a hj;rw[(w.2 a ha).1]at h;cases h
def az {i:Nat}{pos' pos:Yn}{f:Z7}(hN:X.N.Nodup)(hi:X.N[i]?=some x)(hx:qY X.env.scope x)(h:PZ X E μ (μ.getD i 0) e f)(hf:X.fn x=true∨X.env.scope.names.lookup x=some .local:=by first|exact .inl rfl|exact .inr rfl)(hsw:swapsWith e (some (.Name x pos')) pos.line X.env=pure false:=by rfl):lR X E μ r (.Assign [.Name x pos'] e pos) (aQ i f):=by
 intro pins s σ Ge B G H ρ fp I R ho;have hiσ:i<σ.length:=by rw[I.len];exact(d8 hi).1
 refine aS (D5 (pos:=pos) (pos':=pos') hN hi hx (sj h) hsw hf pins s σ H {nx:=λσ' H'=>∃d v G' S,f ρ= .ok d∧σ'=σ.set i (some v)∧Rw X.K μ Ge B G' H' σ ρ fp∧Same G G'∧Ow X.K G' H' (μ.getD i 0) d v S∧New H G' S,bk:=λ_ _=>False,ct:=λ_ _=>False,rt:=λ_ _=>False} I ⟨Ge,B,G,ρ,fp,R,ho.res,λd e v G' H' S R' sg sh o w=>⟨d,v,G',S,e,rfl,R',sg,o,w⟩⟩) λfl s1 q=>?_;cases fl with
 |next=>
  obtain⟨σ',H',I',d,v,G',S,e,e2,R',sg,o,w⟩:=q;subst e2;exact⟨_,_,G',H',_,bN e,I',R'.put hiσ o w.1 (λa ha=>⟨(w.2 a ha).2,R.bh.free (w.2 a ha).1⟩) (λj _=>R.apart w j),sg⟩
 |brk=>obtain⟨_,_,_,q⟩:=q;exact q.elim
 |cont=>obtain⟨_,_,_,q⟩:=q;exact q.elim
 |ret u=>obtain⟨_,_,_,_,_,q⟩:=q;exact q.elim
def vj {f:Z7}(h:PD X E e f)(hs:swapsWith e none pos.line X.env=pure false:=by rfl):lR X E μ r (.Expr e pos) (uQ f):=by
 intro pins s σ Ge B G H ρ fp I R ho;refine aS (eQ (dP h) hs pins s σ H {nx:=λσ' H'=>∃d G',f ρ= .ok d∧σ'=σ∧Ext (nX fp G H) H G' H',bk:=λ_ _=>False,ct:=λ_ _=>False,rt:=λ_ _=>False} I ⟨nX fp G H,ρ,R.vh,R.ro,ho.res.le R.bh,λd e v G' H' x rp=>⟨d,G',e,rfl,x⟩⟩) λfl s1 q=>?_;cases fl with
 |next=>
  obtain⟨σ',H',I',d,G',e,e2,x⟩:=q;subst e2;exact⟨ρ,_,_,H',fp,bN e,I',R.grow x,R.gg x⟩
 |brk=>obtain⟨_,_,_,q⟩:=q;exact q.elim
 |cont=>obtain⟨_,_,_,q⟩:=q;exact q.elim
 |ret u=>obtain⟨_,_,_,_,_,q⟩:=q;exact q.elim
def bn {fc:Zq}{Fa Fb:Zi}(hc:s9 X E c fc)(ha:uD X E μ r a Fa)(hb:uD X E μ r b Fb):lR X E μ r (.If c a b pos) (fL fc Fa Fb):=by
 intro o s σ Ge B G H ρ fp I R ho;refine wpAny_If (aS (hc o s σ (nX fp G H) H ρ I R.vh R.ro (ho.res.le R.bh)) λk s1 hZ154=>?_);obtain⟨e,G1,H1,I1,x1⟩:=hZ154;have kk:=ho.res2 e (Same.refl B);have e0:fL fc Fa Fb ρ=if k=true then Fa ρ else Fb ρ:=bN e
 rw[e0];cases k with
 |true=>rw[Yj rfl]at kk ⊢;exact aS (ha o s1 σ Ge B _ H1 ρ fp I1 (R.grow x1) kk) λ_ _ q=>q.le (R.gg x1)
 |false=>rw[Yi Bool.false_ne_true]at kk ⊢;exact aS (hb o s1 σ Ge B _ H1 ρ fp I1 (R.grow x1) kk) λ_ _ q=>q.le (R.gg x1)
def Rw.ext {K:Z8}{Ge B G H:Hp}{σ:St}{ρ:DS}{fp:Zg}(R:Rw K μ Ge B G H σ ρ fp):Ext Ge B G H:=⟨R.bh,R.eg,R.gh,R.nw⟩
def aT {f:Z7}(h:PZ X E μ r e f):lR X E μ r (.Return (some e) pos) (bI f):=by
 intro pins s σ Ge B G H ρ fp I R ho;refine aS (ug (pos:=pos) (sj h) pins s σ H {nx:=λ_ _=>False,bk:=λ_ _=>False,ct:=λ_ _=>False,rt:=λv H'=>∃d G' S,f ρ= .ok d∧Rw X.K μ Ge B G' H' σ ρ fp∧Same G G'∧Ow X.K G' H' r d v S∧New H G' S} I ⟨Ge,B,G,ρ,fp,R,ho.res,λd e v G' H' S R' sg sh o w=>⟨d,G',S,e,R',sg,o,w⟩⟩) λfl s1 q=>?_;cases fl with
 |next=>obtain⟨_,_,_,q⟩:=q;exact q.elim
 |brk=>obtain⟨_,_,_,q⟩:=q;exact q.elim
 |cont=>obtain⟨_,_,_,q⟩:=q;exact q.elim
 |ret u=>
  obtain⟨v,σ',H',I',rv,d,G',S,e,R',sg,o,w⟩:=q;exact⟨d,v,σ',G',H',S,bN e,I',rv,R'.ext,o,w.1,λa ha=>⟨R.bh.free (w.2 a ha).1,(w.2 a ha).2⟩⟩
def jk {i:Nat}(hm:μ.getD i 0=r)(hN:X.N[i]?=some x)(hv:tm X.env.scope x)(hd:zQ1 x:=by decide)(hcd:(x==("__classdict__" :Str))=false:=by decide):lR X E μ r (.Return (some (.Name x px)) pos) (bI (ab i)):=by
 intro pins s σ Ge B G H ρ fp I R ho;have hslot:∃d,ρ[i]?=some (some d)∧ab i ρ= .ok d:=by
  have h:=ho.res;unfold ab at h;split at h
  ·rename_i l q;exact⟨l,q,by unfold ab;rw[q]⟩
  ·exact h.elim
 obtain⟨d,hr,er⟩:=hslot;obtain⟨v,h1,o⟩:=R.sl i _ hr;rw[hm]at o;refine aS (ug (pos:=pos) (eh (pos:=px) hN hv hd hcd) pins s σ H {nx:=λ_ _=>False,bk:=λ_ _=>False,ct:=λ_ _=>False,rt:=λv' H'=>v'=v∧H'=H} I ⟨_,h1,rfl,rfl⟩) λfl s1 q=>?_;cases fl with
 |next=>obtain⟨_,_,_,q⟩:=q;exact q.elim
 |brk=>obtain⟨_,_,_,q⟩:=q;exact q.elim
 |cont=>obtain⟨_,_,_,q⟩:=q;exact q.elim
 |ret u=>
  obtain⟨v',σ',H',I',rv,e2,e3⟩:=q;subst e2 e3;exact⟨d,v',σ',G,H',fp i,bN er,I',rv,R.ext,o,R.nd i,λa ha=>⟨R.ob i a ha,R.gf i a ha⟩⟩
def b8 (fc:Zq)(F:Zi):Nat→DS→Out
 |0,_=>.bad
 |n+1,ρ=>(fc ρ).out λb=>if b=true then (match F ρ with
  |.nx ρ'=>b8 fc F n ρ'
  |.ct ρ'=>b8 fc F n ρ'
  |.bk ρ'=>.nx ρ'
  |.rt d=>.rt d
  |.exc c=>.exc c
  |.bad=>.bad) else .nx ρ
def nA (n:Nat){c:Y1}{body:List Stmt}{pos:Yn}{fc:Zq}{F:Zi}(hp:PassesOwn (model X.prog X.w) X.A X.env X.xe)(hc:s9 X E c fc)(hb:uD X E μ r body F):lR X E μ r (.While c body [] pos) (b8 fc F n):=by
 intro o s σ Ge B G H ρ fp I R ho;refine wpAny_While (codeAny_whileLoop (λk s'=>∃σ' G' H' ρ' fp',Inv X o σ' H' s'∧Rw X.K μ Ge B G' H' σ' ρ' fp'∧Same G G'∧b8 fc F n ρ=b8 fc F k ρ') ?_ n ⟨σ,G,H,ρ,fp,I,R,.refl _,rfl⟩);intro k s1 hZ15;obtain⟨σ1,G1,H1,S,fp1,I1,R1,sg1,e1⟩:=hZ15;rw[e1]at ho;cases k with
 |zero=>exact ho.elim
 |succ k=>
  have ho':OkO E B ((fc S).out λb=>if b=true then (match F S with|.nx ρ'=>b8 fc F k ρ'|.ct ρ'=>b8 fc F k ρ'|.bk ρ'=>.nx ρ'|.rt d=>.rt d|.exc c=>.exc c|.bad=>.bad) else .nx S):=ho
  have T:b8 fc F (k+1) S=(fc S).out λb=>if b=true then (match F S with|.nx ρ'=>b8 fc F k ρ'|.ct ρ'=>b8 fc F k ρ'|.bk ρ'=>.nx ρ'|.rt d=>.rt d|.exc c=>.exc c|.bad=>.bad) else .nx S:=rfl
  refine wpAny_passesOwn hp (aS (hc o s1 σ1 (nX fp1 G1 H1) H1 S I1 R1.vh R1.ro (ho'.res.le R1.bh)) λb s2 hZ155=>?_);obtain⟨eb,G2,H2,I2,x2⟩:=hZ155;have kk:=ho'.res2 eb (Same.refl B);rw[bN eb]at T;have R2:=R1.grow x2;have Y:=sg1.trans (R1.gg x2);cases b with
  |true=>
   rw[Yj rfl]at kk T ⊢;have kF:OkO E B (F S):=by
    cases q:F S with
    |exc c=>rw[q]at kk;exact kk
    |bad=>rw[q]at kk;exact kk
    |_=>trivial
   refine wpAny_passesOwn hp (aS (hb o s2 σ1 Ge B _ H2 S fp1 I2 R2 kF) λf s3 q3=>?_);cases f with
   |next=>
    obtain⟨U,x,G3,H3,V,e3,I3,R3,W⟩:=q3;rw[e3]at T;exact⟨k,lt_succ_self k,x,G3,H3,U,V,I3,R3,Y.trans W,e1.trans T⟩
   |cont=>
    obtain⟨U,x,G3,H3,V,e3,I3,R3,W⟩:=q3;rw[e3]at T;exact⟨k,lt_succ_self k,x,G3,H3,U,V,I3,R3,Y.trans W,e1.trans T⟩
   |brk=>
    obtain⟨U,x,G3,H3,V,e3,I3,R3,W⟩:=q3;rw[e3]at T;exact⟨U,x,G3,H3,V,e1.trans T,I3,R3,Y.trans W⟩
   |ret u=>
    obtain⟨d,v,x,G3,H3,S3,e3,q3,q4,q5,q6,q7⟩:=q3;rw[e3]at T;exact⟨d,v,x,G3,H3,S3,e1.trans T,q3,q4,q5,q6,q7⟩
  |false=>
   rw[Yi Bool.false_ne_true]at kk T ⊢;exact wpAny_execs_nil ⟨S,σ1,_,H2,fp1,e1.trans T,I2,R2,Y⟩
end
inductive freshSp (K:Z8)(r:Nat)(m:Zs)(vs:Zu)(H:Hp)(Q:VK)(E:XK):Prop
 |mk (ds:Zy) (G:Hp) (s:Same G H) (rl:RepL K G ds vs) (o:OkR E H (m ds)) (k:∀d,m ds= .ok d→∀v G' H' S,Ext G H G' H'→Ow K G' H' r d v S→New H G' S→Q v H')
section
variable{P:Zv}{w:Zn}{K:Z8}{mg:Z4}{base:Y5}{r:Nat}
def Fun.fresh {st:Yl}{fd:Y9}{N ps:Zw}{k:Nat}{m:Zs}(F:Fun K x qual st f fd)(S:FnScope N ps (ai st))(μ:Z0)(hμ:∀i,i<ps.length→μ.getD i 0=0)(len:∀ds,m ds≠ .bad→ds.length=ps.length)(hbody:∀(cdv:Zc) (A:Zl) (outer:Yx) (s:Z3) (H:Hp) (E:XK),Room k (A.deeper (envOfC qual (ai st) s.heap.objs.size f cdv))→
   ∃Fb,uD (xf P w K mg base N qual (ai st) f cdv A outer s H E) E μ r (cM st) Fb∧∀ds,m ds≠ .bad→ee (Fb (aH N ds))=m ds):FnOk P w K mg base (CXF P w) (k+1) f fd ps (freshSp K r m):=by
 have nb:∀{E:XK} {H:Hp} {r:Res D},OkR E H r→r≠ .bad:=λh z=>by rw[z]at h;exact h
 obtain⟨oc,od,kV,doc,pm,an,cdv,ct,osl,rfl,lk,hcd⟩:=F.ex;refine xQ lk hcd S (λvs H Q E hZ156=>(by obtain⟨ds,G,_,rl,L,_⟩:=hZ156;rw[←rl.length];exact len ds (nb L))) λA outer s H vs Q E hr hsp=>?_;obtain⟨ds,G,hs,rl,L,k⟩:=hsp;obtain⟨Fb,hb,hm⟩:=hbody cdv A outer s H E hr;have J:=hm ds (nb L);have hlen:=len ds (nb L);have hoO:OkO E H (Fb (aH N ds)):=by
  rw[←J]at L;cases q:Fb (aH N ds) with
  |exc c=>rw[q]at L;exact L
  |bad=>rw[q]at L;exact L
  |_=>trivial
 have zero:∀i d,(aH N ds)[i]?=some (some d)→μ.getD i 0=0:=λi d e=>by
  refine hμ i ?_;unfold aH at e;by_cases hi:i<ds.length
  ·omega
  ·rw[getElem?_append_right (by simpa using hi),List.getElem?_replicate]at e;split at e <;> cases e
 have R0:Rw K μ G H G H (fN N vs) (aH N ds) (λ_=>[]):=by
  refine⟨hs,.refl _,.refl _,λb o e=>.inl e,λi a e=>(by cases e),λi a e=>(by cases e),λi a e=>(by cases e),λi=>nodup_nil,λi j a e=>(by cases e),λi d e=>?_⟩;obtain⟨v,hv,rv⟩:=sF rl i d e;rw[zero i d e];exact⟨v,hv,rfl,rv⟩
 refine⟨λD σ H1=>(σ=fN N vs∧H1=H∧(D.nx=λ_ M=>Q .non M)∧D.rt=Q),?_,rfl,rfl,rfl,rfl⟩;intro pins s1 σ H1 D I hZ16;obtain⟨e1,e2,e3,e4⟩:=hZ16;subst e1 e2;refine aS (hb pins s1 _ G H1 G H1 (aH N ds) _ I R0 hoO) λfl s2 q=>?_;cases fl with
 |next=>
  obtain⟨ρ',B,G',M,fp',e,I',R,_⟩:=q;refine⟨B,M,I',?_⟩;rw[e3];have hn:m ds= .ok .non:=by rw[←J,e];rfl
  cases r with
  |zero=>exact k .non hn .non G' M [] R.ext ⟨rfl,rep_non.mpr rfl⟩ .nil
  |succ r=>exact k .non hn .non G' M [] R.ext ⟨by unfold L2.flat;rfl,rfl,rep_non.mpr rfl⟩ .nil
 |brk=>
  obtain⟨ρ',B,G',M,fp',e,_⟩:=q;rw[e]at J;exact absurd J.symm (nb L)
 |cont=>
  obtain⟨ρ',B,G',M,fp',e,_⟩:=q;rw[e]at J;exact absurd J.symm (nb L)
 |ret u=>
  obtain⟨d,v,B,G',M,S,e,I',rv,x,o,w⟩:=q;refine⟨v,B,M,I',rv,?_⟩;rw[e4];exact k d (by rw[←J,e];rfl) v G' M S x o w
end
inductive tZI (K:Z8)(E:XK)(μ:Z0)(fi:Z6)(σ:St)(H:Hp)(R:It→Hp→Prop):Prop
 |mk (Ge B G:Hp) (ρ:DS) (fp:Zg) (w:Rw K μ Ge B G H σ ρ fp) (o:OkR E B (fi ρ)) (k:∀ds,fi ρ= .ok ds→∀J G' H',Rw K μ Ge B G' H' σ ρ fp→Same G G'→zR K J ds G'→R J H')
def GD (K:Z8)(μ:Z0)(n:Nat)(g:TG)(asg:Zb):Prop:=
 ∀(Ge B G H:Hp) (σ:St) (ρ ρ':DS) (fp:Zg) (v:V) (d:D),σ.length=n→Rw K μ Ge B G H σ ρ fp→Rep K G d v→asg d ρ=some ρ'→g v σ H λσ' H'=>H'=H∧∃fp',Rw K μ Ge B G H σ' ρ' fp'
def aP (j:Nat):D→DS→Option DS:=λd ρ=>some (ρ.set j (some d))
def gW (j k:Nat):D→DS→Option DS
 |.tup [a,b],ρ=>some ((ρ.set j (some a)).set k (some b))
 |_,_=>none
section
variable{X:Cx}{E:XK}{μ:Z0}{r:Nat}{tg:Expr}
def Rw.set0 {K:Z8}{Ge B G H:Hp}{σ:St}{ρ:DS}{fp:Zg}{i:Nat}{d:D}{v:V}(R:Rw K μ Ge B G H σ ρ fp)(hi:i<σ.length)(m:μ.getD i 0=0)(h:Rep K G d v):Rw K μ Ge B G H (σ.set i (some v)) (ρ.set i (some d)) (λj=>if j=i then [] else fp j):=
 R.put hi (by rw[m];exact⟨rfl,h⟩) nodup_nil (λa h=>by cases h) λj _ a h=>by cases h
def AE {K:Z8}{n j:Nat}(hj:j<n)(m:μ.getD j 0=0):GD K μ n (cn j) (aP j):=by
 intro Ge B G H σ ρ ρ' fp v d hl R h e;cases e;exact⟨rfl,_,R.set0 (by rw[hl];exact hj) m h⟩
def C4 {K:Z8}{n j k:Nat}(hj:j<n)(hk:k<n)(m:μ.getD j 0=0)(m':μ.getD k 0=0):GD K μ n (wg K 2 (iV (cn j) (iV (cn k) wf))) (gW j k):=by
 intro Ge B G H σ ρ ρ' fp v d hl R h e;unfold gW at e;split at e
 ·rename_i a b;cases e;rw[rep_tup]at h;obtain⟨p,xs,rfl,t,rl⟩:=h;obtain⟨x,q,rfl,rx,rl⟩:=rl.inv;obtain⟨y,q,rfl,ry,rl⟩:=rl.inv;have:=rl.inv0;subst this;have R2:=(R.set0 (by rw[hl];exact hj) m rx).set0 (i:=k) (by rw[length_set,hl];exact hk) m' ry;exact⟨p,[x,y],rfl,(show TpS K H p _ from ⟨R.gh _ _ t.h⟩).sq,rfl,x,[y],rfl,y,[],rfl,rfl,rfl,_,R2⟩
 ·cases e
def ci (asg:Zb)(F:Zi):List D→DS→Out
 | [],ρ=>.nx ρ
 |d::ds,ρ=>match asg d ρ with
  |none=>.bad
  |some ρ1=>match F ρ1 with
   |.nx ρ'=>ci asg F ds ρ'
   |.ct ρ'=>ci asg F ds ρ'
   |.bk ρ'=>.nx ρ'
   |.rt d=>.rt d
   |.exc c=>.exc c
   |.bad=>.bad
def cK (fi:Z6)(asg:Zb)(F:Zi):DS→Out:=λρ=>(fi ρ).out λds=>ci asg F ds ρ
def yP {pos:Yn}{g:TG}{asg:Zb}{fi:Z6}{F:Zi}(hp:PassesOwn (model X.prog X.w) X.A X.env X.xe)(hc:X.calm=true)(hg:PG X tg g)(hgd:GD X.K μ X.N.length g asg)(hi:PI X tg iter (tZI X.K E μ fi))(hb:uD X E μ r body F)(hs:∀x,foldedSetIterable iter X.env x=pure x:=by intro _;rfl):lR X E μ r (.For tg iter body [] pos) (cK fi asg F):=by
 intro p s σ Ge B G H l fp I R ho;refine wpAny_For (aS (hi p s σ H _ I ⟨Ge,B,G,l,fp,R,ho.res,λY e J G1 H1 R1 sg src=>(show (λ(J:It) (H1:Hp)=>∃ Y G1,fi l= .ok Y∧Rw X.K μ Ge B G1 H1 σ l fp∧Same G G1∧zR X.K J Y G1) J H1 from ⟨Y,G1,e,R1,sg,src⟩)⟩) λv s1 h1=>aS h1 λitv s2 h2=> ?_) hs;obtain ⟨it,ip,tn,J,H2,e,I2,T,st2,f2,Y,G2,eds,R2,sg2,src⟩:=h2;subst e;have kk:OkO E B (ci asg F Y l):=ho.res2 eds (Same.refl B);have e0:cK fi asg F l=ci asg F Y l:=bN eds;rw [e0];have z:∀ {H':Hp},(∀ b∈ip,H' b=none)→∀ b∈ip,iG X p H' b:=λhn b hb=>⟨hn b hb,(f2 b hb).2⟩;refine codeAny_forLoop_any (λn s'=>∃ i σ' G' H' ρ' fp',n=Y.length - i∧i≤Y.length∧Inv X p σ' H' s'∧tn i s'.heap∧(∀ b∈ip,H' b=none)∧Rw X.K μ Ge B G' H' σ' ρ' fp'∧Same G2 G'∧ci asg F Y l=ci asg F (Y.drop i) ρ') ?_ Y.length
  ⟨0,σ,G2,H2,l,fp,rfl,zero_le _,I2,st2,λb hb=>(f2 b hb).1,R2,.refl _,rfl⟩
 intro n s3 hZ17;obtain⟨i,L,G3,H3,U,fp3,rfl,hi3,I3,st3,fr3,R3,W,a⟩:=hZ17;obtain⟨sg,ss⟩:=src G3 H3 W R3.gh i;by_cases O:i<Y.length
 ·obtain⟨go,yl⟩:=sg Y[i] (by simp[O]);have hdrop:Y.drop i=Y[i]::Y.drop (i+1):=by rw[List.getElem_cons_drop]
  rw[hdrop]at a;refine wpAny_passesOwn hp (aS (T.item X rfl rfl rfl hc i p s3 L H3 X.xe I3 (z fr3) st3 go) λr s4 hZ157=>?_);obtain⟨u,hr4,h4⟩:=hZ157;subst hr4;refine wpAny_passesOwn hp (aS h4 λ_ s5 hZ158=>?_);obtain⟨xv,H5,I5,r5,y5,st5,fr5⟩:=hZ158;obtain⟨G5,x5,rp5⟩:=yl xv H5 y5;have I5':=I5.pinned (z fr5) (T.obj _ _ st5);have R5:=R3.growF x5;have Q:OkO E B (ci asg F (Y[i]::Y.drop (i+1)) U):=by rw[←a];exact kk
  rw[ci]at Q;rw[ci]at a;cases qa:asg Y[i] U with
  |none=>rw[qa]at Q;exact Q.elim
  |some ρ6=>
  rw[qa]at Q a;dsimp only at Q a;refine wpAny_passesOwn hp (aS (hg _ s5 L H5 xv u _ I5' r5 (hgd Ge B G5 H5 L U ρ6 fp3 xv _ I5.len R5 rp5 qa)) λ_ s6 hZ159=>?_);obtain⟨σ6,H6,I6,e6,fp6,R6⟩:=hZ159;subst e6;have kk6:OkO E B (F ρ6):=by
   cases q:F ρ6 with
   |exc c=>rw[q]at Q;exact Q
   |bad=>rw[q]at Q;exact Q
   |_=>trivial
  refine wpAny_passesOwn hp (aS (hb _ s6 _ Ge B G5 H6 _ _ I6 R6 kk6) λf s7 q7=>?_);have C:∀{t:St} {k M:Hp} {Z:DS} {j:Nat→List Addr},Inv X (p ++ lh ip s5.heap) t M s7→Rw X.K μ Ge B k M t Z j→Same G5 k→ci asg F Y l=ci asg F (Y.drop (i+1)) Z→∃m,m<Y.length-i∧∃i σ' G' H' ρ' fp',m=Y.length-i∧i≤Y.length∧Inv X p σ' H' s7∧tn i s7.heap∧(∀b∈ip,H' b=none)∧Rw X.K μ Ge B G' H' σ' ρ' fp'∧Same G2 G'∧ci asg F Y l=ci asg F (Y.drop i) ρ':=λ{t k M Z j} y R7 h P=>by
   refine⟨Y.length-(i+1),Nat.sub_lt_sub_left O (lt_succ_self i),i+1,t,k,M,Z,j,rfl,O,y.unpinned,T.keep _ _ _ st5 λb hb o e=>(y.pin (b,o) (mem_append_right _ (mem_append_right _ (dM hb e)))).1,λb hb=>?_,R7,(W.trans x5.gg).trans h,P⟩;obtain⟨o,e,d⟩:=T.obj _ _ st5 b hb;exact(y.pin (b,o) (mem_append_right _ (mem_append_right _ (dM hb e)))).2.1
  cases f with
  |next=>obtain⟨Z,t,k,M,j,P,y,R7,h⟩:=q7;rw[P]at a;exact C y R7 h a
  |cont=>obtain⟨Z,t,k,M,j,P,y,R7,h⟩:=q7;rw[P]at a;exact C y R7 h a
  |brk=>
   obtain⟨Z,t,k,M,j,P,y,R7,h⟩:=q7;rw[P]at a;exact⟨Z,t,k,M,j,a,y.unpinned,R7,((sg2.trans W).trans x5.gg).trans h⟩
  |ret v=>
   obtain⟨d,v7,t,k,M,S7,P,y,q7,q8,q9,q10⟩:=q7;rw[P]at a;exact⟨d,v7,t,k,M,S7,a,y.unpinned,q7,q8,q9,q10⟩
 ·have hie:i=Y.length:=Nat.le_antisymm hi3 (not_lt.mp O);subst hie;refine wpAny_passesOwn hp (aS (T.done X rfl rfl rfl hc Y.length p s3 L H3 X.xe I3 (z fr3) st3 (ss (le_refl _))) λr s4 hZ160=>?_);obtain⟨hr4,I4⟩:=hZ160;subst hr4;rw[List.drop_length]at a;exact wpAny_execs_nil ⟨U,L,G3,H3,fp3,a,I4,R3,sg2.trans W⟩
def we (μ:Z0)(fi:Z6):DS→Res (List D):=λρ=>fi (h_ μ ρ)
def eV {fi:Z6}(h:PI X tg iter (tDI X.K E fi)):PI X tg iter (tZI X.K E μ (we μ fi)):=by
 intro pins s σ H Q I hZ18;obtain⟨Ge,B,G,ρ,fp,R,ho,k⟩:=hZ18;exact h pins s σ H Q I ⟨G,h_ μ ρ,R.gh,R.rof,ho.le R.bh,λds e J G' H' x src=>k ds e J G' H' (R.growF x) x.gg src⟩
def BN {f:Z7}(h:PZ X E μ 0 e f):PI X tg e (tZI X.K E μ (λρ=>(f ρ).bind zm)):=by
 intro pins s σ H Q I hZ19;obtain⟨Ge,B,G,ρ,fp,R,ho,k⟩:=hZ19;refine qI (sj h) pins s σ H Q I ⟨Ge,B,G,ρ,fp,R,ho.fst,λd e v G' H' S R' sg sh o w=>?_⟩;have kk:=ho.snd e (Same.refl B);cases d with
 |lst l=>
  have rp:=o.2;rw[rep_lst]at rp;obtain⟨a,xs,rfl,sq,rl⟩:=rp;exact⟨a,rfl,⟨xs,R'.gh.seq sq.sq⟩,k l (al e rfl) (BO X.K a) G' H' R' sg (sJ sq.sq rl)⟩
 |_=>exact kk.elim
def cX {fs:Z6}(hg:Gl X "range")(hm:X.mg "range" =none)(ha:lP X E [a] fs)(hs:starEach [a] X.env=[(false,eval a X.env)]:=by rfl):PI X tg (.Call (.Name "range" p) [a] [] pos) (tZI X.K E μ (λρ=>(fs ρ).bind nI)):=by
 intro pins s σ H Q I hZ20;obtain⟨Ge,B,G,ρ,fp,R,ho,k⟩:=hZ20;refine pf hg hm (ii ha) hs pins s σ H Q I ⟨nX fp G H,ρ,R.vh,R.ro,ho.fst.le R.bh,λds e vs G1 H1 x1 p1=>?_⟩;have kk:=ho.snd e (Same.refl B);unfold nI at kk;split at kk
 ·rename_i j;obtain⟨v,q,rfl,rv,r0⟩:=p1.inv;rw[r0.inv0];rw[rep_int]at rv;subst rv;by_cases hj:cR j=true
  ·have hj':=hj;unfold cR at hj';rw[and_eq_true]at hj';exact⟨j,rfl,Zj hj'.1,Zj hj'.2,k _ (al e (Yj hj)) _ _ H1 (R.grow x1) (R.gg x1) (lr 0 j.toNat)⟩
  ·rw[Yi hj]at kk;exact kk.elim
 ·exact kk.elim
def bX {px pos:Yn}{j:Nat}{fi:Z6}{F:Zi}(hp:PassesOwn (model X.prog X.w) X.A X.env X.xe)(hc:X.calm=true)(hN:X.N.Nodup)(hj:X.N[j]?=some x)(hx:qY X.env.scope x)(hm:μ.getD j 0=0)(hi:PI X (.Name x px) iter (tZI X.K E μ fi))(hb:uD X E μ r body F)(hf:X.fn x=true∨X.env.scope.names.lookup x=some .local:=by first|exact .inl rfl|exact .inr rfl) (hs:∀x,foldedSetIterable iter X.env x=pure x:=by intro _;rfl):lR X E μ r (.For (.Name x px) iter body [] pos) (cK fi (aP j) F):=
 yP hp hc (dX hN hj hx hf) (AE (d8 hj).1 hm) hi hb hs
def km {px py pt pos:Yn}{kt:Nat}{j k:Nat}{fi:Z6}{F:Zi}(hp:PassesOwn (model X.prog X.w) X.A X.env X.xe)(hc:X.calm=true)(hN:X.N.Nodup)(hj:X.N[j]?=some x)(hk:X.N[k]?=some y)(hx:qY X.env.scope x)(hy:qY X.env.scope y)(hm:μ.getD j 0=0)(hm':μ.getD k 0=0)(hi:PI X (.Tuple [.Name x px,.Name y py] kt pt) iter (tZI X.K E μ fi))(hb:uD X E μ r body F)(hf:X.fn x=true∨X.env.scope.names.lookup x=some .local:=by first|exact .inl rfl|exact .inr rfl) (hf':X.fn y=true∨X.env.scope.names.lookup y=some .local:=by first|exact .inl rfl|exact .inr rfl) (hs:∀x,foldedSetIterable iter X.env x=pure x:=by intro _;rfl):lR X E μ r (.For (.Tuple [.Name x px,.Name y py] kt pt) iter body [] pos) (cK fi (gW j k) F):=
 yP hp hc (ud hc (gB (dX hN hj hx hf) (gB (dX hN hk hy hf') qH))) (C4 (d8 hj).1 (d8 hk).1 hm hm') hi hb hs
end
section
variable{X:Cx}{pins:Z9}{σ:St}{H:Hp}{s:Z3}{h':Heap}
def Inv.turnedL {t':Nat}{ch:Zt}(I:Inv X pins σ H s)(hf:∀b∈ch,iG X pins H b)(k:∀b o,b∉ch→s.heap.get? b=some o→h'.get? b=some o):Inv X pins σ H {s with heap:=h',toks:=t'}:=by
 have nit:∀b u,H b=some u→b∉ch:=λb u e z=>by rw[(hf b z).1]at e;cases e
 refine I.step (g':=s.gens) (d':=s.drawn) (ch:=ch) (λb hb=>?_) (λb o _ _ hc e _=>k b o hc e) (λb o _ _ hc e _=>⟨o.slots,k b o hc e⟩) (λ_ _ _ _ n=>n)
  (λb o hc e=>⟨o,k b o hc e⟩) (λ_ _ e=>e) (λ_ _ _ e=>e) (λb ps e=>⟨#[],by rw[e];simp⟩) (λm hm=>?_) (λb u e=>?_) I.bare
 ·obtain⟨f0,f1,f2,f3,f4,f5⟩:=hf b hb;exact⟨f3,f1,f4,f5⟩
 ·obtain⟨o,es,ep,ho,r⟩:=hm;exact⟨o,es,ep,k _ o (λz=>(hf _ z).2.1 rfl) ho,r⟩
 ·refine(I.hok b u e).stay (λc v hc q=>k c v ?_ q) (λ_ q=>q) λ_ _ q=>q
  rcases hc with z|z
  ·rw[z];exact nit b u e
  ·exact nit c _ z
def Inv.track {o:HO}(I:Inv X pins σ H s)(hp:iG X pins H p)(new:ObjOk X.prog X.w (bc H p o) s.heap p o):Inv X pins σ (bc H p o) s:=by
 have hn:=hp.1;have I':=I.step (g':=s.gens) (d':=s.drawn) (t':=s.toks) (h':=s.heap) (H':=bc H p o) (ch:=[p]) (λb hb=>by
   have e:b=p:=by simpa using hb
   subst e;obtain⟨f0,f1,f2,f3,f4,f5⟩:=hp;exact⟨f3,f1,f4,f5⟩) (λb o _ _ hc e _=>e) (λb o _ _ hc e _=>⟨o.slots,e⟩) (λb u hc e n=>by rw[aj (λz=>hc (by simp[z]))];exact n)
  (λb o hc e=>⟨o,e⟩) (λb xs e=>by rw[aj (aB e hn)];exact e) (λb o u e=>by rw[aj (aB e hn)];exact e) (λb ps e=>⟨#[],by rw[aj (aB e hn),e];simp⟩) (λm hm=>hm) (λb u e=>by
   by_cases hb:b=p
   ·subst hb;rw[ao]at e;cases e;exact new
   ·rw[aj hb]at e;exact(I.hok b u e).stay (λc v _ q=>q) (λc q=>by rw[aj (aB q hn)];exact q) λc xs q=>by rw[aj (aB q hn)];exact q) I.bare
 exact I'
end
def FG (K:Z8)(a:Zz):It:=
 ⟨λi H=>∃xs x,f_ K H a xs∧xs[i]?=some x,λi H x H'=>∃p y,H p=none∧x= .ref p∧H'=bc H p (.tup [.int i,y])∧∀xs,f_ K H a xs→xs[i]?=some y,λi H=>∃xs,f_ K H a xs∧xs.length≤i⟩
def wY {P:Zv}{w:Zn}{K:Z8}{x1:Nat}(a e it:Zz)(hne:e≠it):Turn P w K (.Tuple elts x1 tp) (FG K a) [e,it] e (λi h=>(∃old,IsEnum h e it (i:Nat) old)∧h.IsListIter it a i) where
 mem:=by simp
 obj:=λi h r b A=>by
  obtain⟨⟨old,t⟩,o,l,c,d⟩:=r
  rcases mem_cons.mp A with z|z
  ·subst z;exact⟨_,t,λv z=>by cases z⟩
  ·have z:b=it:=by simpa using z
   subst z;exact⟨o,l,λv z=>by rw[d]at z;cases z⟩
 keep:=λi h h' ⟨⟨old,t⟩,r⟩ k=>⟨⟨old,k e (by simp) _ t⟩,r.at λo e=>k it (by simp) o e⟩
 item:=by
  intro X hP hw hK hc i q s σ H E I hf r hg;subst hP hw hK;obtain⟨⟨old,t⟩,m⟩:=r;obtain⟨xs,x,hq,hx⟩:=hg;obtain⟨its,rv,p,hz⟩:=I.list hq;obtain⟨u,hu,ru⟩:=rv.get hx;have hlt:∀b∈[e,it],b≠s.heap.objs.size:=λb A z=>by
   obtain⟨o,l,c,d⟩:=m
   rcases mem_cons.mp A with y|y
   ·rw[y]at z;exact absurd (Ys t) (by rw[z];exact lt_irrefl _)
   ·have y:b=it:=by simpa using y
    rw[y]at z;exact absurd (Ys l) (by rw[z];exact lt_irrefl _)
  have hfr:=I.hok.fresh (le_refl s.heap.objs.size);have hfp:iG X q H s.heap.objs.size:=I.fpOk (le_refl _) hfr;refine wpAny_pyNext_enum_item t m p.isList (x:=u) (by simpa using hu) hne λh1 he1 hit1 ht1 hz1 hk1=>⟨_,rfl,?_⟩;refine wpAny_letOwnedTupleGo_enum he1 λh2 he2 j=>?_;have j:Heap.SameBut e h1 h2:=j;have I1:Inv X q σ H {s with heap:=h2,toks:=s.toks+1}:=I.turnedL (t':=s.toks+1) (ch:=[e,it]) hf λb o A l=>by
   have b1:b≠e:=λz=>A (by simp[z]);have b2:b≠it:=λz=>A (by simp[z]);exact j.extBut b o b1 (hk1 b o b1 b2 l)
  have ht2:h2.get? s.heap.objs.size=some {cls:=.type "tuple",data:=.seq #[.int i s.toks,u]}:=j.extBut _ _ (Ne.symm (hlt e (by simp))) ht1;have I2:=Inv.track (o:=.tup [.int i,x]) I1 hfp ⟨by show 2≤sizeLine;decide,[.int i s.toks,u],.cons ⟨_,rfl⟩ (.cons ru .nil),_,ht2,rfl,_,rfl⟩;refine⟨.ref s.heap.objs.size,_,I2,rfl,⟨_,x,hfr,rfl,rfl,λys hy=>by rw[I.list_inj hy hq];exact hx⟩,⟨⟨u,?_⟩,hit1.at λo l=>j.extBut _ o (Ne.symm hne) l⟩,λb A=>?_⟩
  ·have:(((i+1:Nat):Int))=(i:Int)+1:=by push_cast;rfl
   rw[this];exact he2
  ·rw[aj (hlt b A)];exact(hf b A).1
 done:=by
  intro X hP hw hK hc i q s σ H E I hf r hg;subst hP hw hK;obtain⟨⟨old,t⟩,m⟩:=r;obtain⟨xs,hq,hx⟩:=hg;obtain⟨its,rv,p,hz⟩:=I.list hq;have hl:=rv.length;exact wpAny_pyNext_enum_end (I.ok.hd hc) t m p.isList (by simp;omega) λh1 hk=>⟨rfl,I.turnedL (t':=s.toks) (ch:=[e,it]) hf λb o A l=>hk b o (λz=>A (by simp[z])) l⟩
 self:=λ_ _ _ _ _ r h=>by
  obtain⟨⟨old,t⟩,_⟩:=r;exact wpAny_pyIter_enum t h
def zY:bootBuiltins "enumerate" =some (.type "enumerate"):=by decide +kernel
def Cq:bootBuiltins "zip" =some (.type "zip"):=by decide +kernel
section
variable{X:Cx}{E:XK}{elts:Zd}{x1:Nat}{tp:Pos}
def EM (K:Z8)(ta:TA):TI:=λσ H R=>ta σ H λxs H1=>∃a,xs=[.ref a]∧(∃ys,f_ K H1 a ys)∧R (FG K a) H1
def A_ {ta:TA}(hg:Gl X "enumerate")(hm:X.mg "enumerate" =none)(ha:PA X [a] ta)(hs:starEach [a] X.env=[(false,eval a X.env)]:=by rfl):PI X (.Tuple elts x1 tp) (.Call (.Name "enumerate" p) [a] [] pos) (EM X.K ta):=by
 intro pins s σ H R I h;refine Call_ (iW I hg hm zY (PyProof.Rows.callWith_type1 (aS (ha pos pins s σ H _ I h) λus s1 hZ161=>?_) hs rfl));obtain⟨vs,H1,I1,r1,q1⟩:=hZ161;obtain⟨l,e,⟨ys,hq⟩,q⟩:=q1;subst e;cases r1 with
 |cons r rr=>
  cases rr;cases r;obtain⟨its,rv,pp,hz⟩:=I1.list hq;refine call_enumerate_list pp.isList λh2 he hit hz2 hk=>?_;refine wpAny_pyIter_enum (s:={s1 with heap:=h2}) he ⟨s1.heap.objs.size+1,[s1.heap.objs.size+1,s1.heap.objs.size],_,_,H1,rfl,I1.kept (t':=s1.toks) hk,wY l _ _ (Nat.succ_ne_self _),⟨⟨.none,he⟩,hit⟩,λb hb=>?_,q⟩
  have hb':s1.heap.objs.size≤b:=by
   rcases mem_cons.mp hb with z|z
   ·rw[z];exact le_succ _
   ·have z:b=s1.heap.objs.size:=by simpa using z
    rw[z];exact le_refl _
  exact I1.fpOk hb' (I1.hok.fresh hb')
def b7:Nat→List D→List D
 |_,[]=>[]
 |k,d::ds=>.tup [.int k,d]::b7 (k+1) ds
theorem jt:∀(k:Nat) (l:Zy) (i:Nat),(b7 k l)[i]?=(l[i]?).map λd=>.tup [.int ((k+i:Nat):Int),d]
 |_,[],i=>by unfold b7;simp
 |k,d::ds,0=>by unfold b7;simp
 |k,d::ds,i+1=>by
  unfold b7;rw[List.getElem?_cons_succ,List.getElem?_cons_succ,jt (k+1) ds i];have:k+1+i=k+(i+1):=by omega
  rw[this]
theorem ju:∀(k:Nat) (l:List D),(b7 k l).length=l.length
 |_,[]=>rfl
 |k,d::ds=>by unfold b7;rw[length_cons,length_cons,ju]
def zt {K:Z8}{G:Hp}{xs:Zu}{ds:Zy}(sq:f_ K G a xs)(rl:RepL K G ds xs):zR K (FG K a) (b7 0 ds) G:=by
 intro G2 H2 g1 g2 i;have sq2:f_ K H2 a xs:=g2.seq (g1.seq sq);refine⟨λd hd=>?_,λhl=>⟨xs,sq2,by rw[ju,rl.length]at hl;exact hl⟩⟩;rw[jt]at hd;cases q:ds[i]? with
 |none=>rw[q]at hd;cases hd
 |some d0=>
  rw[q]at hd;cases hd;obtain⟨v,hv,rv⟩:=rl.get q;refine⟨⟨xs,v,sq2,hv⟩,λy H' hZ162=>?_⟩;obtain⟨p,z,hp,e1,e2,h⟩:=hZ162;subst e1 e2;have q:=h xs sq2;rw[hv]at q;cases q;have x:=Ext.new g2 hp (.tup [.int i,v]);refine⟨_,x,rep_tup.mpr ⟨p,_,rfl,.of ao,.cons (rep_int.mpr (by rw[Nat.zero_add])) (.cons (rv.mono (g1.trans x.gg)) .nil)⟩⟩
def rD:List D→Res (List D)
 | [.lst l]=>.ok (b7 0 l)
 |_=>.bad
def gC {fs:Z6}(hg:Gl X "enumerate")(hm:X.mg "enumerate" =none)(ha:lP X E [a] fs)(hs:starEach [a] X.env=[(false,eval a X.env)]:=by rfl):PI X (.Tuple elts x1 tp) (.Call (.Name "enumerate" p) [a] [] pos) (tDI X.K E (λρ=>(fs ρ).bind rD)):=by
 intro pins s σ H R I hZ21;obtain⟨G,ρ,hsm,hro,ho,k⟩:=hZ21;refine A_ hg hm (ii ha) hs pins s σ H R I ⟨G,ρ,hsm,hro,ho.fst,λds e vs G1 H1 x1 p1=>?_⟩;have kk:=ho.snd e x1.hh;unfold rD at kk;split at kk
 ·rename_i l;obtain⟨v,r,rfl,rv,r0⟩:=p1.inv;rw[r0.inv0];rw[rep_lst]at rv;obtain⟨b,xs,rfl,sq,rl⟩:=rv;exact⟨b,rfl,⟨xs,x1.gh.seq sq.sq⟩,k _ (al e rfl) _ G1 H1 x1 (zt sq.sq rl)⟩
 ·exact kk.elim
end
def FH (a b:Zz):It:=
 ⟨λi H=>∃xs ys x y,H a=some (.lst xs)∧H b=some (.lst ys)∧xs[i]?=some x∧ys[i]?=some y,λi H x H'=>∃p y z,H p=none∧x= .ref p∧H'=bc H p (.tup [y,z])∧(∀xs,H a=some (.lst xs)→xs[i]?=some y)∧∀ys,H b=some (.lst ys)→ys[i]?=some z,
  λi H=>∃xs ys,H a=some (.lst xs)∧H b=some (.lst ys)∧(xs.length≤i∨ys.length≤i)⟩
def Ev (z TI TO i1 i2 a b:Zz)(i:Nat)(h:Y5):Prop:=IsZip h z TI TO .none∧IsPair h TI (.ref i1) (.ref i2)∧(∃x y,IsPair h TO x y)∧h.IsListIter i1 a i∧h.IsListIter i2 b i
structure ZApart (z TI TO i1 i2:Zz):Prop where
 TIz:TI≠z
 TOz:TO≠z
 i1z:i1≠z
 i2z:i2≠z
 TITO:TI≠TO
 TIi1:TI≠i1
 TIi2:TI≠i2
 TOi1:TO≠i1
 TOi2:TO≠i2
 i12:i1≠i2
def pL {X:Cx}{pins:Z9}{H:Hp}{a b z TI TO i1 i2:Zz}{xs ys:Zu}(D:ZApart z TI TO i1 i2)(hf:∀b∈[z,TI,TO,i1,i2],iG X pins H b)(hq:H a=some (.lst xs))(hq':H b=some (.lst ys)):ZipApart z TI TO i1 i2 a b:=
 have na:∀{l:Zz} {zs:List V},H l=some (.lst zs)→∀c∈[z,TI,TO,i1,i2],l≠c:=λhl c hc e=>by rw[e,(hf c hc).1]at hl;cases hl
 ⟨D.TIz,D.TOz,D.i1z,D.i2z,D.TITO,D.TIi1,D.TIi2,D.TOi1,D.TOi2,D.i12,na hq z (by simp),na hq TO (by simp),na hq i1 (by simp),na hq i2 (by simp),na hq' z (by simp),na hq' TO (by simp),na hq' i1 (by simp),na hq' i2 (by simp)⟩
def zC {P:Zv}{w:Zn}{K:Z8}{x1:Nat}(a b z TI TO i1 i2:Zz)(D:ZApart z TI TO i1 i2):Turn P w K (.Tuple elts x1 tp) (FH a b) [z,TI,TO,i1,i2] z (Ev z TI TO i1 i2 a b) where
 mem:=by simp
 obj:=λi h st c q=>by
  obtain⟨hz,j,⟨x,y,m⟩,⟨o1,e1,c1,d1⟩,⟨o2,e2,c2,d2⟩⟩:=st;simp only[mem_cons,not_mem_nil,or_false]at q
  rcases q with rfl|rfl|rfl|rfl|rfl
  ·exact⟨_,hz,λv z=>by cases z⟩
  ·exact⟨_,j,λv z=>by cases z⟩
  ·exact⟨_,m,λv z=>by cases z⟩
  ·exact⟨o1,e1,λv z=>by rw[d1]at z;cases z⟩
  ·exact⟨o2,e2,λv z=>by rw[d2]at z;cases z⟩
 keep:=λi h h' ⟨hz,j,⟨x,y,m⟩,h1,h2⟩ k=>⟨k z (by simp) _ hz,k TI (by simp) _ j,⟨x,y,k TO (by simp) _ m⟩,h1.at λo e=>k i1 (by simp) o e,h2.at λo e=>k i2 (by simp) o e⟩
 item:=by
  intro X hP hw hK q i t s σ H E I hf st hg;subst hP hw hK;obtain⟨hz,j,⟨u0,w0,m⟩,h1,h2⟩:=st;obtain⟨xs,ys,x,y,hq,A,hx,hy⟩:=hg;obtain⟨its,rv,p,_⟩:=I.list (.inl (.inl hq));obtain⟨its',rv',p',_⟩:=I.list (.inl (.inl A));obtain⟨u,hu,ru⟩:=rv.get hx;obtain⟨u',hu',ru'⟩:=rv'.get hy;have DD:=pL D hf hq A;have hfr:=I.hok.fresh (le_refl s.heap.objs.size);have hfp:iG X t H s.heap.objs.size:=I.fpOk (le_refl _) hfr;have lt:∀{c:Zz} {o:Obj},s.heap.get? c=some o→c≠s.heap.objs.size:=λe=>ne_of_lt (Ys e);have hlt:∀c∈[z,TI,TO,i1,i2],c≠s.heap.objs.size:=λc q=>by
   obtain⟨o1,e1,_⟩:=h1;obtain⟨o2,e2,_⟩:=h2;simp only[mem_cons,not_mem_nil,or_false]at q
   rcases q with rfl|rfl|rfl|rfl|rfl
   ·exact lt hz
   ·exact lt j
   ·exact lt m
   ·exact lt e1
   ·exact lt e2
  refine wpAny_pyNext_zip_item DD hz j m h1 h2 p.isList p'.isList (x:=u) (y:=u') (by simpa using hu) (by simpa using hu') λh3 a1 a2 a3 a4 a5 a6 hk=>⟨_,rfl,?_⟩;refine wpAny_letOwnedTupleGo_zip a1 λh4 hz4 l=>?_;have l:Heap.SameBut z h3 h4:=l;have I1:Inv X t σ H {s with heap:=h4,toks:=s.toks}:=I.turnedL (t':=s.toks) (ch:=[z,TI,TO,i1,i2]) hf λc o q e1=>by
   have n:∀d∈[z,TI,TO,i1,i2],c≠d:=λd hd z=>q (by rw[z];exact hd);exact l.extBut c o (n z (by simp)) (hk c o (n z (by simp)) (n TO (by simp)) (n i1 (by simp)) (n i2 (by simp)) e1)
  have ht2:h4.get? s.heap.objs.size=some {cls:=.type "tuple",data:=.seq #[u,u']}:=l.extBut _ _ (Ne.symm (hlt z (by simp))) a5;have I2:=Inv.track (o:=.tup [x,y]) I1 hfp ⟨by show 2≤sizeLine;decide,[u,u'],.cons ru (.cons ru' .nil),_,ht2,rfl,_,rfl⟩;refine⟨.ref s.heap.objs.size,_,I2,rfl,⟨_,x,y,hfr,rfl,rfl,λzs r=>by rw[hq]at r;cases r;exact hx,λzs r=>by rw[A]at r;cases r;exact hy⟩,⟨hz4,l.extBut _ _ D.TIz (hk _ _ D.TIz D.TITO D.TIi1 D.TIi2 j),⟨_,_,l.extBut _ _ D.TOz a2⟩,a3.at λo e=>l.extBut _ o D.i1z e,a4.at λo e=>l.extBut _ o D.i2z e⟩,λc q=>?_⟩;rw[aj (hlt c q)];exact(hf c q).1
 done:=by
  intro X hP hw hK q i t s σ H E I hf st hg;subst hP hw hK;obtain⟨hz,j,⟨u0,w0,m⟩,h1,h2⟩:=st;obtain⟨xs,ys,hq,A,hx⟩:=hg;obtain⟨its,rv,p,_⟩:=I.list (.inl (.inl hq));obtain⟨its',rv',p',_⟩:=I.list (.inl (.inl A));have hl:=rv.length;have hl':=rv'.length;exact wpAny_pyNext_zip_end (I.ok.hd q) (pL D hf hq A) hz j m h1 h2 p.isList p'.isList (hx.imp (λhx=>by simp;omega) (λhx=>by simp;omega)) λh3 hk=>⟨rfl,I.turnedL (t':=s.toks) (ch:=[z,TI,TO,i1,i2]) hf λc o q e1=>by
   have n:∀d∈[z,TI,TO,i1,i2],c≠d:=λd hd z=>q (by rw[z];exact hd);exact hk c o (n z (by simp)) (n TO (by simp)) (n i1 (by simp)) (n i2 (by simp)) e1⟩
 self:=λ_ _ _ _ _ st h=>wpAny_pyIter_zip st.1 h
section
variable{X:Cx}{E:XK}{elts:Zd}{x1:Nat}{tp:Pos}
def F1 (ta:TA):TI:=λσ H R=>ta σ H λxs H1=>∃a b,xs=[.ref a,.ref b]∧(∃ys,H1 a=some (.lst ys))∧(∃ys,H1 b=some (.lst ys))∧R (FH a b) H1
def DV {ta:TA}(hg:Gl X "zip")(hm:X.mg "zip" =none)(ha:PA X [a,b] ta)(hs:starEach [a,b] X.env=[(false,eval a X.env),(false,eval b X.env)]:=by rfl)(hs2:starEach [b] X.env=[(false,eval b X.env)]:=by rfl):PI X (.Tuple elts x1 tp) (.Call (.Name "zip" p) [a,b] [] pos) (F1 ta):=by
 intro pins s σ H R I h;refine Call_ (iW I hg hm Cq (PyProof.Rows.callWith_type1 (aS (ha pos pins s σ H _ I h) λus o hZ163=>?_) (by rw[hs,hs2]) (by rw[hs2];rfl)));obtain⟨vs,H1,I1,r1,q1⟩:=hZ163;obtain⟨l,m,e,⟨ys,hq⟩,⟨zs,hq'⟩,q⟩:=q1;subst e;cases r1 with
 |cons r rr=>
  cases rr with
  |cons r' rr=>
  cases rr;cases r;cases r';obtain⟨its,rv,pp,hz⟩:=I1.list (.inl (.inl hq));obtain⟨its',rv',pp',hz'⟩:=I1.list (.inl (.inl hq'));refine call_zip_2 pp.isList pp'.isList λh2 b1 b2 b3 b4 b5 b6 hk=>?_;have D:ZApart (o.heap.objs.size+4) (o.heap.objs.size+2) (o.heap.objs.size+3) o.heap.objs.size (o.heap.objs.size+1):=by
   generalize o.heap.objs.size=n;exact⟨by show (n+2:Nat)≠n+4;omega,by show (n+3:Nat)≠n+4;omega,by show (n:Nat)≠n+4;omega,by show (n+1:Nat)≠n+4;omega,by show (n+2:Nat)≠n+3;omega,by show (n+2:Nat)≠n;omega,by show (n+2:Nat)≠n+1;omega,by show (n+3:Nat)≠n;omega,by show (n+3:Nat)≠n+1;omega,by show (n:Nat)≠n+1;omega⟩
  refine wpAny_pyIter_zip (s:={o with heap:=h2}) b1 ⟨o.heap.objs.size+4,[o.heap.objs.size+4,o.heap.objs.size+2,o.heap.objs.size+3,o.heap.objs.size,o.heap.objs.size+1],_,_,H1,rfl,I1.kept (t':=o.toks) hk,zC l m _ _ _ _ _ D,⟨b1,b2,⟨_,_,b3⟩,b4,b5⟩,λc hc=>?_,q⟩
  have hb':o.heap.objs.size≤c:=by
   simp only[mem_cons,not_mem_nil,or_false]at hc
   rcases hc with rfl|rfl|rfl|rfl|rfl
   ·exact le_add_right _ _
   ·exact le_add_right _ _
   ·exact le_add_right _ _
   ·exact le_refl _
   ·exact le_add_right _ _
  exact I1.fpOk hb' (I1.hok.fresh hb')
def jo:List D→List D→List D
 |a::as,b::bs=>.tup [a,b]::jo as bs
 |_,_=>[]
theorem sY:∀(l m:Zy) (i:Nat) (d:D),(jo l m)[i]?=some d→∃a b,l[i]?=some a∧m[i]?=some b∧d= .tup [a,b]
 | [],_,i,d,h=>by unfold jo at h;simp at h
 |_::_,[],i,d,h=>by unfold jo at h;simp at h
 |a::as,b::bs,0,d,h=>by unfold jo at h;simp at h;exact⟨a,b,rfl,rfl,h.symm⟩
 |a::as,b::bs,i+1,d,h=>by
  unfold jo at h;obtain⟨x,y,h1,h2,h3⟩:=sY as bs i d (by simpa using h);exact⟨x,y,by simpa using h1,by simpa using h2,h3⟩
theorem s0:∀(l m:List D),(jo l m).length=min l.length m.length
 | [],_=>by unfold jo;simp
 |_::_,[]=>by unfold jo;simp
 |a::as,b::bs=>by unfold jo;rw[length_cons,length_cons,length_cons,s0];omega
def BE {K:Z8}{G:Hp}{xs ys:Zu}{ds es:Zy}(sq:LsS K G a xs)(rl:RepL K G ds xs)(sq':LsS K G b ys)(rl':RepL K G es ys):zR K (FH a b) (jo ds es) G:=by
 intro G2 H2 g1 g2 i;have s2:=g2 _ _ (g1 _ _ sq.h);have s2':=g2 _ _ (g1 _ _ sq'.h);refine⟨λd hd=>?_,λhl=>⟨xs,ys,s2,s2',by rw[s0,rl.length,rl'.length]at hl;omega⟩⟩;obtain⟨d1,d2,q1,q2,e⟩:=sY _ _ _ _ hd;subst e;obtain⟨v,hv,rv⟩:=rl.get q1;obtain⟨v',hv',rv'⟩:=rl'.get q2;refine⟨⟨xs,ys,v,v',s2,s2',hv,hv'⟩,λy H' hZ164=>?_⟩;obtain⟨p,z,z',hp,e1,e2,h,h'⟩:=hZ164;subst e1 e2;have q:=h xs s2;rw[hv]at q;cases q;have q:=h' ys s2';rw[hv']at q;cases q;have x:=Ext.new g2 hp (.tup [v,v']);exact⟨_,x,rep_tup.mpr ⟨p,_,rfl,.of ao,.cons (rv.mono (g1.trans x.gg)) (.cons (rv'.mono (g1.trans x.gg)) .nil)⟩⟩
def uz:List D→Res (List D)
 | [.lst l,.lst m]=>.ok (jo l m)
 |_=>.bad
def vf {fs:Z6}(hg:Gl X "zip")(hm:X.mg "zip" =none)(ha:lP X E [a,b] fs)(hs:starEach [a,b] X.env=[(false,eval a X.env),(false,eval b X.env)]:=by rfl)(hs2:starEach [b] X.env=[(false,eval b X.env)]:=by rfl):PI X (.Tuple elts x1 tp) (.Call (.Name "zip" p) [a,b] [] pos) (tDI X.K E (λρ=>(fs ρ).bind uz)):=by
 intro pins s σ H R I hZ22;obtain⟨G,ρ,hsm,hro,ho,k⟩:=hZ22;refine DV hg hm (ii ha) hs hs2 pins s σ H R I ⟨G,ρ,hsm,hro,ho.fst,λds e vs G1 H1 x1 p1=>?_⟩;have kk:=ho.snd e x1.hh;unfold uz at kk;split at kk
 ·rename_i l m;obtain⟨v,r,rfl,rv,r0⟩:=p1.inv;obtain⟨v',r',rfl,rv',r0'⟩:=r0.inv;rw[r0'.inv0];rw[rep_lst]at rv rv';obtain⟨b1,xs,rfl,sq,rl⟩:=rv;obtain⟨b2,ys,rfl,sq',rl'⟩:=rv';exact⟨b1,b2,rfl,⟨xs,x1.gh _ _ sq.h⟩,⟨ys,x1.gh _ _ sq'.h⟩,k _ (al e rfl) _ G1 H1 x1 (BE sq rl sq' rl')⟩
 ·exact kk.elim
end
inductive tN (K:Z8)(E:XK)(n:Nat)(f:Z7)(σ:St)(H:Hp)(Q:VK):Prop
 |mk (G:Hp) (ρ:DS) (s:Same G H) (r:Ro K G σ ρ) (o:OkR E H (f ρ)) (k:∀d,f ρ= .ok d→∀v G' H' S,Ext G H G' H'→Ow K G' H' n d v S→New H G' S→Q v H')
def TN (K:Z8)(E:XK)(n:Nat)(f:Z7)(te:TE):Prop:=
 ∀(σ:St) (G H:Hp) (ρ:DS) (Q:VK),Same G H→Ro K G σ ρ→OkR E H (f ρ)→(∀d,f ρ= .ok d→∀v G' H' S,Ext G H G' H'→Ow K G' H' n d v S→New H G' S→Q v H')→te σ H Q
def Ext.hnew {G H G' H':Hp}(x:Ext G H G' H')(hp:H' p=none)(o:HO):Ext G H G' (bc H' p o):=
 ⟨λb u e=>by rw[aj (aB (x.hh b u e) hp)];exact x.hh b u e,x.gg,λb u e=>by rw[aj (aB (x.gh b u e) hp)];exact x.gh b u e,x.nw⟩
def New.step {H G2 H2 G3 H3:Hp}{S:Zt}(w:New H G2 S)(hc:∀a∈S,∃o,H2 a=some o∧¬mZ o)(x:Ext G2 H2 G3 H3):New H G3 S:=⟨w.1,λa ha=>⟨(w.2 a ha).1,by
 cases q:G3 a with
 |none=>rfl
 |some o=>
  rcases x.nw a o q with z|z
  ·rw[(w.2 a ha).2]at z;cases z
  ·obtain⟨o',h,hk⟩:=hc a ha
   rcases z with z|z
   ·rw[z]at h;cases h
   ·have h2:=x.gh a o q;rw[x.hh a _ h]at h2;cases h2;exact(hk z).elim⟩⟩
def New.join {H H2 G:Hp}{S T:Zt}(w:New H G S)(w':New H2 G T)(hc:∀a∈S,∃o,H2 a=some o∧¬mZ o)(sh:Same H H2):New H G (S ++ T):=by
 refine⟨nodup_append.mpr ⟨w.1,w'.1,λa ha b hb e=>?_⟩,λa ha=>?_⟩
 ·subst e;obtain⟨o,h,_⟩:=hc a ha;rw[(w'.2 a hb).1]at h;cases h
 ·rcases mem_append.mp ha with z|z
  ·exact w.2 a z
  ·exact⟨sh.free (w'.2 a z).1,(w'.2 a z).2⟩
def AllW.has {K:Z8}{G H:Hp}{n:Nat}{ds:Zy}{vs:Zu}{S:Zt}(h:AllW (Ow K G H n) ds vs S):∀a∈S,∃o,H a=some o∧¬mZ o:=h.cell λd v A q a ha=>let ⟨o,e,c⟩:=q.cell a ha;⟨o,e,c.nokey⟩
section
variable{X:Cx}{E:XK}{μ:Z0}{r n:Nat}
def yL {f:Z7}(h:PN X E n e f):PE X e (tN X.K E n f):=by
 intro pins s σ H Q I hZ23;obtain⟨G,ρ,hs,hr,ho,k⟩:=hZ23;exact aS (h pins s σ G H ρ I hs hr ho) λu s' hZ165=>(by obtain⟨d,e,v,G',H',S,I',rv,x,o,w⟩:=hZ165;exact⟨v,H',I',rv,k d e v G' H' S x o w⟩)
def PN.tn {f:Z7}{te:TE}(h:PE X e te)(t:TN X.K E n f te):PN X E n e f:=by
 intro pins s σ G H ρ I hs hr ho;refine aS (h pins s σ H (λv H'=>∃d G' S,f ρ= .ok d∧Ext G H G' H'∧Ow X.K G' H' n d v S∧New H G' S) I (t σ G H ρ _ hs hr ho λd e v G' H' S x o w=>⟨d,G',S,e,x,o,w⟩)) λu s' hZ166=>(by obtain⟨v,H',I',rv,d,G',S,e,x,o,w⟩:=hZ166;exact⟨d,e,v,G',H',S,I',rv,x,o,w⟩)
def iZ {K:Z8}{G G' H H':Hp}{ds:Zy}{vs:Zu}(x:Ext G H G' H')(hp:H' p=none)(rl:RepL K G' ds vs):Ext G H G' (bc H' p (.lst vs))∧Ow K G' (bc H' p (.lst vs)) 1 (.lst ds) (.ref p) [p]∧New H G' [p]:=by
 refine⟨x.hnew hp _,⟨p,vs,[],rfl,ao,rfl,?_⟩,⟨nodup_cons.mpr ⟨not_mem_nil,nodup_nil⟩,λa ha=>?_⟩⟩
 ·have go:∀{ds:Zy} {vs:List V},RepL K G' ds vs→AllW (Ow K G' (bc H' p (.lst vs)) 0) ds vs []:=by
   intro ds
   induction ds with
   |nil=>intro vs h;exact⟨h.inv0,rfl⟩
   |cons d ds ih=>
    intro vs h;obtain⟨v,q,rfl,h1,h2⟩:=h.inv;refine⟨v,q,[],[],rfl,rfl,⟨rfl,h1⟩,(ih h2).mono λd v A _ _ z=>?_⟩;exact z
  exact(go rl).mono λd v A _ _ z=>z
 ·have e:a=p:=by simpa using ha
  subst e;exact⟨x.hh.free hp,by
   cases q:G' a with
   |none=>rfl
   |some o=>rw[x.gh a o q]at hp;cases hp⟩
def jO {f:Z6}(h:lP X E es f):PN X E 1 (.List es pos) (dl f):=by
 refine .tn (ub (ii h)) λσ G H ρ Q hs hro ho k=>⟨G,ρ,hs,hro,ho.fst,λds e vs G1 H1 x1 r1=>?_⟩;have kk:=ho.snd e x1.hh;by_cases hl:aG ds.length=true
 ·refine⟨by rw[←r1.length];exact bG hl,λp hp=>?_⟩;obtain⟨x,o,w⟩:=iZ x1 hp r1;exact k (.lst ds) (al e (Yj hl)) _ _ _ _ x o w
 ·rw[Yi hl]at kk;exact kk.elim
def Bh {CX:qX}{k:Nat}{fd:Y9}{ps:Zw}{m:Zs}{p pos:Yn}{e:Y1}{es:Zd}{fs:Z6}(F:FnOk X.prog X.w X.K X.mg X.base CX k f fd ps (freshSp X.K n m))(hr:Room k X.A)(hg:Gl X x)(hm:X.mg x=some (.ref f))(hk:W.keepIn X.K (.ref f)=true)(hb:Binds X.K fd ps [])(hx:cQ CX X E)(ha:lP X E (e::es) fs) (hdb:zQ1 x:=by decide) (he:zQ2 X e es:=by rfl) (hpl:(backTo pos (starEach es X.env)).any (·.1)=false:=by rfl) :
  PN X E n (.Call (.Name x p) (e::es) [] pos) (bq fs m):=
 .tn (A6 F hr hg hm hk hb .nil hx (ii ha) hdb he hpl) λσ G H ρ Q hs hro ho k=>⟨G,ρ,hs,hro,ho.fst,λds e1 vs G1 H1 x1 p1=>⟨ds,G1,x1.gh,by rw[append_nil];exact p1,ho.snd e1 x1.hh,λd ed v G' H' S xx o w=>k d (al e1 ed) v G' H' S (x1.trans xx) o ⟨w.1,λa ha=>⟨x1.hh.free (w.2 a ha).1,(w.2 a ha).2⟩⟩⟩⟩
def vm {f:Z7}(h:PD X E e f)(hg:Gl X "list")(hm:X.mg "list" =none)(he:zQ2 X e []:=by rfl):PN X E 1 (.Call (.Name "list" p) [e] [] pos) (bq (λρ=>(f ρ).bind λd=>.ok [d]) cq):=by
 have hpd:lP X E [e] (λρ=>(f ρ).bind λd=>.ok [d]):=aa h ae he;refine .tn (cS (x:= "list") (p:=p) (pos:=pos) g_ hg hm gX (ii hpd) (by decide) (by decide) he rfl) λσ G H ρ Q hs hro ho k=>⟨G,ρ,hs,hro,ho.fst,λds e1 vs G1 H1 x1 p1=>?_⟩;have kk:=ho.snd e1 x1.hh;have e0:bq (λρ=>(f ρ).bind λd=>.ok [d]) cq ρ=cq ds:=by show ((f ρ).bind λd=>Res.ok [d]).bind cq=_;rw[e1];rfl
 unfold cq at kk;split at kk
 ·obtain⟨v,r,rfl,rx,r0⟩:=p1.inv;rw[r0.inv0];rw[rep_lst]at rx;obtain⟨q,xs,rfl,sq,rx⟩:=rx;refine⟨q,xs,rfl,.inl (x1.gh.seq sq.sq),λl hl=>?_⟩;obtain⟨x,o,w⟩:=iZ x1 hl rx;exact k _ e0 _ _ _ _ x o w
 ·obtain⟨v,r,rfl,rx,r0⟩:=p1.inv;rw[r0.inv0];rw[rep_tup]at rx;obtain⟨q,xs,rfl,sq,rx⟩:=rx;refine⟨q,xs,rfl,.inr (x1.gh.seqT sq),λl hl=>?_⟩;obtain⟨x,o,w⟩:=iZ x1 hl rx;exact k _ e0 _ _ _ _ x o w
 ·exact kk.elim
def PZ.zero {f:Z7}(h:PZ X E μ n e f):PZ X E μ 0 e f:=by
 intro pins s σ Ge B G H ρ fp I R ho;refine aS (h pins s σ Ge B G H ρ fp I R ho) λu s' hZ167=>?_;obtain⟨d,e,v,r,L,S,I',rv,p,sg,sh,o,w⟩:=hZ167;have dec:∀b,Decidable (b∈S):=λb=>Classical.propDecidable _;have Y:Same r (λb=>if b∈S then L b else r b):=λb u e=>by
  show (if b∈S then L b else r b)=some u
  by_cases q:b∈S
  ·rw[(w.2 b q).2]at e;cases e
  ·rw[Yi q];exact e
 have rp:Rep X.K (λb=>if b∈S then L b else r b) d v:=o.rep Y λa ha u e=>by
  show (if a∈S then L a else r a)=some u
  rw[Yj ha];exact e
 refine⟨d,e,v,λb=>if b∈S then L b else r b,L,[],I',rv,⟨λb u e=>?_,p.eg.trans Y,p.bh,λb u e=>?_,λi a e=>?_,p.ob,p.oc,p.nd,p.dj,λi d e=>?_⟩,sg.trans Y,sh,⟨rfl,rp⟩,.nil⟩
 ·have e:(if b∈S then L b else r b)=some u:=e
  by_cases q:b∈S
  ·rw[Yj q]at e;exact e
  ·rw[Yi q]at e;exact p.gh b u e
 ·have e:(if b∈S then L b else r b)=some u:=e
  by_cases q:b∈S
  ·exact .inr (.inl (R.bh.free (w.2 b q).1))
  ·rw[Yi q]at e;exact p.nw b u e
 ·show (if a∈S then L a else r a)=none
  rw[Yi (λz=>R.apart w i a z e)];exact p.gf i a e
 ·obtain⟨v,hv,hh⟩:=p.sl i d e;exact⟨v,hv,hh.mono Y λa _ o eo=>eo⟩
def j4 {ρ:DS}:h_ [] ρ=ρ:=by
 unfold h_;apply ext_getElem?;intro i;rw[List.getElem?_mapIdx];cases ρ[i]? <;> simp
def aN {f:Z7}(h:PN X E n e f):PZ X E [] n e f:=by
 have:=au (μ:=[]) h;unfold bS at this;simp only[j4]at this;exact this
def qW {fi:Z6}(h:PI X tg iter (tDI X.K E fi)):PI X tg iter (tZI X.K E [] fi):=by
 have:=eV (μ:=[]) h;unfold we at this;simp only[j4]at this;exact this
def Bf {st:Yl}{i:Nat}{te:TE}{f:Z7}(hi:X.N[i]?=some x)(hps:PS X st (sN te (cn i)))(t:TN X.K E n f te)(hm:μ.getD i 0=n):lR X E μ r st (aQ i (bS μ f)):=by
 intro pins s σ Ge B G H ρ fp I R ho;have hiσ:i<σ.length:=by rw[I.len];exact(d8 hi).1
 refine aS (hps pins s σ H {nx:=λσ' H'=>∃d v G' S,bS μ f ρ= .ok d∧σ'=σ.set i (some v)∧Rw X.K μ Ge B G' H' σ ρ fp∧Same G G'∧Ow X.K G' H' n d v S∧New H G' S,bk:=λ_ _=>False,ct:=λ_ _=>False,rt:=λ_ _=>False} I (t σ G H (h_ μ ρ) _ R.gh R.rof (ho.res.le R.bh) λd e v G' H' S x o w=>⟨d,v,G',S,e,rfl,R.growF x,x.gg,o,w⟩)) λfl s1 q=>?_
 ·cases fl with
  |next=>
   obtain⟨σ',H',I',d,v,G',S,e,e2,R',sg,o,w⟩:=q;subst e2;rw[←hm]at o;exact⟨_,_,G',H',_,bN e,I',R'.put hiσ o w.1 (λa ha=>⟨(w.2 a ha).2,R.bh.free (w.2 a ha).1⟩) (λj _=>R.apart w j),sg⟩
  |brk=>obtain⟨_,_,_,q⟩:=q;exact q.elim
  |cont=>obtain⟨_,_,_,q⟩:=q;exact q.elim
  |ret u=>obtain⟨_,_,_,_,_,q⟩:=q;exact q.elim
end
def TN.freeze {K:Z8}{E:XK}{n:Nat}{f:Z7}{te:TE}(t:TN K E n f te):TN K E 0 f te:=λσ G H ρ Q hs hr ho k=>t σ G H ρ Q hs hr ho λd e v G' H' S x o w=>by
 obtain⟨G2,x2,_,rp⟩:=x.freeze hs w o;exact k d e v G2 H' [] x2 ⟨rfl,rp⟩ .nil
def GC (K:Z8)(n:Nat)(g:TG)(asg:Zb):Prop:=
 ∀(G H:Hp) (σ:St) (ρ ρ':DS) (v:V) (d:D),σ.length=n→Same G H→Ro K G σ ρ→Rep K G d v→asg d ρ=some ρ'→g v σ H λσ' H'=>H'=H∧Ro K G σ' ρ'
def uV {K:Z8}{n j:Nat}(hj:j<n):GC K n (cn j) (aP j):=by
 intro G H σ ρ ρ' v d hl hs R h e;cases e;exact⟨rfl,R.set (by rw[hl];exact hj) h⟩
def xV {K:Z8}{n j k:Nat}(hj:j<n)(hk:k<n):GC K n (wg K 2 (iV (cn j) (iV (cn k) wf))) (gW j k):=by
 intro G H σ ρ ρ' v d hl hs R h e;unfold gW at e;split at e
 ·rename_i a b;cases e;rw[rep_tup]at h;obtain⟨p,xs,rfl,t,rl⟩:=h;obtain⟨x,q,rfl,rx,rl⟩:=rl.inv;obtain⟨y,q,rfl,ry,rl⟩:=rl.inv;have:=rl.inv0;subst this;have R2:=(R.set (j:=j) (by rw[hl];exact hj) rx).set (j:=k) (by rw[length_set,hl];exact hk) ry;exact⟨p,[x,y],rfl,(show TpS K H p _ from ⟨hs _ _ t.h⟩).sq,rfl,x,[y],rfl,y,[],rfl,rfl,rfl,R2⟩
 ·cases e
def lL {K:Z8}{caps:Zo}{i j:Nat}(hi:caps[i]?=some none)(hj:caps[j]?=some none):jV caps (wg K 2 (iV (cn i) (iV (cn j) wf))):=λx σ0 H Q q=>by
 obtain⟨a,xs,e1,sq,hl,v1,r1,e2,v2,r2,e3,e4,q⟩:=q;refine⟨a,xs,e1,sq,hl,v1,r1,e2,v2,r2,e3,e4,q,by simp,λk m v hk hv=>?_⟩;have n1:k≠i:=λz=>by rw[z,hi]at hk;cases hk
 have n2:k≠j:=λz=>by rw[z,hj]at hk;cases hk
 rw[getElem?_set_ne (Ne.symm n2),getElem?_set_ne (Ne.symm n1)];exact hv
def nW {α:Type}(asg:Zb)(ρ:DS)(f:DS→Res α)(d:D):Res α:=match asg d ρ with
 |some ρ'=>f ρ'
 |none=>.bad
def aR (fi:Z6)(caps:Zo)(asg:Zb)(ft:Zq)(fe:Z7):DS→Res D:=λρ=>(fi ρ).bind λds=>if aG ds.length=true then
 (bA (nW asg (d9 caps ρ) ft) (nW asg (d9 caps ρ) fe) ds).bind λes=>.ok (.lst es) else .bad
theorem kU {t:D→Res Bool}{f:D→Res D}:∀(l:List D),bA t f l≠ .exc c
 | []=>λz=>by unfold bA at z;cases z
 |a::as=>λz=>by
  unfold bA at z;split at z
  ·split at z
   ·cases q:bA t f as with
    |bad=>rw[q]at z;cases z
    |ok x=>rw[q]at z;cases z
    |exc c'=>rw[q]at z;have z':Res.exc c'=Res.exc c:=z;cases z';exact kU as q
   ·cases z
  ·exact kU as z
  ·cases z
theorem hX {t:D→Res Bool}{f:D→Res D}{d:D}{o:Zy}(hd:bA t f [d]= .ok o):∀{as es:List D},bA t f as= .ok es→bA t f (as ++ [d])= .ok (es ++ o)
 | [],es,h=>by unfold bA at h;cases h;exact hd
 |a::as,es,h=>by
  rw[List.cons_append];unfold bA at h ⊢;split at h
  ·rename_i ha;split at h
   ·rename_i e0 hf;cases q:bA t f as with
    |bad=>rw[q]at h;cases h
    |exc c=>rw[q]at h;cases h
    |ok e2=>
     rw[q]at h;have h':Res.ok (e0::e2)=Res.ok es:=h;cases h';rw[hX hd q];rfl
   ·cases h
  ·exact hX hd h
  ·cases h
section
variable{X:Cx}{E:XK}{n:Nat}
def ml {K:Z8}{caps:Zo}{g:TG}{asg:Zb}{fi:Z6}{ft:Zq}{fe:Z7}(hg:GC K caps.length g asg)(hgm:∀x σ H (Q Q':St→Hp→Prop),(∀σ' H',Q σ' H'→Q' σ' H')→g x σ H Q→g x σ H Q') :
  TN K E (n+1) (aR fi caps asg ft fe) (zx (tDI K E fi) caps g (tDT K pM ft) (tN K pM n fe)):=by
 intro σ G H h Q hs hro ho k;refine⟨G,h,hs,hro,ho.fst,λY e J G1 H1 x1 src=>?_⟩;have kk:=ho.snd e x1.hh;by_cases hl:aG Y.length=true
 ·rw[Yj hl]at kk;cases hm:bA (nW asg (d9 caps h) ft) (nW asg (d9 caps h) fe) Y with
  |bad=>rw[hm]at kk;exact kk.elim
  |exc c=>exact absurd hm (kU Y)
  |ok es=>
   have hres:aR fi caps asg ft fe h= .ok (.lst es):=al e (by rw[Yj hl];exact al hm rfl);refine⟨λi m ys H2=>m=Y.length-i∧i≤Y.length∧∃F r S,Ext G1 H1 F H2∧bA (nW asg (d9 caps h) ft) (nW asg (d9 caps h) fe) (Y.take i)= .ok r∧AllW (Ow K F H2 n) r ys S∧New H1 F S,
    ⟨_,rfl,zero_le _,G1,[],[],.refl x1.gh,rfl,⟨rfl,rfl⟩,.nil⟩,?_⟩
   intro i m ys H2 hZ24;obtain⟨rfl,hi,F,r,S,x2,u,C,w1⟩:=hZ24;have hlen:ys.length≤sizeLine:=by
    have h1:=kW u;rw[length_take]at h1;have h2:=bG hl;rw[←C.length];omega
   obtain⟨sg,ss⟩:=src F H2 x2.gg x2.gh i;by_cases hlt:i<Y.length
   ·obtain⟨go,yl⟩:=sg Y[i] (by simp[hlt]);have I:Y=Y.take i ++ (Y[i]::Y.drop (i+1)):=by rw[List.getElem_cons_drop,List.take_append_drop]
    refine .inr ⟨go,λys' H'=>∃F r S,Ext G1 H1 F H'∧bA (nW asg (d9 caps h) ft) (nW asg (d9 caps h) fe) (Y.take (i+1))= .ok r∧AllW (Ow K F H' n) r ys' S∧New H1 F S,λys' H' hZ168=>(by obtain⟨G3,es3,S3,a,b,c,d⟩:=hZ168;exact⟨Y.length-(i+1),by omega,rfl,hlt,G3,es3,S3,a,b,c,d⟩),λx H' hy=>?_⟩;obtain⟨G3,x3,rx⟩:=yl x H' hy;have htk:Y.take (i+1)=Y.take i ++ [Y[i]]:=by rw[List.take_add_one];simp[hlt]
    have hm2:=hm;rw[I]at hm2;obtain⟨ea,eb,q1,w,q3⟩:=kT hm2;rw[u]at q1;cases q1;have hcl:(fm caps σ).length=caps.length:=by simp[fm]
    unfold bA at w;have ht0:∃b,nW asg (d9 caps h) ft Y[i]= .ok b:=by
     cases B:nW asg (d9 caps h) ft Y[i] with
     |bad=>rw[B]at w;cases w
     |exc c=>rw[B]at w;cases w
     |ok b=>exact⟨b,rfl⟩
    obtain⟨b,B⟩:=ht0;rw[B]at w;cases qa:asg Y[i] (d9 caps h) with
    |none=>unfold nW at B;rw[qa]at B;cases B
    |some s=>
    have ht2:ft s= .ok b:=by unfold nW at B;rw[qa]at B;exact B
    refine hgm _ _ _ _ _ (λσ2 H3 hZ169=>?_) (hg G3 H' _ _ s x Y[i] hcl x3.gh (zZ (hro.mono ((x1.gg.trans x2.gg).trans x3.gg))) rx qa);obtain⟨e3,ro3⟩:=hZ169;subst e3;refine⟨G3,s,x3.gh,ro3,by rw[ht2];trivial,λb' eb' G4 H4 x4=>?_⟩;rw[ht2]at eb';cases eb';have x24:=(x2.trans x3).trans x4;have M:=x3.trans x4;have L:AllW (Ow K G4 H4 n) r ys S:=C.mono λd v A _ _ z=>z.mono M.gg λa _ o eo=>M.hh a o eo;have w4:New H1 G4 S:=w1.step C.has M;cases b with
    |false=>
     rw[Yi Bool.false_ne_true];refine⟨G4,r,S,x24,?_,L,w4⟩;rw[htk];have:=hX (t:=nW asg (d9 caps h) ft) (f:=nW asg (d9 caps h) fe) (d:=Y[i]) (o:=[]) (by unfold bA;rw[B];rfl) u;rw[append_nil]at this;exact this
    |true=>
     rw[Yj rfl];dsimp only at w;have fe2:nW asg (d9 caps h) fe Y[i]=fe s:=by unfold nW;rw[qa]
     refine⟨hlen,G4,s,x4.gh,ro3.mono x4.gg,?_,λy ey v G5 H5 S5 x5 ry w5=>?_⟩
     ·rw[fe2]at w;cases hf:fe s with
      |ok y=>trivial
      |exc c=>rw[hf]at w;cases w
      |bad=>rw[hf]at w;cases w
     ·refine⟨G5,r ++ [y],S ++ S5,x24.trans x5,?_,(L.mono λd v A _ _ z=>z.mono x5.gg λa _ o eo=>x5.hh a o eo).append (.one ry),(w4.step L.has x5).join w5 L.has (x2.hh.trans M.hh)⟩;rw[htk];exact hX (by unfold bA;rw[B,fe2,ey];rfl) u
   ·have hie:i=Y.length:=by omega
    subst hie;rw[take_length,hm]at u;cases u;refine .inl ⟨ss (le_refl _),hlen,λp hp=>?_⟩;have x12:=x1.trans x2;refine k _ hres (.ref p) F _ (p::S) (x12.hnew hp _) ⟨p,ys,S,rfl,ao,rfl,C.mono λd v A _ hA z=>z.mono (.refl _) λa ha o eo=>by rw[aj (aB eo hp)];exact eo⟩ ⟨nodup_cons.mpr ⟨λz=>?_,w1.1⟩,λa ha=>?_⟩
    ·obtain⟨o,ho,_⟩:=C.has p z;rw[hp]at ho;cases ho
    ·rcases mem_cons.mp ha with z|z
     ·subst z;exact⟨x12.hh.free hp,by
       cases q:F a with
       |none=>rfl
       |some o=>rw[x2.gh a o q]at hp;cases hp⟩
     ·exact⟨x1.hh.free (w1.2 a z).1,(w1.2 a z).2⟩
 ·rw[Yi hl]at kk;exact kk.elim
def uX {j:Nat}:∀x σ H (Q Q':St→Hp→Prop),(∀σ' H',Q σ' H'→Q' σ' H')→cn j x σ H Q→cn j x σ H Q':=λ_ _ _ _ _ k h=>k _ _ h
def xX {K:Z8}{j i:Nat}:∀x σ H (Q Q':St→Hp→Prop),(∀σ' H',Q σ' H'→Q' σ' H')→wg K 2 (iV (cn j) (iV (cn i) wf)) x σ H Q→wg K 2 (iV (cn j) (iV (cn i) wf)) x σ H Q':=λ_ _ _ _ _ k h=>by
 obtain⟨a,xs,e1,sq,hl,v1,r1,e2,v2,r2,e3,e4,q⟩:=h;exact⟨a,xs,e1,sq,hl,v1,r1,e2,v2,r2,e3,e4,k _ _ q⟩
def bL {elt iter:Y1}{ifs:Zd}{px pos:Yn}{scope:Yz}{N:Zw}{caps:Zo}{j:Nat}{fi:Z6}{ft:Zq}{fe:Z7}(hc:X.calm=true)(S:CompSc X scope N caps)(hjN:N[j]?=some x)(hjc:caps[j]?=some none)(hjl:qY scope x)(hi:PI X (.Name x px) iter (tDI X.K E fi)) (ht:∀s H C ex,vI (X.comp s H scope C N ex) pM ifs ft) (he:∀s H C ex,PN (X.comp s H scope C N ex) pM n elt fe)(hs:∀x,foldedSetIterable iter X.env x=pure x:=by intro _;rfl):PN X E (n+1) (.ListComp elt [⟨.Name x px,iter,ifs,0⟩] scope pos) (aR fi caps (aP j) ft fe):=
 have hlb:=cT (env:=X.env) hjl
 .tn (vd (pos:=pos) (te:=tN X.K pM n fe) (tc:=tDT X.K pM ft) hc S hi (λs H C ex=>dX (X:=X.comp s H scope C N ex) (i:=j) S.nd hjN hlb.1 hlb.2) (kg hjc) (λs H C ex=>ht s H C ex) (λs H C ex=>yL (he s H C ex)) hs)
  (ml (uV (d8 hjc).1) uX)
def sr {elt iter:Y1}{ifs:Zd}{px py pt pos:Yn}{kt:Nat}{scope:Yz}{N:Zw}{caps:Zo}{j l:Nat}{fi:Z6}{ft:Zq}{fe:Z7}(hc:X.calm=true)(S:CompSc X scope N caps)(hjN:N[j]?=some x)(hlN:N[l]?=some y)(hjc:caps[j]?=some none)(hlc:caps[l]?=some none)(hjl:qY scope x)(hll:qY scope y)(hi:PI X (.Tuple [.Name x px,.Name y py] kt pt) iter (tDI X.K E fi)) (ht:∀s H C ex,vI (X.comp s H scope C N ex) pM ifs ft) (he:∀s H C ex,PN (X.comp s H scope C N ex) pM n elt fe)(hs:∀x,foldedSetIterable iter X.env x=pure x:=by intro _;rfl):PN X E (n+1) (.ListComp elt [⟨.Tuple [.Name x px,.Name y py] kt pt,iter,ifs,0⟩] scope pos) (aR fi caps (gW j l) ft fe):=
 have hlb:=cT (env:=X.env) hjl;have hlb':=cT (env:=X.env) hll
 .tn (vd (pos:=pos) (te:=tN X.K pM n fe) (tc:=tDT X.K pM ft) hc S hi (λs H C ex=>ud (X:=X.comp s H scope C N ex) hc (gB (dX (X:=X.comp s H scope C N ex) (i:=j) S.nd hjN hlb.1 hlb.2) (gB (dX (X:=X.comp s H scope C N ex) (i:=l) S.nd hlN hlb'.1 hlb'.2) qH))) (lL hjc hlc) (λs H C ex=>ht s H C ex) (λs H C ex=>yL (he s H C ex)) hs)
  (ml (xV (d8 hjc).1 (d8 hlc).1) xX)
def yX {elt iter:Y1}{ifs:Zd}{px py pos spos:Yn}{scope:Yz}{N:Zw}{caps:Zo}{i j:Nat}{fi:Z6}{ft:Zq}{fe:Z7}(hN:X.N.Nodup)(hi:X.N[i]?=some y)(hy:X.env.scope.names.lookup y=some .local)(hc:X.calm=true)(S:CompSc X scope N caps)(hjN:N[j]?=some x)(hjc:caps[j]?=some none)(hjl:qY scope x)(hit:PI X (.Name x px) iter (tDI X.K E fi)) (ht:∀s H C ex,vI (X.comp s H scope C N ex) pM ifs ft) (he:∀s H C ex,PN (X.comp s H scope C N ex) pM n elt fe)(hsw:swapsWith (.ListComp elt [⟨.Name x px,iter,ifs,0⟩] scope pos) (some (.Name y py)) spos.line X.env=pure true:=by rfl)(hs:∀x,foldedSetIterable iter X.env x=pure x:=by intro _;rfl):∃te,PS X (.Assign [.Name y py] (.ListComp elt [⟨.Name x px,iter,ifs,0⟩] scope pos) spos) (sN te (cn i))∧TN X.K E (n+1) (aR fi caps (aP j) ft fe) te:=
 have hlb:=cT (env:=X.env) hjl
 ⟨_,nD (pos:=pos) (py:=py) (spos:=spos) (te:=tN X.K pM n fe) (tc:=tDT X.K pM ft) hN hi hy hc S hit (λs H C ex=>dX (X:=X.comp s H scope C N ex) (i:=j) S.nd hjN hlb.1 hlb.2) (kg hjc) (λs H C ex=>ht s H C ex) (λs H C ex=>yL (he s H C ex)) hsw hs,
  ml (uV (d8 hjc).1) uX⟩
def yW {elt iter:Y1}{ifs:Zd}{px pz pt py pos spos:Yn}{kt:Nat}{scope:Yz}{N:Zw}{caps:Zo}{i j l:Nat}{fi:Z6}{ft:Zq}{fe:Z7}(hN:X.N.Nodup)(hi:X.N[i]?=some y)(hy:X.env.scope.names.lookup y=some .local)(hc:X.calm=true)(S:CompSc X scope N caps)(hjN:N[j]?=some x)(hlN:N[l]?=some z)(hjc:caps[j]?=some none)(hlc:caps[l]?=some none)(hjl:qY scope x)(hll:qY scope z)(hit:PI X (.Tuple [.Name x px,.Name z pz] kt pt) iter (tDI X.K E fi)) (ht:∀s H C ex,vI (X.comp s H scope C N ex) pM ifs ft) (he:∀s H C ex,PN (X.comp s H scope C N ex) pM n elt fe)(hsw:swapsWith (.ListComp elt [⟨.Tuple [.Name x px,.Name z pz] kt pt,iter,ifs,0⟩] scope pos) (some (.Name y py)) spos.line X.env=pure true:=by rfl)(hs:∀x,foldedSetIterable iter X.env x=pure x:=by intro _;rfl):∃te,PS X (.Assign [.Name y py] (.ListComp elt [⟨.Tuple [.Name x px,.Name z pz] kt pt,iter,ifs,0⟩] scope pos) spos) (sN te (cn i))∧TN X.K E (n+1) (aR fi caps (gW j l) ft fe) te:=
 have hlb:=cT (env:=X.env) hjl;have hlb':=cT (env:=X.env) hll
 ⟨_,nD (pos:=pos) (py:=py) (spos:=spos) (te:=tN X.K pM n fe) (tc:=tDT X.K pM ft) hN hi hy hc S hit (λs H C ex=>ud (X:=X.comp s H scope C N ex) hc (gB (dX (X:=X.comp s H scope C N ex) (i:=j) S.nd hjN hlb.1 hlb.2) (gB (dX (X:=X.comp s H scope C N ex) (i:=l) S.nd hlN hlb'.1 hlb'.2) qH))) (lL hjc hlc) (λs H C ex=>ht s H C ex) (λs H C ex=>yL (he s H C ex)) hsw hs,
  ml (xV (d8 hjc).1 (d8 hlc).1) xX⟩
end
section
variable{K:Z8}{μ:Z0}{Ge B G H:Hp}{σ:St}{ρ:DS}{fp:Zg}{j n:Nat}
def xg (B G:Hp)(fp:Zg)(S:Zt):Prop:=∀b∈S,(G b=none∧B b=none)∧∀i,b∉fp i
def Rw.top {l:Zy}(R:Rw K μ Ge B G H σ ρ fp)(hr:ρ[j]?=some (some (.lst l)))(hm:μ.getD j 0=n+1):∃a xs T,σ[j]?=some (some (.ref a))∧H a=some (.lst xs)∧fp j=a::T∧AllW (Ow K G H n) l xs T:=by
 obtain⟨v,hv,o⟩:=R.sl j _ hr;rw[hm]at o;obtain⟨a,xs,T,e1,e2,e3,h⟩:=o;subst e1;exact⟨a,xs,T,hv,e2,e3,h⟩
def Rw.relist {l':Zy}{ys:Zu}{T T':Zt}(R:Rw K μ Ge B G H σ ρ fp)(hm:μ.getD j 0=n+1)(hv:σ[j]?=some (some (.ref a)))(hf:fp j=a::T)(o:AllW (Ow K G (bc H a (.lst ys)) n) l' ys T')(nd:T'.Nodup)(hT:∀b∈T',b∈T∨((G b=none∧B b=none)∧∀i,b∉fp i)):Rw K μ Ge B G (bc H a (.lst ys)) σ (ρ.set j (some (.lst l'))) (λi=>if i=j then a::T' else fp i):=by
 have hnd:=R.nd j;rw[hf]at hnd;have haT:a∉T:=(nodup_cons.mp hnd).1;have A:a∈fp j:=by rw[hf];exact mem_cons_self ..
 have inT:∀b∈T,b∈fp j:=λb hb=>by rw[hf];exact cN hb
 refine R.write A hv (by rw[hm];exact⟨a,ys,T',rfl,ao,rfl,o⟩) (nodup_cons.mpr ⟨λz=>?_,nd⟩) (λb hb=>?_) λi hi b hb hbi=>?_
 ·rcases hT a z with y|y
  ·exact haT y
  ·exact y.2 j A
 ·rcases mem_cons.mp hb with z|z
  ·subst z;exact⟨R.gf j _ A,R.ob j _ A⟩
  ·rcases hT b z with y|y
   ·exact⟨R.gf j _ (inT b y),R.ob j _ (inT b y)⟩
   ·exact y.1
 ·rcases mem_cons.mp hb with z|z
  ·subst z;exact hi (R.dj i j _ hbi A)
  ·rcases hT b z with y|y
   ·exact hi (R.dj i j _ hbi (inT b y))
   ·exact y.2 i hbi
def Rw.app1 {l:Zy}{d:D}{v:V}{S T:Zt}{xs:Zu}(R:Rw K μ Ge B G H σ ρ fp)(hm:μ.getD j 0=n+1)(hv:σ[j]?=some (some (.ref a)))(hH:H a=some (.lst xs))(hf:fp j=a::T)(h:AllW (Ow K G H n) l xs T)(o:Ow K G H n d v S)(nd:S.Nodup)(hS:xg B G fp S):Rw K μ Ge B G (bc H a (.lst (xs ++ [v]))) σ (ρ.set j (some (.lst (l ++ [d])))) (λi=>if i=j then a::(T ++ S) else fp i):=by
 have hnd:=R.nd j;rw[hf]at hnd;have haj:a∈fp j:=by rw[hf];exact mem_cons_self ..
 have inT:∀b∈T,b∈fp j:=λb w=>by rw[hf];exact cN w
 have neT:∀b,b∈T→b≠a:=λb w z=>(nodup_cons.mp hnd).1 (z ▸ w);have neS:∀b,b∈S→b≠a:=λb w z=>(hS b w).2 j (z ▸ haj);have o1:AllW (Ow K G (bc H a (.lst (xs ++ [v]))) n) l xs T:=h.mono λd v A _ hA z=>z.mono (.refl _) λb w u e=>by
  rw[aj (neT b (hA b w))];exact e
 have o2:Ow K G (bc H a (.lst (xs ++ [v]))) n d v S:=o.mono (.refl _) λb w u e=>by
  rw[aj (neS b w)];exact e
 exact R.relist hm hv hf (o1.append (.one o2)) (nodup_append.mpr ⟨(nodup_cons.mp hnd).2,nd,λb w c hc e=>by subst e;exact(hS b hc).2 j (inT b w)⟩) λb w=>(mem_append.mp w).imp id (hS b)
def AllW.subs {P:Zf}{ds:Zy}{vs:Zu}{S A L R:Zt}(e:S=L ++ A ++ R):(∀b∈L,b∈S)∧(∀b∈A,b∈S)∧∀b∈R,b∈S:=by
 subst e;exact⟨λb h=>mem_append_left _ (mem_append_left _ h),λb h=>mem_append_left _ (mem_append_right _ h),λb h=>mem_append_right _ h⟩
def lb {A A' L R:Zt}(h:(L ++ A ++ R).Nodup)(nd:A'.Nodup)(hA:∀b∈A',b∈A∨(b∉L∧b∉R)):(L ++ A' ++ R).Nodup:=by
 obtain⟨h1,h2,h3⟩:=nodup_append.mp h;obtain⟨h4,h5,h6⟩:=nodup_append.mp h1;refine nodup_append.mpr ⟨nodup_append.mpr ⟨h4,nd,λa ha b hb e=>?_⟩,h2,λa ha b hb e=>?_⟩
 ·subst e
  rcases hA a hb with z|z
  ·exact h6 a ha a z rfl
  ·exact z.1 ha
 ·subst e
  rcases mem_append.mp ha with z|z
  ·exact h3 a (mem_append_left _ z) a hb rfl
  ·rcases hA a z with y|y
   ·exact h3 a (mem_append_right _ y) a hb rfl
   ·exact y.2 hb
def Rw.set1 {l:Zy}{d d0:D}{v:V}{S T:Zt}{xs:Zu}{m:Nat}(R:Rw K μ Ge B G H σ ρ fp)(hm:μ.getD j 0=n+1)(hv:σ[j]?=some (some (.ref a)))(hH:H a=some (.lst xs))(hf:fp j=a::T)(h:AllW (Ow K G H n) l xs T)(hl:l[m]?=some d0)(o:Ow K G H n d v S)(nd:S.Nodup)(hS:xg B G fp S):∃fp',Rw K μ Ge B G (bc H a (.lst (xs.set m v))) σ (ρ.set j (some (.lst (l.set m d)))) fp':=by
 have hnd:=R.nd j;rw[hf]at hnd;have haj:a∈fp j:=by rw[hf];exact mem_cons_self ..
 have inT:∀b∈T,b∈fp j:=λb x=>by rw[hf];exact cN x
 have neT:∀b,b∈T→b≠a:=λb x z=>(nodup_cons.mp hnd).1 (z ▸ x);have neS:∀b,b∈S→b≠a:=λb x z=>(hS b x).2 j (z ▸ haj);obtain⟨w,A,L,Q,g1,g2,g3,g4⟩:=h.at hl;obtain⟨sL,sA,sR⟩:=AllW.subs (P:=Ow K G H n) (ds:=l) (vs:=xs) g2;have hT:=(nodup_cons.mp hnd).2;rw[g2]at hT;have big:=g4 (Ow K G (bc H a (.lst (xs.set m v))) n) (λd v C hC z=>z.mono (.refl _) λb x u e=>by rw[aj (neT b ((hC b x).elim (sL b) (sR b)))];exact e) d v S (o.mono (.refl _) λb x u e=>by rw[aj (neS b x)];exact e);refine⟨_,R.relist hm hv hf big (lb hT nd λb x=>.inr ⟨λz=>(hS b x).2 j (inT b (sL b z)),λz=>(hS b x).2 j (inT b (sR b z))⟩) λb x=>?_⟩
 rcases mem_append.mp x with z|z
 ·rcases mem_append.mp z with y|y
  ·exact .inl (sL b y)
  ·exact .inr (hS b y)
 ·exact .inl (sR b z)
def Rw.freshOf {H0 G0:Hp}{S:Zt}(R:Rw K μ Ge B G H σ ρ fp)(w:New H0 G S)(R0:Rw K μ Ge B G0 H0 σ ρ fp):xg B G fp S:=λb hb=>⟨⟨(w.2 b hb).2,R0.bh.free (w.2 b hb).1⟩,λi=>R0.apart w i b hb⟩
end
section
variable{X:Cx}{E:XK}{μ:Z0}{r n:Nat}
def jz (j:Nat)(f:Z7):DS→Out:=λρ=>match ρ[j]? with
 |some (some (.lst l))=>(f ρ).out λd=>if aG l.length=true then .nx (ρ.set j (some (.lst (l ++ [d])))) else .bad
 |_=>.bad
def gr {m:Nat}(h:aG m=true):m<sizeLine:=by
 have h6:sizeLine=16777216:=sizeLine_eq;have h7:m≤100000:=Zj h;omega
def jj {j:Nat}{px apos cpos pos:Yn}{f:Z7}(hm:μ.getD j 0=n+1)(hN:X.N[j]?=some x)(hv:tm X.env.scope x)(h:PZ X E μ n e f)(hd:zQ1 x:=by decide) (hcd:(x==("__classdict__" :Str))=false:=by decide)(hs:zQ2 X e []:=by rfl)(hbase:attributeBase (.Name x px) "append" X.env (eval (.Name x px) X.env)=eval (.Name x px) X.env:=by rfl)(hfew:((backTo cpos (starEach [e] X.env)).all (λx=> !x.1)&&(backToKw cpos (keywordEach [] X.env)).all (λx=>x.1.isSome)&&decide (([e].length+([]:List Keyword).length+if ([]:List Keyword).isEmpty=true then 0 else 1)<30))=true:=by rfl)(hline:(apos.endLine==cpos.line)=true:=by rfl)(hsw:swapsWith (.Call (.Attribute (.Name x px) "append" apos) [e] [] cpos) none pos.line X.env=pure false:=by rfl) :
  lR X E μ r (.Expr (.Call (.Attribute (.Name x px) "append" apos) [e] [] cpos) pos) (jz j f):=by
 intro pins s σ Ge B G H ρ fp I R ho;have hp:=lM (apos:=apos) (cpos:=cpos) (r:=du) PySem.F.plainAttrs_list PySem.F.slot_list_append PySem.F.type_list_append (show xh X "list.append" du from gz) (eh (pos:=px) hN hv hd hcd) (cf (sj h) ef hs) hbase hfew hline hs rfl;have hslot:∃l,ρ[j]?=some (some (.lst l)):=by
  unfold jz at ho;split at ho
  ·rename_i l q;exact⟨l,q⟩
  ·exact ho.elim
 obtain⟨l,hr⟩:=hslot;have eo:jz j f ρ=(f ρ).out λd=>if aG l.length=true then .nx (ρ.set j (some (.lst (l ++ [d])))) else .bad:=by
  unfold jz;rw[hr]
 rw[eo]at ho ⊢;obtain⟨a,xs,T,h1,h2,h3,h4⟩:=R.top hr hm;refine aS (eQ hp hsw pins s σ H {nx:=λσ' H'=>∃d v G1 H1 S,f ρ= .ok d∧aG l.length=true∧σ'=σ∧Rw X.K μ Ge B G1 H1 σ ρ fp∧Same G G1∧Same H H1∧Ow X.K G1 H1 n d v S∧New H G1 S∧H'=bc H1 a (.lst (xs ++ [v])),bk:=λ_ _=>False,ct:=λ_ _=>False,rt:=λ_ _=>False} I ?_) λfl s1 C=>?_
 ·refine⟨_,h1,.inl ⟨rfl,xs,.inl (.inl h2)⟩,Ge,B,G,ρ,fp,R,ho.res,λd ed v G1 H1 S R1 sg sh o w=>?_⟩;have k:=ho.res2 ed (Same.refl B);by_cases hc:aG l.length=true
  ·exact⟨a,xs,v,rfl,rfl,sh _ _ h2,by rw[←h4.length];exact gr hc,d,v,G1,H1,S,ed,hc,rfl,R1,sg,sh,o,w,rfl⟩
  ·rw[Yi hc]at k;exact k.elim
 ·cases fl with
  |next=>
   obtain⟨σ',H',I',d,v,G1,H1,S,q,hlk,e2,R1,sg,sh,o,w,e3⟩:=C;subst e2 e3;obtain⟨a2,xs2,T2,g1,g2,g3,g4⟩:=R1.top hr hm;rw[h1]at g1;cases g1;rw[sh _ _ h2]at g2;cases g2;refine⟨_,_,_,_,_,?_,I',R1.app1 hm h1 (sh _ _ h2) g3 g4 o w.1 (R1.freshOf w R),sg⟩;rw[bN q,Yj hlk]
  |brk=>obtain⟨_,_,_,C⟩:=C;exact C.elim
  |cont=>obtain⟨_,_,_,C⟩:=C;exact C.elim
  |ret u=>obtain⟨_,_,_,_,_,C⟩:=C;exact C.elim
def qM (j:Nat)(l:Zy)(ρ:DS)(d i:D):Out:=match i with
 |.int k=>(match oU l.length k with|some m=>.nx (ρ.set j (some (.lst (l.set m d))))|none=>.bad)
 |_=>.bad
def uo (j:Nat)(fi f:Z7):DS→Out:=λρ=>match ρ[j]? with
 |some (some (.lst l))=>(f ρ).out λd=>(fi ρ).out λi=>qM j l ρ d i
 |_=>.bad
def New.keep {H G1 H1 G3 H3:Hp}{fp:Zg}{S:Zt}(w:New H G1 S)(hc:∀a∈S,∃o,H1 a=some o∧¬mZ o)(ha:∀i,∀a∈S,a∉fp i)(x:Ext (nX fp G1 H1) H1 G3 H3):New H (nV (oa fp) G3) S:=⟨w.1,λa h=>⟨(w.2 a h).1,by
 cases q:nV (oa fp) G3 a with
 |none=>rfl
 |some o=>
  obtain⟨q1,q2⟩:=j7 q
  rcases x.nw a o q2 with z|z
  ·rw[mn q1,(w.2 a h).2]at z;cases z
  ·obtain⟨o',h',hk⟩:=hc a h
   rcases z with z|z
   ·rw[z]at h';cases h'
   ·have h2:=x.gh a o q2;rw[x.hh a _ h']at h2;cases h2;exact(hk z).elim⟩⟩
def Bg {j:Nat}{px tpos pos:Yn}{fi f:Z7}(hm:μ.getD j 0=n+1)(hN:X.N[j]?=some x)(hv:tm X.env.scope x)(hi:PD X E i fi)(h:PZ X E μ n e f)(hd:zQ1 x:=by decide) (hcd:(x==("__classdict__" :Str))=false:=by decide)(ha:∀v,assign (.Subscript (.Name x px) i tpos) X.env v=(do
   let ov ←holding [v] (eval (.Name x px) X.env)
   let iv ←holding [v,ov] (eval i X.env)
   standAt tpos
   holding [v,ov,iv] (setItem ov iv v)
   release [v,ov,iv] []):=by intro _;rfl)
  (hs:swapsWithSole [.Subscript (.Name x px) i tpos] e pos.line X.env=pure false:=by rfl) (hw:swappedStores [.Subscript (.Name x px) i tpos] e X.env=pure none:=by rfl)
  (ho1:(assignEach [.Subscript (.Name x px) i tpos] X.env).map (·.2)=[assign (.Subscript (.Name x px) i tpos) X.env]:=by rfl) :
  lR X E μ r (.Assign [.Subscript (.Name x px) i tpos] e pos) (uo j fi f):=by
 intro pins s σ Ge B G H g fp I R ho;have hslot:∃l,g[j]?=some (some (.lst l)):=by
  unfold uo at ho;split at ho
  ·rename_i l q;exact⟨l,q⟩
  ·exact ho.elim
 obtain⟨l,hr⟩:=hslot;have eo:uo j fi f g=(f g).out λd=>(fi g).out λi=>qM j l g d i:=by
  unfold uo;rw[hr]
 rw[eo]at ho ⊢;have hp:=D3 (pos:=pos) (sj h) (DT (pos:=tpos) (eh (pos:=px) hN hv hd hcd) (dP hi) zo ha) hs hw ho1;refine aS (hp pins s σ H {nx:=λσ' H'=>∃Q G' U,((f g).out λd=>(fi g).out λi=>qM j l g d i)= .nx Q∧σ'=σ∧Rw X.K μ Ge B G' H' σ Q U∧Same G G',bk:=λ_ _=>False,ct:=λ_ _=>False,rt:=λ_ _=>False} I ⟨Ge,B,G,g,fp,R,ho.res,λd ed v G1 H1 S R1 sg sh o w=>?_⟩) λfl s1 C=>?_
 ·have k:=ho.res2 ed (Same.refl B);obtain⟨a,xs,T,h1,h2,h3,h4⟩:=R1.top hr hm;refine⟨_,h1,nX fp G1 H1,g,R1.vh,R1.ro,k.res.le R1.bh,λdi ei vi G3 H3 x3 ri=>?_⟩;have kk:=k.res2 ei (Same.refl B);have e0:((f g).out λd=>(fi g).out λi=>qM j l g d i)=qM j l g d di:=by rw[bN ed,bN ei]
  unfold qM at kk;split at kk
  ·rename_i k0;rw[rep_int]at ri;subst ri;cases q:oU l.length k0 with
   |none=>rw[q]at kk;exact kk.elim
   |some m=>
    have e0:=e0.trans (show qM j l g d (.int k0)= .nx (g.set j (some (.lst (l.set m d)))) by unfold qM;dsimp only;rw[q]);have hml:m<l.length:=(ia q).2.1;have R3:=R1.grow x3;obtain⟨a2,xs2,T2,g1,g2,g3,g4⟩:=R3.top hr hm;rw[h1]at g1;cases g1;rw[x3.hh _ _ h2]at g2;cases g2;have hc:∀b∈S,∃u,H1 b=some u∧¬mZ u:=λb hb=>let ⟨u,e,c⟩:=o.cell b hb;⟨u,e,c.nokey⟩
    have w3:=w.keep hc (λi b hb=>R.apart w i b hb) x3;obtain⟨U,R4⟩:=R3.set1 (d:=d) (v:=v) hm h1 (x3.hh _ _ h2) g3 g4 (d_ hml) (o.mono (R1.gg x3) λb _ u e=>x3.hh b u e) w.1 (R3.freshOf w3 R);exact⟨a,xs,k0,m,rfl,rfl,x3.hh _ _ h2,by rw[←h4.length];exact q,_,_,U,e0,rfl,R4,sg.trans (R1.gg x3)⟩
  ·exact kk.elim
 ·cases fl with
  |next=>
   obtain⟨σ',H',I',Q,G',U,e1,e2,R',sg⟩:=C;subst e2;exact⟨Q,_,G',H',U,e1,I',R',sg⟩
  |brk=>obtain⟨_,_,_,C⟩:=C;exact C.elim
  |cont=>obtain⟨_,_,_,C⟩:=C;exact C.elim
  |ret u=>obtain⟨_,_,_,_,_,C⟩:=C;exact C.elim
end
section
variable{prog:Zv}{w:Zn}{A:Zl}{R:Yt}{I S:Zz}{fp wr:Zt}{n:Nat}{P:Nat→Value→Prop}{St:Nat→Heap→Prop}{C:Heap→Prop}
end
section
variable{prog:Zv}{w:Zn}{A:Zl}{E:Z5}{s:Shared}
end
def Ef:D→Option (List Int)
 |.tup l=>allInts l
 |_=>none
def gQ:List D→Option (List (List Int))
 | []=>some []
 |d::ds=>match Ef d,gQ ds with
  |some t,some ts=>some (t::ts)
  |_,_=>none
theorem mv:∀{l:Zy} {ts:List (List Int)},gQ l=some ts→l=ts.map λt=>.tup (t.map D.int)
 | [],ts,h=>by unfold gQ at h;cases h;rfl
 |d::ds,ts,h=>by
  unfold gQ at h;split at h
  ·rename_i t us e1 e2;cases h;rw[map_cons,←mv e2];unfold Ef at e1;split at e1
   ·rename_i l;rw[gP e1]
   ·cases e1
  ·cases h
theorem lx:∀(ts:List (List Int)),gQ (ts.map λt=>.tup (t.map D.int))=some ts
 | []=>rfl
 |t::ts=>by
  rw[map_cons];unfold gQ;rw[lx ts];unfold Ef;dsimp only;rw[fJ]
section
variable{X:Cx}{E:XK}
def xj (K:Z8)(H:Hp)(vs:Zu)(ts:Yv):Prop:=vs.length=ts.length∧∀(i:Nat) (v:V) (t:List Int),vs[i]?=some v→ts[i]?=some t→∃a,v= .ref a∧lT K H a (t.map V.int)
def wW {K:Z8}{G H:Hp}(hs:Same G H):∀{ts:Yv} {vs:List V},RepL K G (ts.map λt=>.tup (t.map D.int)) vs→xj K H vs ts:=by
 intro ts vs rl;refine⟨by rw[←rl.length,length_map],λi v t hv ht=>?_⟩;obtain⟨w,hw,rw'⟩:=rl.get (i:=i) (d:=.tup (t.map D.int)) (by rw[getElem?_map,ht];rfl);rw[hv]at hw;cases hw;rw[rep_tup]at rw';obtain⟨a,xs,rfl,sq,rl2⟩:=rw';rw[rl2.ints]at sq;exact⟨a,rfl,hs.seqT sq.sq⟩
end
def nK {α:Type}(n:Nat)(lt:Nat→Nat→Bool):W.KasT α→Option α
 |.ret a=>some a
 |.ask i j k=>if i<n∧j<n then nK n lt (k (lt i j)) else none
theorem rR {α:Type}{cmp:Nat→Nat→(Bool→Shared→Prop)→Shared→Prop}{n:Nat}{lt:Nat→Nat→Bool}{s:Z3}(hc:∀i j (Q:Bool→Shared→Prop),i<n→j<n→Q (lt i j) s→cmp i j Q s):∀(t:W.KasT α) (p:α) (Q:α→Shared→Prop),nK n lt t=some p→Q p s→t.kasWp cmp Q s
 |.ret a,p,Q,h,q=>by unfold nK at h;cases h;exact q
 |.ask i j k,p,Q,h,q=>by
  unfold nK at h;split at h
  ·rename_i hb;exact hc i j _ hb.1 hb.2 (rR hc (k (lt i j)) p Q h q)
  ·cases h
section
variable{prog:Zv}{w:Zn}{A:Zl}{E:Z5}{s:Shared}
theorem rS {b fin:Bool}{Q:Yr}:∀{vs ws:Z1} {ns ms:Z2} (i:Nat),IntsAre vs ns→IntsAre ws ms→fin=decide (ns.length<ms.length)→Q (HT.iE ns ms) s→W.KatLex prog w A b fin Q (vs.zip ws) i s
 |_,_,_,_,i,.nil,.nil,hf,h=>by
  rw[HT.oh]at h;rw[List.zip_nil_left];exact W.kat_nil (by rw[hf];exact h)
 |_,_,_,_,i,.nil,.cons n t h2,hf,h=>by
  rw[HT.ng]at h;rw[List.zip_nil_left];exact W.kat_nil (by rw[hf];simpa using h)
 |_,_,_,_,i,.cons n t h1,.nil,hf,h=>by
  rw[HT.m_]at h;rw[List.zip_nil_right];exact W.kat_nil (by rw[hf];simpa using h)
 |_,_,_,_,i,.cons n t h1,.cons m u h2,hf,h=>by
  rw[HT.tU]at h;rw[List.zip_cons_cons];refine W.kat_cons (wpAny_eqBool_int ?_);by_cases e:n=m
  ·rw[Yj e]at h;have e':(n==m)=true:=by simp[e]
   rw[e'];exact W.kat_yes (rS (i+1) h1 h2 (by rw[hf];simp) h)
  ·rw[Yi e]at h;have e':(n==m)=false:=beq_eq_false_iff_ne.mpr e;rw[e'];refine W.kat_no ?_;cases hb:(b&&i==0) with
   |true=>exact oneLt_int h
   |false=>exact W.kat_one _ _ (lt_int (by exact h))
def BC {xs ys:Ym}{ns ms:Z2}{b:Bool}{Q:Yr}(hx:IsTup s.heap x xs)(hy:IsTup s.heap y ys)(ix:IntsAre xs.toList ns)(iy:IntsAre ys.toList ms)(h:Q (HT.iE ns ms) s):wpAny (model prog w) A (keyLt' (tuples' b) (.ref x) (.ref y)) Q E s:=by
 obtain⟨ox,hox,_,n,dx⟩:=hx;obtain⟨oy,hoy,_,k,dy⟩:=hy;refine W.kat_lt hox dx hoy dy (rS 0 ix iy ?_ h);have h1:=ix.length;have h2:=iy.length;rw[length_toList]at h1 h2;rw[h1,h2]
def TupsIn (h:Y5)(vs:Z1)(ts:Yv):Prop:=vs.length=ts.length∧∀(i:Nat) (v:Value),vs[i]?=some v→∃b items,v= .ref b∧IsTup h b items∧IntsAre items.toList (ts.getD i [])∧ts.getD i []≠[]
def TupsIn.keep {h h':Y5}{vs:Z1}{ts:Yv}(x:TupsIn h vs ts)(k:∀b o,h.get? b=some o→o.cls= .type "tuple" →h'.get? b=some o):TupsIn h' vs ts:=⟨x.1,λi v hv=>by
 obtain⟨b,items,e,⟨o,ho,hc,hd⟩,r⟩:=x.2 i v hv;exact⟨b,items,e,⟨o,k b o ho hc,hc,hd⟩,r⟩⟩
theorem mW {h:Y5}:∀{vs:Z1} {ts:List (List Int)},TupsIn h vs ts→∃fs:List Value,W.KatTups h vs fs∧fs.length=vs.length∧∀v∈fs,∃n t,v= .int n t
 | [],ts,_=>⟨[],.nil,rfl,λv hv=>nomatch hv⟩
 |v::vs,ts,x=>by
  obtain⟨t,C,rfl⟩:∃t C,ts=t::C:=by
   match ts,x.1 with
   | [],h=>simp at h
   |t::C,_=>exact⟨t,C,rfl⟩
  obtain⟨b,D,e,⟨o,ho,hc,nn,hd⟩,hi,hne⟩:=x.2 0 v rfl;have hi:IntsAre D.toList t:=hi;have hne:t≠[]:=hne;obtain⟨fs,h1,h2,h3⟩:=mW (vs:=vs) (ts:=C) ⟨by have:=x.1;simpa using this,λi u hu=>x.2 (i+1) u (by simpa using hu)⟩;subst e;cases q:D.toList with
  |nil=>rw[q]at hi;cases hi;exact absurd rfl hne
  |cons f r=>
   rw[q]at hi;cases hi with
   |cons n tk hi'=>
    refine⟨.int n tk::fs,.cons ho hc hd ?_ h1,by simp[h2],λu hu=>?_⟩
    ·rw[←getElem?_toList,q];rfl
    ·rcases mem_cons.mp hu with z|z
     ·exact⟨n,tk,z⟩
     ·exact h3 u z
def oj {vs:Z1}{n:Nat}{P:Fin→Shared→Prop}(ho:s.heap.get? a=some (seqObj "list" vs.toArray n))(h1:vs.length<2)(h:P (.done (.ret .none)) {s with heap:=sortedHeap s.heap a vs vs.toArray}):wpAny (model prog w) A (Builtin.«list.sort» ⟨[.ref a],[]⟩) P E s:=by
 rw[list_sort_plain];have ha:a<s.heap.objs.size:=Ys ho;refine Zx (listItems_at ho rfl ?_);refine Zx (listUpdate_at ho rfl ?_ (by rw[size_toArray,sizeLine_eq];omega) (zero_le _));obtain⟨e1,ho1⟩:∃e1,(s.heap.update a (Obj.mapSeq λ_=> #[])).get? a=some (seqObj "list" #[] e1):=⟨_,get?_update_seq ho (λ_=> #[])⟩;refine Zx (seqEpoch_at ho1 rfl ?_);refine Zx (wpAny_newTuple ?_ (by show vs.length≤_;rw[sizeLine_eq];omega));refine Zx (wpAny_newList ?_ (zero_le _));refine wpAny_holding ?_;have ho6:(((s.heap.update a (Obj.mapSeq λ_=> #[])).push (seqObj "tuple" vs.toArray 0)).push (seqObj "list" #[] 0)).get? a=some (seqObj "list" #[] e1):=Heap.get?_push_of_some _ (Heap.get?_push_of_some _ ho1);show wpAny (model prog w) A _ P E {s with heap:=((s.heap.update a (Obj.mapSeq λ_=> #[])).push (seqObj "tuple" vs.toArray 0)).push (seqObj "list" #[] 0)}
 dsimp only;have h2:vs.toArray.size<2:=by rw[size_toArray];exact h1
 rw[Yj h2,Yj h2];refine Zx (Zp ?_);rw[StateT.run_pure];refine Zx (Zp ?_);dsimp only;refine Zx (seqEpoch_at ho6 rfl ?_);have hz:(arrOf (SortSt.mk' general' (vs.toArray.zip vs.toArray) #[] 7 none)).map (·.2)=vs.toArray:=by
  show (vs.toArray.zip vs.toArray).map (·.2)=vs.toArray;apply Array.toList_inj.mp;simp[List.map_snd_zip]
 rw[hz];refine Zx (listUpdate_at ho6 rfl ?_ (zero_le _) (by rw[size_toArray,sizeLine_eq];omega));simp only[bne_self_eq_false,false_eq_true,if_false];exact Zp h
def nk {vs:Z1}{ts:Yv}{n:Nat}{p:Array Nat}{P:Fin→Shared→Prop}(ho:s.heap.get? a=some (seqObj "list" vs.toArray n))(hT:TupsIn s.heap vs ts)(h2:2≤vs.length)(h64:vs.length<64)(hr:nK vs.length (λi j=>HT.iE (ts.getD i []) (ts.getD j [])) (W.kas_sort vs.length)=some p) (h:P (.done (.ret .none)) {s with heap:=sortedHeap s.heap a vs (List.toArray (p.toList.map λi=>vs.getD i Value.none))}) (hp:p.size=vs.length):wpAny (model prog w) A (Builtin.«list.sort» ⟨[.ref a],[]⟩) P E s:=by
 rw[list_sort_plain];have ha:a<s.heap.objs.size:=Ys ho;refine Zx (listItems_at ho rfl ?_);refine Zx (listUpdate_at ho rfl ?_ (by rw[size_toArray,sizeLine_eq];omega) (zero_le _));obtain⟨e1,ho1⟩:∃e1,(s.heap.update a (Obj.mapSeq λ_=> #[])).get? a=some (seqObj "list" #[] e1):=⟨_,get?_update_seq ho (λ_=> #[])⟩;refine Zx (seqEpoch_at ho1 rfl ?_);refine Zx (wpAny_newTuple ?_ (by show vs.length≤_;rw[sizeLine_eq];omega));refine Zx (wpAny_newList ?_ (zero_le _));refine wpAny_holding ?_;have ho6:(((s.heap.update a (Obj.mapSeq λ_=> #[])).push (seqObj "tuple" vs.toArray 0)).push (seqObj "list" #[] 0)).get? a=some (seqObj "list" #[] e1):=Heap.get?_push_of_some _ (Heap.get?_push_of_some _ ho1);show wpAny (model prog w) A _ P E {s with heap:=((s.heap.update a (Obj.mapSeq λ_=> #[])).push (seqObj "tuple" vs.toArray 0)).push (seqObj "list" #[] 0)}
 dsimp only;have hn2:¬vs.toArray.size<2:=by rw[size_toArray];omega
 rw[Yi hn2,Yi hn2];have hT2:TupsIn (((s.heap.update a (Obj.mapSeq λ_=> #[])).push (seqObj "tuple" vs.toArray 0)).push (seqObj "list" #[] 0)) vs ts:=hT.keep λb o e hc=>by
  have hb:b≠a:=λz=>by rw[z,ho]at e;cases e;injection hc with hc;exact absurd hc (by decide)
  exact Heap.get?_push_of_some _ (Heap.get?_push_of_some _ ((Heap.get?_update_other _ _ (Ne.symm hb)).trans e))
 obtain⟨fs,k1,k2,k3⟩:=mW hT2;refine Zx (W.kat_kind (T:=.type "int") (s:={s with heap:=((s.heap.update a (Obj.mapSeq λ_=> #[])).push (seqObj "tuple" vs.toArray 0)).push (seqObj "list" #[] 0)}) k1 (by omega) (λv hv=>?_) rfl ?_)
 ·obtain⟨m,t,rfl⟩:=k3 v hv;exact W.Looks.of_pure rfl
 ·refine Zx (wpAny_mono (W.kat_run (s:={s with heap:=((s.heap.update a (Obj.mapSeq λ_=> #[])).push (seqObj "tuple" vs.toArray 0)).push (seqObj "list" #[] 0)}) (Q:=λF s'=>arrOf F=p.map (W.kas_item (vs.toArray.zip vs.toArray))∧failedOf F=none∧s'={s with heap:=((s.heap.update a (Obj.mapSeq λ_=> #[])).push (seqObj "tuple" vs.toArray 0)).push (seqObj "list" #[] 0)})
   (G:=λp' s'=>p'=p∧s'={s with heap:=((s.heap.update a (Obj.mapSeq λ_=> #[])).push (seqObj "tuple" vs.toArray 0)).push (seqObj "list" #[] 0)}) rfl h2 h64 (λp' F s' a1 a2 a3 a4=>⟨by rw[a2,a4.1],a3,a4.2⟩) (rR (λi j Q hi hj hQ=>?_) _ p _ hr ⟨rfl,rfl⟩)) ?_ λ_ _ e=>e)
  ·obtain⟨b,ib,e1',p1,n1,_⟩:=hT2.2 i vs[i] (d_ hi);obtain⟨c,ic,e2',p2,n2,_⟩:=hT2.2 j vs[j] (d_ hj);unfold W.kas_ask;have g1:vs.getD i Value.none= .ref b:=by simp[hi,e1']
   have g2:vs.getD j Value.none= .ref c:=by simp[hj,e2']
   rw[g1,g2];exact BC p1 p2 n1 n2 hQ
  ·rintro⟨⟨⟩,F⟩ s' ⟨har,hf,rfl⟩;dsimp only;refine Zx (seqEpoch_at ho6 rfl ?_);have hout:=W.kat_snds (vs:=vs) rfl har;rw[hout];refine Zx (listUpdate_at ho6 rfl ?_ (zero_le _) (by rw[size_toArray,length_map,length_toList,hp,sizeLine_eq];omega));rw[hf];simp only[bne_self_eq_false,false_eq_true,if_false];exact Zp h
def pF {vs:Z1}{out:Ym}{Q:Z5}(hl:s.heap.IsList l vs.toArray)(hn:vs.length<64)(hsort:∀(s':Z3) (P:Fin→Shared→Prop) (E':Z5) (A':Zl) (a:Addr),(∀b o,s.heap.get? b=some o→s'.heap.get? b=some o)→s'.heap.get? a=some (seqObj "list" vs.toArray 0)→P (.done (.ret .none)) {s' with heap:=sortedHeap s'.heap a vs out}→wpAny (model prog w) A' (Builtin.«list.sort» ⟨[.ref a],[]⟩) P E' s')
  (h:Q (.ref (s.heap.objs.size+1)) {s with heap:=sortedAll s.heap vs out}):wpAny (model prog w) A (call (.builtin "sorted") [.ref l]) Q E s:=by
 refine Calls.call_function_entry kind_sorted plain_sorted entry_sorted (args_sorted1 _) ?_;unfold Builtin.«sorted»;refine Zx (m:=checkCount "sorted" 1 1 _) (Zp ?_);refine Zx (collect_list hl ?_ (by rw[sizeLine_eq];omega));refine Zx (wpAny_newList ?_ (by rw[sizeLine_eq];omega));have hsz:((s.heap.push (seqObj "list" #[] 0)).update s.heap.objs.size (Obj.mapSeq (· ++ vs.toArray))).objs.size=s.heap.objs.size+1:=by
  rw[Heap.size_update,size_push']
 have hoL:(((s.heap.push (seqObj "list" #[] 0)).update s.heap.objs.size (Obj.mapSeq (· ++ vs.toArray))).push (seqObj "list" vs.toArray 0)).get? (s.heap.objs.size+1)=some (seqObj "list" vs.toArray 0):=by
  rw[←hsz];exact Heap.get?_push_size _ rfl
 show wpAny _ _ _ _ _ {s with heap:=((s.heap.push (seqObj "list" #[] 0)).update s.heap.objs.size (Obj.mapSeq (· ++ vs.toArray))).push (seqObj "list" vs.toArray 0)}
 rw[hsz];refine Zx (wpAny_holding (wpAny_call_entry slot_list_sort ⟨_,hoL,rfl⟩ entry_list_sort (hsort {s with heap:=((s.heap.push (seqObj "list" #[] 0)).update s.heap.objs.size (Obj.mapSeq (· ++ vs.toArray))).push (seqObj "list" vs.toArray 0)} _ _ _ _ (λb o e=>?_) hoL ⟨_,rfl,?_⟩) (args_list_sort _)))
 ·have hlt:b<s.heap.objs.size:=Ys e;exact Heap.get?_push_of_some _ ((Heap.get?_update_other _ _ (ne_of_gt hlt)).trans (Heap.get?_push_of_some _ e))
 ·exact Zp ⟨_,rfl,h⟩
end
def iA:List D→Res D
 | [.lst l]=>if l.length<2 then .ok (.lst l) else (match gQ l with
  |some ts=>if (ts.all (λt=> !t.isEmpty)&&decide (ts.length<64))=true then (match nK ts.length (λi j=>HT.iE (ts.getD i []) (ts.getD j [])) (W.kas_sort ts.length) with
   |some p=>if p.size=ts.length∧(p.toList.all λi=>decide (i<ts.length))=true then .ok (.lst (p.toList.map λi=>.tup ((ts.getD i []).map D.int))) else .bad
   |none=>.bad) else .bad
  |none=>.bad)
 |_=>.bad
section
variable{X:Cx}{E:XK}
def jJ {pins:Z9}{σ:St}{H:Hp}{s:Z3}{vs:Z1}{out:Z1}{ys:Zu}{Q:VK}(I:Inv X pins σ H s)(rv:Vals ys out)(hz:ys.length≤sizeLine)(q:∀p,H p=none→Q (.ref p) (bc H p (.lst ys))):EP X pins σ Q (.ref (s.heap.objs.size+1)) {s with heap:=sortedAll s.heap vs out.toArray}:=by
 obtain⟨e,he⟩:=sortedAll_at s.heap vs out.toArray;have hn:=I.hok.fresh (le_succ s.heap.objs.size);refine⟨.ref (s.heap.objs.size+1),_,I.laid (o:=.lst ys) (t':=s.toks) (λb o q=>sortedAll_old q) (le_succ _) ⟨hz,out,e,rv,he⟩,rfl,q _ hn⟩
def tB:dZ X (.builtin "sorted") (λxs H Q=>∃p vs,xs=[.ref p]∧f_ X.K H p vs∧((vs.length<2∧∀l,H l=none→Q (.ref l) (bc H l (.lst vs)))∨
  ∃ts pr,xj X.K H vs ts∧(∀t∈ts,t≠[])∧2≤ts.length∧ts.length<64∧nK ts.length (λi j=>HT.iE (ts.getD i []) (ts.getD j [])) (W.kas_sort ts.length)=some pr∧pr.size=ts.length∧(∀i∈pr.toList,i<ts.length)∧∀l,H l=none→Q (.ref l) (bc H l (.lst (pr.toList.map λi=>vs.getD i .non))))):=by
 intro pins s σ H xs us Q I r h;obtain⟨p,vs,rfl,sq,h⟩:=h;obtain⟨u,rfl,ru⟩:=i8 r;cases (show u= .ref p from ru);obtain⟨G,rv,pl,hz⟩:=I.list sq;have hil:=rv.length
 rcases h with ⟨hlt,q⟩|⟨ts,pr,⟨hlen,htup⟩,hne,h2,h64,hr,hps,hin,q⟩
 ·exact pF pl.isList (by omega) (λs' P E' A' a _ ho h=>oj ho (by omega) h) (jJ I rv hz q)
 ·have hit:G.length=ts.length:=by omega
  have T:TupsIn s.heap G ts:=⟨hit,λi u hu=>by
   have hi:i<G.length:=(d8 hu).1;have hi':i<ts.length:=by omega
   have F:i<vs.length:=by omega
   obtain⟨u',L,J⟩:=rv.get (d_ F);rw[hu]at L;cases L;obtain⟨a,ea,sqa⟩:=htup i vs[i] ts[i] (d_ F) (d_ hi');rw[ea]at J;cases J;obtain⟨its2,r2,p2,_⟩:=I.tuple sqa;have:ts.getD i []=ts[i]:=by rw[getD_eq_getElem?_getD,d_ hi'];rfl
   rw[this];exact⟨a,its2.toArray,rfl,p2,jI r2,hne _ (getElem_mem hi')⟩⟩
  have rv2:Vals (pr.toList.map λi=>vs.getD i .non) (pr.toList.map λi=>G.getD i Value.none):=by
   have go:∀(l:List Nat),(∀i∈l,i<ts.length)→Vals (l.map λi=>vs.getD i .non) (l.map λi=>G.getD i Value.none):=by
    intro l
    induction l with
    |nil=>intro _;exact .nil
    |cons i l ih=>
     intro hl;have hi:=hl i (mem_cons_self ..);have F:i<vs.length:=by omega
     obtain⟨u',L,J⟩:=rv.get (d_ F);refine .cons ?_ (ih λj hj=>hl j (cN hj));have e1:vs.getD i .non=vs[i]:=by rw[getD_eq_getElem?_getD,d_ F];rfl
     have e2:G.getD i Value.none=u':=by rw[getD_eq_getElem?_getD,L];rfl
     show RelV (vs.getD i .non) (G.getD i Value.none);rw[e1,e2];exact J
   exact go _ hin
  refine pF pl.isList (by omega) (λs' P E' A' a k ho h=>nk (p:=pr) (ts:=ts) ho (T.keep λb o e _=>k b o e) (by omega) (by omega) (by rw[hit];exact hr) h (by omega)) (jJ I rv2 (by rw[length_map,length_toList,hps];have:=sizeLine_eq;omega) q)
def yT {f:Z7}(hm:X.mg "sorted" =none)(h:PD X E e f)(hg:Gl X "sorted" :=by rfl)(he:zQ2 X e []:=by rfl):PN X E 1 (.Call (.Name "sorted" p) [e] [] pos) (λρ=>(f ρ).bind λa=>iA [a]):=by
 have hpd:lP X E [e] (λρ=>(f ρ).bind λd=>.ok [d]):=aa h ae he;refine .tn (ny (x:= "sorted") (p:=p) (pos:=pos) tB hg hm boot_sorted (ii hpd) (by decide) (by decide) he rfl) λσ G H ρ Q hs hro ho k=>⟨G,ρ,hs,hro,?_,λds e1 vs G1 H1 x1 p1=>?_⟩
 ·have ho:=ho.fst;show OkR E H ((f ρ).bind λd=>.ok [d]);cases q:f ρ with
  |ok d=>trivial
  |exc c=>rw[q]at ho;exact ho
  |bad=>rw[q]at ho;exact ho
 ·have ed:∃d,f ρ= .ok d∧ds=[d]:=by
   have e1:((f ρ).bind λd=>(.ok [d]:Res (List D)))= .ok ds:=e1;cases q:f ρ with
   |ok d=>rw[q]at e1;cases e1;exact⟨d,rfl,rfl⟩
   |exc c=>rw[q]at e1;cases e1
   |bad=>rw[q]at e1;cases e1
  obtain⟨d,ed,rfl⟩:=ed;have I:=ho.snd ed x1.hh;have e0:((f ρ).bind λa=>iA [a])=iA [d]:=by rw[ed];rfl
  obtain⟨v,r,rfl,rx,r0⟩:=p1.inv;rw[r0.inv0];unfold iA at I;split at I
  ·rename_i l hd;cases hd;rw[rep_lst]at rx;obtain⟨q,xs,rfl,sq,rx⟩:=rx;refine⟨q,xs,rfl,x1.gh.seq sq.sq,?_⟩;by_cases hl:l.length<2
   ·refine .inl ⟨by rw[←rx.length];exact hl,λm hm=>?_⟩;obtain⟨x,o,w⟩:=iZ x1 hm rx;exact k _ (e0.trans (Yj hl)) _ _ _ _ x o w
   ·rw[Yi hl]at I;split at I
    ·rename_i ts qt;have el:=mv qt;split at I
     ·rename_i hc;split at I
      ·rename_i pr hrun;split at I
       ·rename_i hp;rw[and_eq_true]at hc;have hlen:l.length=ts.length:=by rw[el,length_map]
        have hin:∀i∈pr.toList,i<ts.length:=λi hi=>Zj (all_eq_true.mp hp.2 i hi);refine .inr ⟨ts,pr,wW x1.gh (by rw[←el];exact rx),λt ht=>?_,by omega,Zj hc.2,hrun,hp.1,hin,λm hm=>?_⟩
        ·have:=all_eq_true.mp hc.1 t ht;intro z;rw[z]at this;cases this
        ·have rl:RepL X.K G1 (pr.toList.map λi=>.tup ((ts.getD i []).map D.int)) (pr.toList.map λi=>xs.getD i .non):=by
          have go:∀(m:List Nat),(∀i∈m,i<ts.length)→RepL X.K G1 (m.map λi=>.tup ((ts.getD i []).map D.int)) (m.map λi=>xs.getD i .non):=by
           intro m
           induction m with
           |nil=>intro _;exact .nil
           |cons i m ih=>
            intro hm;have hi:=hm i (mem_cons_self ..);obtain⟨v,hv,rv⟩:=rx.get (i:=i) (d:=.tup ((ts.getD i []).map D.int)) (by
             rw[el,getElem?_map,d_ hi,getD_eq_getElem?_getD,d_ hi];rfl)
            refine .cons ?_ (ih λj hj=>hm j (cN hj));have e2:xs.getD i .non=v:=by rw[getD_eq_getElem?_getD,hv];rfl
            show Rep X.K G1 _ (xs.getD i .non);rw[e2];exact rv
          exact go _ hin
         obtain⟨x,o,w⟩:=iZ x1 hm rl;refine k _ (e0.trans ?_) _ _ _ _ x o w;show (if l.length<2 then _ else _)=_
         rw[Yi hl,qt];dsimp only;rw[Yj (by rw[and_eq_true];exact hc),hrun];exact Yj hp
       ·exact I.elim
      ·exact I.elim
     ·exact I.elim
    ·exact I.elim
  ·exact I.elim
end
section
variable{X:Cx}{E:XK}{μ:Z0}{r n:Nat}
def Go (K:Z8)(te tk:TE):TE:=λσ H Q=>te σ H λx H1=>tk σ H1 λk H2=>k= .int (-1)∧∃a xs,x= .ref a∧f_ K H2 a xs∧∀p,H2 p=none→Q (.ref p) (bc H2 p (.lst xs.reverse))
def DP {e st:Y1}{te tk:TE}(he:PE X e te)(hk:PE X st tk):PE X (.Subscript e (.Slice none none (some st) p2) pos) (Go X.K te tk):=by
 intro p s σ H Q I h;refine Subscript_ (aS (he p s σ H _ I h) λv s1 hZ170=>?_);obtain⟨x,H1,I1,r1,q1⟩:=hZ170;refine wpAny_Slice ?_;rw[evalPart_none,evalPart_some];refine Zp (Zp (aS (hk p s1 σ H1 _ I1 q1) λvk s3 hZ171=>?_));obtain⟨k,H3,I3,rk,ek,a,xs,ea,sq,q3⟩:=hZ171;subst ek ea;cases r1;obtain⟨t,rfl⟩:=rk;have I4:Inv X p σ H3 {s3 with heap:=s3.heap.push {cls:=.type "slice",data:=.fields #[.none,.none,.int (-1) t]}}:=I3.kept (t':=s3.toks) λb ob q=>Heap.get?_push_of_some _ q
 obtain⟨its,rv,pl,hz⟩:=I4.list sq;show wpAny (model X.prog X.w) X.A (subscriptTail e (.Slice none none (some st) p2) (.ref a) (.ref s3.heap.objs.size)) (EP X p σ Q) X.xe {s3 with heap:=s3.heap.push {cls:=.type "slice",data:=.fields #[.none,.none,.int (-1) t]}}
 refine tail_any (ops:=[.ref a,.ref s3.heap.objs.size]) pl.isList.typeIs slot_list_getitem.lookup ?_ (by with_unfolding_all rfl);refine wpAny_getItem_list_slice (vs:=.int (-1) t) (st:=some (-1)) pl.isList (Heap.IsSliceOf.new ..) .none .none (.int _ _) (by decide) ?_ (by rw[size_toArray];have:=rv.length;omega);rw[W.krv_pick];have hn:=I4.hok.fresh (le_refl _);have rr:Vals xs.reverse its.reverse:=by
  have go:∀{xs:Zu} {us:List Value},Vals xs us→Vals xs.reverse us.reverse:=by
   intro xs
   induction xs with
   |nil=>intro us h;cases h;exact .nil
   |cons x xs ih=>
    intro us h;cases h with
    |cons r rr=>
     rw[reverse_cons,reverse_cons];exact(ih rr).append (.cons r .nil)
  exact go rv
 refine⟨.ref _,_,I4.laid (t':=s3.toks) (o:=.lst xs.reverse) (λb ob q=>Heap.get?_push_of_some _ q) (le_refl _) ?_,rfl,q3 _ hn⟩;exact⟨by rw[length_reverse];exact hz,its.reverse,0,rr,Heap.get?_push_size _ rfl⟩
def sB:D→D→Res D
 |.lst l,.int k=>if k= -1 then .ok (.lst l.reverse) else .bad
 |_,_=>.bad
def D0 {e st:Y1}{f g:Z7}(he:PD X E e f)(hk:PD X E st g):PN X E 1 (.Subscript e (.Slice none none (some st) p2) pos) (ac f g sB):=by
 refine .tn (DP (pos:=pos) (p2:=p2) (dP he) (dP hk)) λσ G H ρ Q hs hro ho k=>⟨G,ρ,hs,hro,ho.fst,λd e1 v G1 H1 x1 p1=>⟨G1,ρ,x1.gh,hro.mono x1.gg,(ho.snd e1 x1.hh).fst,λd2 e2 v2 G2 H2 x2 p2=>?_⟩⟩;have kk:=(ho.snd e1 x1.hh).snd e2 x2.hh;have e0:ac f g sB ρ=sB d d2:=by unfold ac;rw[e1,av,e2,av]
 unfold sB at kk;split at kk
 ·rename_i l kv;split at kk
  ·rename_i hk1;subst hk1;rw[rep_lst]at p1;rw[rep_int]at p2;obtain⟨a,xs,rfl,sq,rl⟩:=p1;refine⟨p2,a,xs,rfl,x2.hh.seq (x1.gh.seq sq.sq),λp hp=>?_⟩;obtain⟨x,o,w⟩:=iZ (x1.trans x2) hp (rl.mono x2.gg).reverse;exact k _ (by rw[e0];unfold sB;exact Yj rfl) _ _ _ _ x o w
  ·exact kk.elim
 ·exact kk.elim
def Ee:D→Res Bool
 |.lst l=>.ok (!l.isEmpty)
 |.bl b=>.ok b
 |_=>.bad
def vb {f:Z7}(h:PD X E e f)(he:∀whole,isTrue e X.env whole=(do let v ←whole;standAt e.pos;holding [v] (truthy v)):=by intro _;rfl):s9 X E e (λρ=>(f ρ).bind Ee):=by
 intro pins s σ G H ρ I hs hro ho;refine isTrue_plain (aS (h pins s σ G H ρ I hs hro ho.fst) λv s1 hZ172=>?_) (he _);obtain⟨d,e,v3,G3,H3,I3,r3,x3,p3⟩:=hZ172;have k:=ho.snd e (Same.refl H);cases d with
 |bl b=>
  rw[rep_bl]at p3;subst p3;cases r3;exact wpAny_truthy_bool ⟨al e rfl,G3,H3,I3,x3⟩
 |lst l=>
  rw[rep_lst]at p3;obtain⟨a,xs,rfl,sq,rl⟩:=p3;cases r3;obtain⟨its,rv,pl,hz⟩:=I3.list (x3.gh.seq sq.sq);refine wpAny_truthy_list pl.isList (by rw[size_toArray,←rv.length];have:=sizeLine_eq;omega) ⟨al e ?_,G3,H3,I3.tok _,x3⟩;show Res.ok (!l.isEmpty)= .ok _;have h1:=rl.length;have h2:=rv.length;cases l with
  |nil=>
   cases its with
   |nil=>rfl
   |cons _ _=>simp at h1;rw[←h1]at h2;simp at h2
  |cons _ _=>
   cases its with
   |nil=>rw[←h1]at h2;simp at h2
   |cons _ _=>rfl
 |_=>exact k.elim
def cL {st:Yl}:lR X E μ r st (λ_=>.bad):=λ_ _ _ _ _ _ _ _ _ _ _ ho=>ho.elim
end
def iR (n:Nat)(N:Zw)(F:Zi):List D→Res D:=λds=>if ds.length=n then ee (F (aH N ds)) else .bad
section
variable{P:Zv}{w:Zn}{K:Z8}{mg:Z4}{base:Heap}
structure Cal (P:Zv)(w:Zn)(K:Z8)(mg:Z4)(base:Y5)(x:Yq)(k:Nat)(ps:Zw)(sp:Sp):Prop where
 ex:∃f fd,FnOk P w K mg base (CXF P w) k f fd ps sp∧Binds K fd ps []∧mg x=some (.ref f)∧W.keepIn K (.ref f)=true
structure Sta (K:Z8)(mg:Z4)(x:Yq)(st:Yl)(ps:Zw):Prop where
 ex:∃f fd,Fun K x x st f fd∧Binds K fd ps []∧mg x=some (.ref f)∧W.keepIn K (.ref f)=true
def Sta.cal {st:Yl}{N ps:Zw}{k r n:Nat}{F:Zi}(S:Sta K mg x st ps)(sc:FnScope N ps (ai st))(μ:Z0)(hμ:∀i,i<ps.length→μ.getD i 0=0)(hn:ps.length=n)(hbody:∀(f:Zz) (cdv:Zc) (A:Zl) (outer:Yx) (s:Z3) (H:Hp) (E:XK),Room k (A.deeper (envOfC x (ai st) s.heap.objs.size f cdv))→
   uD (xf P w K mg base N x (ai st) f cdv A outer s H E) E μ r (cM st) F):Cal P w K mg base x (k+1) ps (freshSp K r (iR n N F)):=by
 obtain⟨f,fd,hf,hb,hm,hk⟩:=S.ex;refine⟨f,fd,hf.fresh sc μ hμ (λds h=>?_) (λcdv A outer s H E hr=>⟨F,hbody f cdv A outer s H E hr,λds h=>?_⟩),hb,hm,hk⟩
 ·unfold iR at h;split at h
  ·rename_i e;rw[e,hn]
  ·exact absurd rfl h
 ·unfold iR at h ⊢;split at h
  ·rename_i e;rw[Yj e]
  ·exact absurd rfl h
end
section
variable{X:Cx}{E:XK}{n:Nat}
def ko {k j:Nat}{ps:Zw}{m:Zs}{p pos:Yn}{e:Y1}{es:Zd}{fs:Z6}(C:Cal X.prog X.w X.K X.mg X.base x k ps (freshSp X.K n m))(hr:Room j X.A)(ha:lP X E (e::es) fs) (hx:cQ (CXF X.prog X.w) X E:=by exact iL λ_ _ _ h=>h) (hkj:k≤j:=by decide) (hg:Gl X x:=by rfl) (hdb:zQ1 x:=by decide) (he:zQ2 X e es:=by rfl) (hpl:(backTo pos (starEach es X.env)).any (·.1)=false:=by rfl) :
  PN X E n (.Call (.Name x p) (e::es) [] pos) (bq fs m):=by
 obtain⟨f,fd,F,hb,hm,hk⟩:=C.ex;exact Bh F (hr.mono hkj) hg hm hk hb hx ha hdb he hpl
def aI {k j:Nat}{ps:Zw}{m:Zs}{p pos:Yn}{e:Y1}{es:Zd}{fs:Z6}(C:Cal X.prog X.w X.K X.mg X.base x k ps (freshSp X.K n m))(hr:Room j X.A)(ha:lP X E (e::es) fs) (hx:cQ (CXF X.prog X.w) X E:=by exact iL λ_ _ _ h=>h) (hkj:k≤j:=by decide) (hg:Gl X x:=by rfl) (hdb:zQ1 x:=by decide) (he:zQ2 X e es:=by rfl) (hpl:(backTo pos (starEach es X.env)).any (·.1)=false:=by rfl) :
  PD X E (.Call (.Name x p) (e::es) [] pos) (bq fs m):=(ko C hr ha hx hkj hg hdb he hpl).pd
end
def fk (so:Yz)(No:Zw)(scope:Yz):List Str→List (Option Nat)→Bool
 |x::N,some k::caps=>decide (scope.names.lookup x=some .free)&&decide (No[k]?=some x)&&(decide (so.names.lookup x=some .cell)||decide (so.names.lookup x=some .free))&&fk so No scope N caps
 |_::N,none::caps=>fk so No scope N caps
 | [],[]=>true
 |_,_=>false
theorem jE {so:Yz}{No:Zw}{scope:Yz}:∀{N:Zw} {caps:List (Option Nat)},fk so No scope N caps=true→caps.length=N.length
 | [],[],_=>rfl
 | [],_::_,h=>by unfold fk at h;cases h
 |_::_,[],h=>by unfold fk at h;cases h
 |x::N,none::caps,h=>by unfold fk at h;rw[length_cons,length_cons,jE h]
 |x::N,some k::caps,h=>by unfold fk at h;rw[and_eq_true]at h;rw[length_cons,length_cons,jE h.2]
theorem jc {so:Yz}{No:Zw}{scope:Yz}:∀{N:Zw} {caps:Zo} {j k:Nat} {x:Str},fk so No scope N caps=true→caps[j]?=some (some k)→N[j]?=some x→scope.names.lookup x=some .free∧No[k]?=some x∧(so.names.lookup x=some .cell∨so.names.lookup x=some .free)
 | [],[],j,k,x,_,h1,h2=>by simp at h1
 | [],_::_,j,k,x,h,h1,h2=>by simp at h2
 |_::_,[],j,k,x,h,h1,h2=>by simp at h1
 |y::N,none::caps,j,k,x,h,h1,h2=>by
  unfold fk at h;cases j with
  |zero=>simp at h1
  |succ j=>exact jc h (by simpa using h1) (by simpa using h2)
 |y::N,some k0::caps,j,k,x,h,h1,h2=>by
  unfold fk at h;rw[and_eq_true,and_eq_true,and_eq_true,or_eq_true]at h;obtain⟨⟨⟨a,b⟩,c⟩,d⟩:=h;cases j with
  |zero=>
   simp at h1 h2;subst h1 h2;exact⟨Zj a,Zj b,c.imp Zj Zj⟩
  |succ j=>exact jc d (by simpa using h1) (by simpa using h2)
def pV (so:Yz)(No:Zw)(scope:Yz)(N:Zw)(caps:Zo):Bool:=
 decide (scope.kind= .function)&&scope.names.all (λy=>decide (scope.names.lookup y.1=some y.2))&&
  scope.names.all (λy=>decide (y.2≠ .free)||(decide (so.names.lookup y.1=some .cell)||decide (so.names.lookup y.1=some .free)))&&decide N.Nodup&&fk so No scope N caps
def a9 {X:Cx}{scope:Yz}{N:Zw}{caps:Zo}(so:Yz)(No:Zw)(hso:X.env.scope=so)(hNo:X.N=No)(chk:pV so No scope N caps=true):CompSc X scope N caps:=by
 unfold pV at chk;simp only[and_eq_true]at chk;obtain⟨⟨⟨⟨a,b⟩,d⟩,e⟩,f⟩:=chk;have b2:∀(y:Str×NameKind) {k:NameKind},y∈scope.names→y.2=k→scope.names.lookup y.1=some k:=λy k J I=>by rw[←I];exact Zj (all_eq_true.mp b y J)
 refine⟨Zj a,λy J I=>b2 y J I,λy J I=>b2 y J I,λy J I=>b2 y J I,λy J I=>?_,Zj e,jE f,λj k x h1 h2=>(jc f h1 h2).1,λj k x h1 h2=>?_⟩
 ·have:=all_eq_true.mp d y J;rw[or_eq_true,or_eq_true]at this;rw[hso]
  rcases this with z|z|z
  ·exact absurd I (Zj z)
  ·exact .inl (Zj z)
  ·exact .inr (Zj z)
 ·obtain⟨_,h3,h4⟩:=jc f h1 h2;rw[hso,hNo];exact⟨h3,h4⟩
abbrev pN:DS→Res (List D):=λ_=>.ok []
abbrev pC (f:Z7)(g:Z6):DS→Res (List D):=λρ=>(f ρ).bind λd=>(g ρ).bind λds=>.ok (d::ds)
abbrev kI (i:Int):DS→Res D:=λ_=>.ok (.int i)
abbrev kB (b:Bool):DS→Res D:=λ_=>.ok (.bl b)
abbrev kS (x:Yq):DS→Res D:=λ_=>.ok (.str x)
abbrev kN:DS→Res D:=λ_=>.ok .non
abbrev c1 (f:Z7)(m:Zs):DS→Res D:=λρ=>(f ρ).bind λa=>m [a]
def mH {X:Cx}{s:Z3}{H:Hp}{so:Yz}{C:Zz}{No:Zw}{ex:Zt}{scope:Yz}{N:Zw}{caps:Zo}(chk:pV so No scope N caps=true):CompSc (X.comp s H so C No ex) scope N caps:=by
 have S:CompSc {X with env:={X.env with scope:=so},N:=No} scope N caps:=a9 so No rfl rfl chk
 have up:∀{x:Str},so.names.lookup x=some .cell∨so.names.lookup x=some .free→(relabel so X.env).names.lookup x=some .cell∨(relabel so X.env).names.lookup x=some .free:=λh=>h.elim (λz=>.inl (il z)) λz=>im z;exact⟨S.kind,S.freek,S.cellk,S.names,λy hy hk=>up (S.free y hy hk),S.nd,S.len,S.capf,λj k x h1 h2=>⟨(S.cap j k x h1 h2).1,up (S.cap j k x h1 h2).2⟩⟩
section
variable{X:Cx}{E:XK}{μ:Z0}{r n:Nat}
def DZ {st:Yl}{i:Nat}{f:Z7}(h:∃te,PS X st (sN te (cn i))∧TN X.K E n f te)(hi:X.N[i]?=some x)(hm:μ.getD i 0=0):lR X E μ r st (aQ i (bS μ f)):=
 let ⟨_,h1,h2⟩:=h;Bf hi h1 h2.freeze hm
def B8 {st:Yl}{i:Nat}{f:Z7}(h:∃te,PS X st (sN te (cn i))∧TN X.K E n f te)(hi:X.N[i]?=some x):lR X E [] r st (aQ i f):=by
 have:=DZ (μ:=[]) (r:=r) h hi rfl;unfold bS at this;simp only[j4]at this;exact this
abbrev sL (f:Z7):DS→Res (List D):=λρ=>(f ρ).bind zm
abbrev sT (f:Z7):DS→Res (List D):=λρ=>(f ρ).bind Eh
abbrev sR1 (fs:Z6):DS→Res (List D):=λρ=>(fs ρ).bind nI
abbrev sR2 (fs:Z6):DS→Res (List D):=λρ=>(fs ρ).bind zb
abbrev sE (fs:Z6):DS→Res (List D):=λρ=>(fs ρ).bind rD
abbrev sZ (fs:Z6):DS→Res (List D):=λρ=>(fs ρ).bind uz
abbrev oI (f:Z7):DS→Res (Option Int):=λρ=>(f ρ).bind FP
abbrev oN:DS→Res (Option Int):=λ_=>.ok none
abbrev tR (f:Z7):DS→Res Bool:=λρ=>(f ρ).bind Ee
abbrev nG (f:Z7):DS→Res D:=λρ=>(f ρ).bind Ds
abbrev yes:DS→Res Bool:=λ_=>.ok true
abbrev bad1:DS→Out:=λ_=>.bad
abbrev nxt:DS→Out:=λρ=>.nx ρ
abbrev ye (f:Z7):DS→Res (List D):=λρ=>(f ρ).bind λd=>.ok [d]
end
structure CalM (P:Zv)(w:Zn)(K:Z8)(mg:Z4)(base:Y5)(C:Zz)(m:Yq)(k:Nat)(g:Zs):Prop where
 cl:Cls K C
 ex:∃f fd,Meth K C m f∧FnOk P w K mg base (CXF P w) k f fd ["self"] (pureSp K g)∧Binds K fd ["self"] []
structure CalI (P:Zv)(w:Zn)(K:Z8)(mg:Z4)(base:Y5)(x:Yq)(C:Zz)(k:Nat)(ps:Zw)(m:Zs):Prop where
 of:Cf C m
 mgx:mg x=some (.ref C)
 ex:∃f fd,Mk K C f∧FnOk P w K mg base (CXF P w) k f fd ps (qo K C m)∧Binds K fd ps []
section
variable{X:Cx}{E:XK}
def yC {pl:Sem Bool}{k j:Nat}{C:Zz}{g:Zs}{apos pos:Yn}{fo:Z7}(M:CalM X.prog X.w X.K X.mg X.base C m k g)(hr:Room j X.A)(hoo:PD X E o fo)(hx:cQ (CXF X.prog X.w) X E:=by exact iL λ_ _ _ h=>h) (hkj:k≤j:=by decide)(ht:eval (.Call (.Attribute o m apos) [] [] pos) X.env=(do
   let ov ←eval o X.env
   standAt apos.atName
   let (f,first) ←holding [ov] (getMethod ov m pl)
   callWith pos f first (backTo pos (starEach [] X.env)) (backToKw pos (keywordEach [] X.env))):=by rfl):PD X E (.Call (.Attribute o m apos) [] [] pos) (lJ C m fo g):=by
 obtain⟨f,fd,hm,F,hb⟩:=M.ex;exact Fg hoo M.cl hm F (hr.mono hkj) hb hx ht
def Fh {k j:Nat}{C:Zz}{ps:Zw}{m:Zs}{p pos:Yn}{fs:Z6}(M:CalI X.prog X.w X.K X.mg X.base x C k ps m)(hr:Room j X.A)(ha:lP X E (e::es) fs)(hx:cQ (CXF X.prog X.w) X E:=by exact iL λ_ _ _ h=>h) (hkj:k+1≤j:=by decide) (hg:Gl X x:=by rfl) (hdb:zQ1 x:=by decide)(he:zQ2 X e es:=by rfl) (hpl:(backTo pos (starEach es X.env)).any (·.1)=false:=by rfl):PD X E (.Call (.Name x p) (e::es) [] pos) (bq fs m):=by
 obtain⟨f,fd,mk,F,hb⟩:=M.ex;exact A3 mk F M.of (hr.mono hkj) hg M.mgx hb hx ha λt ht=>A8 mk F (hr.mono hkj) hg M.mgx hb .nil hx ht hdb he hpl
end
def BK {i:Nat}{ρ:DS}:ab i ρ≠ .exc c:=by
 unfold ab;split <;> intro h <;> cases h
def qq {a b:D}:aJ a b≠ .exc c:=by
 unfold aJ
 repeat' split
 all_goals (intro h;cases h)
section
variable{X:Cx}{E:XK}
end
def vA (K:Z8):Sp:=λvs H Q _=>∃(ad:Zz) (sc:List Int),vs=[.ref ad]∧sc.length≤63∧f_ K H ad (sc.map V.int)∧∀H',Q (.bl true) H'
section
variable{P:Zv}{w:Zn}{K:Z8}{mg:Z4}{base:Y5}{r:Nat}
def AX {k:Nat}{fd:Y9}{m:Zs}(F:FnOk P w K mg base (CXF P w) k f fd ["script"] (freshSp K 0 m))(h:∀ns:List Int,ns.length≤63→m [.scr ns]= .ok (.bl true)):FnOk P w K mg base (CXF P w) k f fd ["script"] (vA K):=
 F.imp λvs H Q E hZ173=>by
  obtain⟨ad,sc,e,hl,sq,q⟩:=hZ173;subst e;refine⟨[.scr sc],H,.refl _,.cons (by unfold Rep;exact⟨ad,rfl,sq⟩) .nil,by rw[h sc hl];trivial,λd ed v G' H' S _ o _=>?_⟩;rw[h sc hl]at ed;cases ed;have o2:=o.2;rw[rep_bl]at o2;rw[o2];exact q H'
def Fun.freshM {st:Yl}{fd:Y9}{N ps:Zw}{k n:Nat}{F:Zi}(Fn:Fun K x qual st f fd)(sc:FnScope N ps (ai st))(μ:Z0)(hμ:∀i,i<ps.length→μ.getD i 0=0)(hn:ps.length=n)(hbody:∀(cdv:Zc) (A:Zl) (outer:Yx) (s:Z3) (H:Hp) (E:XK),Room k (A.deeper (envOfC qual (ai st) s.heap.objs.size f cdv))→
   uD (xf P w K mg base N qual (ai st) f cdv A outer s H E) E μ r (cM st) F):FnOk P w K mg base (CXF P w) (k+1) f fd ps (freshSp K r (iR n N F)):=by
 refine Fn.fresh sc μ hμ (λds h=>?_) (λcdv A outer s H E hr=>⟨F,hbody cdv A outer s H E hr,λds h=>?_⟩)
 ·unfold iR at h;split at h
  ·rename_i e;rw[e,hn]
  ·exact absurd rfl h
 ·unfold iR at h ⊢;split at h
  ·rename_i e;rw[Yj e]
  ·exact absurd rfl h
end
def m5 {K:Z8}:W.kitOne K t t=some true:=by
 unfold W.kitOne;rw[Yj (beq_iff_eq.mpr rfl)]
def Dg {K:Z8}:W.kitOne K (.type "int") (.type "bool")=some false:=by
 unfold W.kitOne;rw[Yi (by decide +kernel)];unfold W.kitCls;dsimp only;rw[Yj (by decide +kernel)];show Option.map (λx=>x.contains (Value.type "bool")) (fastBuiltinMro "int")=some false;decide +kernel
def vR {P:Zv}{w:Zn}{H:Hp}{s:Z3}{s':Z3}(h:CXF P w [] H s (λ_ _ _=>False) e s'):False:=by
 obtain⟨_,_,_,_,_,_,_,_,_,_,_,_,_,_,q⟩:=h;exact q
def yh (k:Nat){l:W.OpenLaw}{q:Zv}{loose:Zw}{XP:Yo}{YP:World→Heap→Prop}{d:DefRec}{K:Params→W.Frag}(hr:Room k callerA)(hn:l.most=some 63)(hdf:d.params.defaults=[])(hY:∀(w:Zn) (h:Heap),YP w h→(K w.params).In h)(F:∀(w:Zn) (mg:Z4) (fa:Zz) (h:Heap),(K w.params).In h→h.Ns mainGlobals mg→mg d.name=some (.ref fa)→
   ∃fd:FuncData,(∀(s:Z3) (u:Value),BindsTo s fd ⟨[u],[]⟩ [("script",u)])∧∀base:Heap,(K w.params).In base→base.Ns mainGlobals mg→FnOk l.prog w (K w.params) mg base (CXF l.prog w) k fa fd ["script"] (vA (K w.params))) :
  W.WalkO q loose XP YP l.row.toRowW d [] (λf vs=>PySem.call f vs):=
 BL (n:=63) (k:=k) (x:= "script") (CX:=λw=>CXF l.prog w) (sp:=λw=>vA (K w.params)) hn (by decide) hdf hr hY F (λ_ _ a ns hl _ hS=>⟨a,ns,rfl,hl,hS,λ_=>rfl⟩) λ_ _ _ _ _ z=>vR z
end L2
namespace L2
open PySem
section
variable{α:Type}{ρ ρ' ρ1:DS}{μ:Z0}{n j k m:Nat}{f fi':Z7}{fc:Zq}{F R:Zi}{fi:Z6}{asg:Zb}{o:Y0}{d e:D}{ds l row:List D}
def EE:bS μ f ρ=f (h_ μ ρ):=id rfl
def CM:we μ fi ρ=fi (h_ μ ρ):=id rfl
def BT:jS n f ρ=(f ρ).bind λd=>if b_ n d=true then .ok d else .bad:=id rfl
def CI:h_ (0::μ) (o::ρ)=o::h_ μ ρ:=by unfold h_;rw[List.mapIdx_cons];rfl
def CK:h_ ((n+1)::μ) (o::ρ)=none::h_ μ ρ:=by unfold h_;rw[List.mapIdx_cons];rfl
def CJ:h_ μ []=[]:=id rfl
def hV:cK fi asg F ρ=(fi ρ).out λds=>ci asg F ds ρ:=id rfl
def xD:ci asg F [] ρ= .nx ρ:=id rfl
def hZ (h1:asg d ρ=some ρ1)(h2:F ρ1= .nx ρ'):ci asg F (d::ds) ρ=ci asg F ds ρ':=by
 conv=>lhs;unfold ci
 rw[h1];dsimp only;rw[h2]
theorem mU (I:List D→DS→Prop)(step:∀d ds ρ,I (d::ds) ρ→∃ρ1 ρ',asg d ρ=some ρ1∧F ρ1= .nx ρ'∧I ds ρ'):∀ds ρ,I ds ρ→∃ρ',ci asg F ds ρ= .nx ρ'∧I [] ρ'
 | [],ρ,h=>⟨ρ,rfl,h⟩
 |d::ds,ρ,h=>by
  obtain⟨ρ1,ρ',h1,h2,h3⟩:=step d ds ρ h;obtain⟨ρ2,h4,h5⟩:=mU I step ds ρ' h3;exact⟨ρ2,(hZ h1 h2).trans h4,h5⟩
def gk {x:Res D}(I:List D→DS→Prop)(h:I ds ρ)(step:∀d ds ρ,I (d::ds) ρ→∃ρ1 ρ',asg d ρ=some ρ1∧F ρ1= .nx ρ'∧I ds ρ')(fin:∀ρ',I [] ρ'→ee (R ρ')=x):ee ((ci asg F ds ρ).then R)=x:=by
 obtain⟨ρ',e,h'⟩:=mU I step ds ρ h;rw[e];exact fin ρ' h'
def wc {P:D→Prop}(I:List D→DS→Prop)(h:I ds ρ)(step:∀d ds ρ,I (d::ds) ρ→∃ρ1 ρ',asg d ρ=some ρ1∧F ρ1= .nx ρ'∧I ds ρ')(fin:∀ρ',I [] ρ'→∃x,ee (R ρ')= .ok x∧P x):∃x,ee ((ci asg F ds ρ).then R)= .ok x∧P x:=by
 obtain⟨ρ',e,h'⟩:=mU I step ds ρ h;rw[e];exact fin ρ' h'
def ww {l:Yv}:b_ 1 (.lst (l.map λt=>.tup (t.map D.int)))=true:=by
 unfold b_;rw[all_eq_true];intro d hd;obtain⟨t,_,rfl⟩:=mem_map.mp hd;exact fu t
def iN {i:Int}:b_ 0 (.int i)=true:=by unfold b_ flat;rfl
theorem iS {st:List α→DS→Prop}{c:α→D}:∀(xs pre:List α) (ρ:DS),st pre ρ→(∀pre' x post,pre ++ xs=pre' ++ x::post→∀ρ,st pre' ρ→∃ρ1,asg (c x) ρ=some ρ1∧∃ρ',F ρ1= .nx ρ'∧st (pre' ++ [x]) ρ')→∃ρ',ci asg F (xs.map c) ρ= .nx ρ'∧st (pre ++ xs) ρ'
 | [],pre,ρ,h,_=>⟨ρ,rfl,by rw[append_nil];exact h⟩
 |x::xs,pre,ρ,h,step=>by
  obtain⟨ρ1,h1,ρ',h2,h3⟩:=step pre x xs rfl ρ h;obtain⟨ρ2,h4,h5⟩:=iS xs (pre ++ [x]) ρ' h3 λpre' y post e=>step pre' y post (by rw[←e,append_assoc];rfl);refine⟨ρ2,(hZ h1 h2).trans h4,?_⟩;rw[append_assoc]at h5;exact h5
def i3 {x:Res D}{xs:List α}{c:α→D}(st:List α→DS→Prop)(h:st [] ρ)(step:∀pre y post,xs=pre ++ y::post→∀ρ,st pre ρ→∃ρ1,asg (c y) ρ=some ρ1∧∃ρ',F ρ1= .nx ρ'∧st (pre ++ [y]) ρ')(fin:∀ρ',st xs ρ'→ee (R ρ')=x):ee ((ci asg F (xs.map c) ρ).then R)=x:=by
 obtain⟨ρ',e,h'⟩:=iS (asg:=asg) (F:=F) (c:=c) xs [] ρ h step;rw[e];exact fin ρ' h'
def wM {P:DS→Prop}{xs:List α}{c:α→D}(st:List α→DS→Prop)(h:st [] ρ)(step:∀pre y post,xs=pre ++ y::post→∀ρ,st pre ρ→∃ρ1,asg (c y) ρ=some ρ1∧∃ρ',F ρ1= .nx ρ'∧st (pre ++ [y]) ρ')(fin:∀ρ',st xs ρ'→∃ρ'',R ρ'= .nx ρ''∧P ρ''):∃ρ'',(ci asg F (xs.map c) ρ).then R= .nx ρ''∧P ρ'':=by
 obtain⟨ρ',e,h'⟩:=iS (asg:=asg) (F:=F) (c:=c) xs [] ρ h step;rw[e];exact fin ρ' h'
def mf {P:DS→Prop}{xs:List α}{c:α→D}(st:List α→DS→Prop)(h:st [] ρ)(step:∀pre y post,xs=pre ++ y::post→∀ρ,st pre ρ→∃ρ1,asg (c y) ρ=some ρ1∧∃ρ',F ρ1= .nx ρ'∧st (pre ++ [y]) ρ')(fin:∀ρ',st xs ρ'→P ρ'):∃ρ'',ci asg F (xs.map c) ρ= .nx ρ''∧P ρ'':=by
 obtain⟨ρ',e,h'⟩:=iS (asg:=asg) (F:=F) (c:=c) xs [] ρ h step;exact⟨ρ',e,fin ρ' h'⟩
theorem iC (I:Nat→DS→Prop)(Dn:DS→Prop)(h:∀n ρ,I n ρ→(fc ρ= .ok false∧Dn ρ)∨(fc ρ= .ok true∧∃m ρ',n=m+1∧F ρ= .nx ρ'∧I m ρ')):∀(n k:Nat) (ρ:DS),n<k→I n ρ→∃ρ',b8 fc F k ρ= .nx ρ'∧Dn ρ'
 |n,k+1,ρ,hk,hI=>by
  rcases h n ρ hI with ⟨h1,h2⟩|⟨h1,m,ρ',rfl,h2,h3⟩
  ·refine⟨ρ,?_,h2⟩
   conv=>lhs;unfold b8
   rw[h1];rfl
  ·obtain⟨ρ2,h4,h5⟩:=iC I Dn h m k ρ' (by omega) h3;refine⟨ρ2,?_,h5⟩;rw[←h4]
   conv=>lhs;unfold b8
   rw[h1,aU,Yj rfl,h2]
def sW {x:Res D}(I:Nat→DS→Prop)(Dn:DS→Prop)(n:Nat)(hn:n<k)(h0:I n ρ)(h:∀n ρ,I n ρ→(fc ρ= .ok false∧Dn ρ)∨(fc ρ= .ok true∧∃m ρ',n=m+1∧F ρ= .nx ρ'∧I m ρ'))(fin:∀ρ',Dn ρ'→ee (R ρ')=x):ee ((b8 fc F k ρ).then R)=x:=by
 obtain⟨ρ',e,h'⟩:=iC I Dn h n k ρ hn h0;rw[e];exact fin ρ' h'
theorem pe {c:α→D}:∀(l:List α) (n:Nat),b7 n (l.map c)=(l.zipIdx n).map λq=>.tup [.int (q.2:Int),c q.1]
 | [],n=>rfl
 |x::l,n=>by
  rw[map_cons,List.zipIdx_cons,map_cons];unfold b7;rw[pe l (n+1)]
def jf {c:α→D}{l:List α}:rD [.lst (l.map c)]= .ok (l.zipIdx.map λq=>.tup [.int (q.2:Int),c q.1]):=by
 unfold rD;dsimp only;rw[pe]
theorem vH {β:Type}{c:α→D}{c':β→D}:∀(l:List α) (l':List β),jo (l.map c) (l'.map c')=(l.zip l').map λq=>.tup [c q.1,c' q.2]
 | [],_=>by unfold jo;rfl
 |_::_,[]=>by unfold jo;rfl
 |a::l,b::l'=>by
  rw[map_cons,map_cons,List.zip_cons_cons,map_cons];unfold jo;rw[vH l l']
def xK {β:Type}{c:α→D}{c':β→D}{l:List α}{l':List β}:uz [.lst (l.map c),.lst (l'.map c')]= .ok ((l.zip l').map λq=>.tup [c q.1,c' q.2]):=by
 unfold uz;dsimp only;rw[vH]
def vF (h:ab j ρ= .ok d):ρ[j]?=some (some d):=by
 unfold ab at h;split at h
 ·rename_i x e;cases h;exact e
 ·cases h
def cv (h:n≤100000):aG n=true:=Zk h
def qd (h:ab j ρ= .ok (.lst l))(hf:f ρ= .ok d)(hl:l.length≤100000):jz j f ρ= .nx (ρ.set j (some (.lst (l ++ [d])))):=by
 unfold jz;rw[vF h];dsimp only;rw[hf,aU,Yj (cv hl)]
def uZ (h:m<n):oU n (m:Int)=some m:=by
 unfold oU;rw[Yj (by omega),Yj (by omega)];simp
def At (h:ab j ρ= .ok (.lst l))(hf:f ρ= .ok d)(hi:fi' ρ= .ok (.int m))(hm:m<l.length):uo j fi' f ρ= .nx (ρ.set j (some (.lst (l.set m d)))):=by
 unfold uo;rw[vF h];dsimp only;rw[hf,aU,hi,aU];unfold qM;dsimp only;rw[uZ hm]
def fq {fe:Z7}{ft:Zq}{caps:Zo}{xs:List α}{c:α→D}{p:α→Bool}{g:α→D}(hi:fi ρ= .ok (xs.map c))(hl:xs.length≤100000)(h:∀x∈xs,∃ρ',asg (c x) (d9 caps ρ)=some ρ'∧ft ρ'= .ok (p x)∧(p x=true→fe ρ'= .ok (g x))):aR fi caps asg ft fe ρ= .ok (.lst ((xs.filter p).map g)):=by
 unfold aR;rw[hi,av,Yj (cv (by rw[length_map];exact hl))];have go:∀ys:List α,(∀x∈ys,∃ρ',asg (c x) (d9 caps ρ)=some ρ'∧ft ρ'= .ok (p x)∧(p x=true→fe ρ'= .ok (g x)))→
   bA (nW asg (d9 caps ρ) ft) (nW asg (d9 caps ρ) fe) (ys.map c)= .ok ((ys.filter p).map g):=by
  intro ys
  induction ys with
  |nil=>intro _;rfl
  |cons y ys ih=>
   intro h;obtain⟨ρ',h1,h2,h3⟩:=h y (mem_cons_self ..);have ih:=ih λx hx=>h x (cN hx);rw[map_cons];unfold bA;have e1:nW asg (d9 caps ρ) ft (c y)= .ok (p y):=by unfold nW;rw[h1];exact h2
   rw[e1];cases q:p y with
   |true=>
    dsimp only;have e2:nW asg (d9 caps ρ) fe (c y)= .ok (g y):=by unfold nW;rw[h1];exact h3 q
    rw[e2];dsimp only;rw[ih,av,List.filter_cons_of_pos q];rfl
   |false=>
    dsimp only;rw[ih,List.filter_cons_of_neg (by rw[q];exact Bool.false_ne_true)]
 rw[go xs h,av]
def br {fe:Z7}{caps:Zo}{xs:List α}{c:α→D}{g:α→D}(hi:fi ρ= .ok (xs.map c))(hl:xs.length≤100000)(h:∀x∈xs,∃ρ',asg (c x) (d9 caps ρ)=some ρ'∧fe ρ'= .ok (g x)):aR fi caps asg yes fe ρ= .ok (.lst (xs.map g)):=by
 have:=fq (p:=λ_=>true) (ft:=yes) hi hl λx hx=>(h x hx).imp λρ' h=>⟨h.1,rfl,λ_=>h.2⟩;rw[List.filter_eq_self.mpr λ_ _=>rfl]at this;exact this
def bO {N:Zw}(h:ds.length=n):iR n N F ds=ee (F (aH N ds)):=Yj h
def bT {g:α→D}{l:List α}{v:α}{i:Nat}(h:l[i]?=some v):aJ (.lst (l.map g)) (.int i)= .ok (g v):=qf (uG (by rw[getElem?_map,h];rfl))
def cC {g:α→D}{l:List α}:aY [.lst (l.map g)]= .ok (.int l.length):=by rw[uO,length_map]
def yr {a:Int}{ns:Z2}:qz [.lst ((a::ns).map D.int)]= .ok (.int (k9 (a::ns))):=by unfold qz;dsimp only;rw[fJ]
def Bt {n:Nat}:nJ 0 n=(List.range n).map λ(i:Nat)=>D.int (i:Int):=by
 unfold nJ;refine map_congr_left λi _=>?_;rw[Int.zero_add]
def cm {n:Nat}(h:n<1000000):nI [.int (n:Int)]= .ok ((List.range n).map λ(i:Nat)=>D.int (i:Int)):=by
 unfold nI;dsimp only;have:cR (n:Int)=true:=by unfold cR;rw[and_eq_true,decide_eq_true_eq,decide_eq_true_eq];omega
 rw[Yj this,toNat_natCast,Bt]
def qh {a b:Int}(h0: -1000000≤a)(h1:a<1000000)(h2: -1000000≤b)(h3:b<1000000):zb [.int a,.int b]= .ok (nJ a (b-a).toNat):=by
 unfold zb;dsimp only;have:(cR a&&cR b)=true:=by unfold cR;simp only[and_eq_true,decide_eq_true_eq];omega
 rw[Yj this]
def qg {ns:Z2}:aY [.scr ns]= .ok (.int ns.length):=id rfl
def CO {ns:Z2}{i n:Int}(h:atI ns i=some n):aJ (.scr ns) (.int i)= .ok (.int n):=by unfold aJ;dsimp only;rw[h]
def j0 {i j:Int}(h1: -(2 ^ 64)<j)(h2:j<2 ^ 64):fy (.int i) (.int j)= .ok (.int (i*j)):=by
 unfold fy B5;rw[An h1 h2]
def jZ {i j:Int}(h1: -(2 ^ 64)<i)(h2:i<2 ^ 64):fy (.int i) (.int j)= .ok (.int (i*j)):=by
 unfold fy B5;rw[Am h1 h2]
def cellOf (ns:Z2)(k:Int):Int:=if ns.length=0 then 7 else ns.getD (k % ns.length).toNat 0
def nO (ns:Z2)(k:Int):Int:=(cellOf ns k*48271+(k+1)*7919+ns.length) % 2147483647
def Fs (ns:Z2)(k:Int):Int:=(nO ns k*nO ns k+k*16807+11) % 2147483647
def drawn (ns:Z2)(k many:Int):Int:=Fs ns k*48271 % 2147483647 / 16 % many
def BF {ns:Z2}{k:Int}:0≤nO ns k∧nO ns k<2147483647:=⟨Int.emod_nonneg _ (by decide),Int.emod_lt_of_pos _ (by decide)⟩
def eN {ns:Z2}{k many:Int}(h:0<many):0≤drawn ns k many∧drawn ns k many<many:=⟨Int.emod_nonneg _ (by omega),Int.emod_lt_of_pos _ h⟩
def z_ {ns:Z2}{k:Int}(hz:ns.length≠0):atI ns (k % (ns.length:Int))=some (cellOf ns k):=by
 have hm0:0≤k % (ns.length:Int):=Int.emod_nonneg _ (by omega);have hm1:k % (ns.length:Int)<ns.length:=Int.emod_lt_of_pos _ (by omega);refine jA hm0 ?_;have hlt:(k % (ns.length:Int)).toNat<ns.length:=by omega
 rw[d_ hlt];unfold cellOf;rw[Yi hz];simp[List.getD,d_ hlt]
end
def fY (n:Nat):W.KasT (Array Nat)→Bool
 |.ret p=>decide (p.size=n)&&p.toList.all (λi=>decide (i<n))&&(List.range n).all λi=>p.toList.contains i
 |.ask i j k=>decide (i<n)&&decide (j<n)&&fY n (k true)&&fY n (k false)
theorem jN {n:Nat}{lt:Nat→Nat→Bool}:∀(t:W.KasT (Array Nat)),fY n t=true→∃p,nK n lt t=some p∧p.size=n∧(∀i∈p.toList,i<n)∧∀i,i<n→i∈p.toList
 |.ret p,h=>by
  unfold fY at h;simp only[and_eq_true,decide_eq_true_eq,all_eq_true]at h;refine⟨p,rfl,h.1.1,λi hi=>h.1.2 i hi,λi hi=>?_⟩;have:=h.2 i (mem_range.mpr hi);exact contains_iff_mem.mp this
 |.ask i j k,h=>by
  unfold fY at h;simp only[and_eq_true,decide_eq_true_eq]at h;obtain⟨⟨⟨h1,h2⟩,h3⟩,h4⟩:=h;have e:nK n lt (.ask i j k)=nK n lt (k (lt i j)):=by
   conv=>lhs;unfold nK
   rw[Yj ⟨h1,h2⟩]
  rw[e];cases lt i j with
  |true=>exact jN _ h3
  |false=>exact jN _ h4
def AS:fY 2 (W.kas_sort 2)=true:=by decide +kernel
def AT:fY 3 (W.kas_sort 3)=true:=by decide +kernel
def AU:fY 4 (W.kas_sort 4)=true:=by decide +kernel
def AV:fY 5 (W.kas_sort 5)=true:=by decide +kernel
def t7 {n:Nat}(h2:2≤n)(h5:n≤5):fY n (W.kas_sort n)=true:=by
 rcases (show n=2∨n=3∨n=4∨n=5 by omega) with rfl|rfl|rfl|rfl
 ·exact AS
 ·exact AT
 ·exact AU
 ·exact AV
def wU (l:Yv)(h:l.length≤5)(hne:∀t∈l,t≠[]):∃l':List (List Int),iA [.lst (l.map λt=>.tup (t.map D.int))]= .ok (.lst (l'.map λt=>.tup (t.map D.int)))∧l'.length=l.length∧∀t,t∈l'↔t∈l:=by
 by_cases h2:l.length<2
 ·refine⟨l,?_,rfl,λ_=>Iff.rfl⟩;unfold iA;dsimp only;rw[Yj (by rw[length_map];exact h2)]
 ·obtain⟨p,e,h3,h4,h5⟩:=jN (lt:=λi j=>HT.iE (l.getD i []) (l.getD j [])) _ (t7 (by omega) h);refine⟨p.toList.map λi=>l.getD i [],?_,by rw[length_map,length_toList];exact h3,λt=>?_⟩
  ·unfold iA;dsimp only;rw[Yi (by rw[length_map];exact h2),lx];dsimp only;rw[Yj,e]
   ·dsimp only;rw[Yj,map_map]
    ·rfl
    ·exact⟨h3,all_eq_true.mpr λi hi=>Zk (h4 i hi)⟩
   ·rw[and_eq_true,all_eq_true];refine⟨λt ht=>?_,Zk (by omega)⟩;cases t with
    |nil=>exact absurd rfl (hne [] ht)
    |cons _ _=>rfl
  ·rw[mem_map];constructor
   ·intro hZ25;obtain⟨i,hi,rfl⟩:=hZ25;have hl:=h4 i hi;rw[getD_eq_getElem?_getD,d_ hl];exact getElem_mem hl
   ·intro ht;obtain⟨i,hi,e⟩:=List.getElem_of_mem ht;refine⟨i,h5 i hi,?_⟩;rw[getD_eq_getElem?_getD,d_ hi];exact e
end L2
namespace L2
open PySem PySem.Spec PyProof.Rows
theorem AllW.zero {K:Z8}{G H:Hp}:∀{ds:Zy} {vs:Zu} {S:List Addr},AllW (Ow K G H 0) ds vs S→S=[]∧RepL K G ds vs
 | [],_,_,h=>by rw[h.1,h.2];exact⟨rfl,.nil⟩
 |d::ds,_,_,h=>by
  obtain⟨v,r,A,B,e1,e2,h1,h2⟩:=h;obtain⟨e3,h3⟩:=AllW.zero h2;subst e1 e2 e3;rw[h1.1];exact⟨rfl,.cons h1.2 h3⟩
theorem AllW.of0 {K:Z8}{G H:Hp}:∀{ds:Zy} {vs:List V},RepL K G ds vs→AllW (Ow K G H 0) ds vs []
 | [],_,h=>⟨h.inv0,rfl⟩
 |d::ds,_,h=>by
  obtain⟨v,r,rfl,h1,h2⟩:=h.inv;exact⟨v,r,[],[],rfl,rfl,⟨rfl,h1⟩,AllW.of0 h2⟩
theorem RepL.erase {K:Z8}{G:Hp}:∀{ds:Zy} {vs:Zu} (i:Nat),RepL K G ds vs→RepL K G (ds.eraseIdx i) (vs.eraseIdx i)
 | [],_,i,h=>by rw[h.inv0];exact .nil
 |d::ds,_,0,h=>by
  obtain⟨v,r,rfl,h1,h2⟩:=h.inv;exact h2
 |d::ds,_,i+1,h=>by
  obtain⟨v,r,rfl,h1,h2⟩:=h.inv;exact .cons h1 (RepL.erase i h2)
section
variable{X:Cx}{E:XK}{μ:Z0}{n:Nat}
variable{q:Nat}
def x_ {m:Nat}{k:Int}{t:Nat}(h:aG m=true)(e:oU m k=some t): -(2 ^ 63)≤k∧k<2 ^ 63:=by
 have h7:m≤100000:=Zj h;obtain⟨_,_,h1,h2⟩:=ia e;omega
end
section
variable{X:Cx}{E:XK}{μ:Z0}{n:Nat}
end
def Rw.forget {K:Z8}{μ:Z0}{Ge B G H:Hp}{σ:St}{ρ:DS}{fp:Zg}{i:Nat}{o:Option V}(R:Rw K μ Ge B G H σ ρ fp):Rw K μ Ge B G H (σ.set i o) (ρ.set i none) (λj=>if j=i then [] else fp j):=by
 have L:=R.drop (i:=i);refine⟨L.gh,L.eg,L.bh,L.nw,L.gf,L.ob,L.oc,L.nd,L.dj,λk d e=>?_⟩;obtain⟨v,hv,h⟩:=L.sl k d e;refine⟨v,?_,h⟩;have hk:k≠i:=λz=>by
  subst z;rw[getElem?_set]at e;split at e
  ·split at e <;> cases e
  ·rename_i hne;exact hne rfl
 rw[getElem?_set_ne (Ne.symm hk)];exact hv
section
variable{X:Cx}{E:XK}{μ:Z0}{n:Nat}
end
section
variable{P:Zv}{w:Zn}{K:Z8}{mg:Z4}{base:Heap}
end
section
variable{P:Zv}{w:Zn}{K:Z8}{mg:Z4}{base:Heap}
end
section
variable{X:Cx}{E:XK}{μ:Z0}{r n:Nat}
theorem Ow.up {K:Z8}{G H:Hp}:∀{n:Nat} {d:D} {v:V} {S:List Addr},b_ n d=true→Ow K G H n d v S→Ow K G H (n+1) d v S
 |0,d,v,S,hf,h=>by
  cases d with
  |lst ds=>cases hf
  |dct ks ds=>cases hf
  |tup ds=>exact .inl ⟨hf,h.1,h.2⟩
  |_=>exact⟨hf,h.1,h.2⟩
 |n+1,d,v,S,hf,h=>by
  cases d with
  |lst ds=>
   obtain⟨a,xs,T,e1,e2,e3,h1⟩:=h;unfold b_ at hf;exact⟨a,xs,T,e1,e2,e3,h1.mono λd v A hd _ z=>Ow.up (all_eq_true.mp hf d hd) z⟩
  |dct ks ds=>
   obtain⟨a,xs,T,e1,e2,e4,e3,h1⟩:=h;unfold b_ at hf;exact⟨a,xs,T,e1,e2,e4,e3,h1.mono λd v A hd _ z=>Ow.up (all_eq_true.mp hf d hd) z⟩
  |tup ds=>
   rcases h with h|⟨a,xs,T,e1,e2,e3,e5,h1⟩
   ·exact .inl h
   ·refine .inr ⟨a,xs,T,e1,e2,e3,e5,h1.mono λd v A hd _ z=>Ow.up ?_ z⟩;unfold b_ at hf;rw[or_eq_true]at hf
    rcases hf with y|y
    ·unfold L2.flat at y;exact kZ (jg y hd)
    ·exact all_eq_true.mp y d hd
  |_=>exact h
def PN.up {f:Z7}(h:PN X E n e f):PN X E (n+1) e (jS n f):=by
 intro pins s σ G H ρ I hs hr ho;refine aS (h pins s σ G H ρ I hs hr ho.fst) λu s' hZ174=>?_;obtain⟨d,e,v,G',H',S,I',rv,x,o,w⟩:=hZ174;have k:=ho.snd e (Same.refl H);by_cases hl:b_ n d=true
 ·exact⟨d,al e (Yj hl),v,G',H',S,I',rv,x,o.up hl,w⟩
 ·rw[Yi hl]at k;exact k.elim
inductive tNA (K:Z8)(E:XK)(n:Nat)(f:Z6)(σ:St)(H:Hp)(Q:List V→Hp→Prop):Prop
 |mk (G:Hp) (ρ:DS) (s:Same G H) (r:Ro K G σ ρ) (o:OkR E H (f ρ)) (k:∀ds,f ρ= .ok ds→∀vs G' H' S,Ext G H G' H'→AllW (Ow K G' H' n) ds vs S→New H G' S→Q vs H')
def Et (X:Cx)(E:XK)(n:Nat)(es:Zd)(f:Z6):Prop:=PA X es (tNA X.K E n f)
def qL:Et X E n [] pN:=λpos pins s σ H Q I hZ175=>(by obtain⟨G,ρ,hs,hro,ho,k⟩:=hZ175;exact Calls.spliced_nil ⟨[],H,I,.nil,k [] rfl [] G H [] (.refl hs) ⟨rfl,rfl⟩ .nil⟩)
def kr {f:Z7}{g:Z6}(h:PN X E n e f)(hes:Et X E n es g)(hs:zQ2 X e es:=by rfl):Et X E n (e::es) (pC f g):=by
 intro pos pins s σ H Q I hZ26;obtain⟨G,ρ,hsm,hro,ho,k⟩:=hZ26;refine cf (yL h) hes hs pos pins s σ H Q I ⟨G,ρ,hsm,hro,ho.fst,λd ed v G1 H1 S x1 o w=>⟨G1,ρ,x1.gh,hro.mono x1.gg,(ho.snd ed x1.hh).fst,λds eds vs G2 H2 T x2 os w2=>?_⟩⟩;have hc:∀a∈S,∃u,H1 a=some u∧¬mZ u:=λa ha=>let ⟨u,e,c⟩:=o.cell a ha;⟨u,e,c.nokey⟩
 have w3:=w.step hc x2;exact k (d::ds) (al ed (al eds rfl)) (v::vs) G2 H2 (S ++ T) (x1.trans x2) ⟨v,vs,S,T,rfl,rfl,o.mono x2.gg λa _ u e=>x2.hh a u e,os⟩ (w3.join w2 hc x1.hh)
def Bi {f:Z6}(h:Et X E n es f):PN X E (n+1) (.List es pos) (dl f):=by
 refine .tn (ub h) λσ G H ρ Q hs hro ho k=>⟨G,ρ,hs,hro,ho.fst,λds e vs G1 H1 S x1 os w=>?_⟩;have kk:=ho.snd e x1.hh;by_cases hl:aG ds.length=true
 ·refine⟨by rw[←os.length];exact bG hl,λp hp=>?_⟩;have hpS:p∉S:=λz=>by obtain⟨u,hu,_⟩:=os.has p z;rw[hp]at hu;cases hu
  have gp:G1 p=none:=by
   cases q:G1 p with
   |none=>rfl
   |some u=>rw[x1.gh p u q]at hp;cases hp
  have o1:AllW (Ow X.K G1 (bc H1 p (.lst vs)) n) ds vs S:=os.mono λd v A _ hA z=>z.mono (.refl _) λb hb u e=>by
   have hne:b≠p:=λzz=>hpS (zz ▸ hA b hb);rw[aj hne];exact e
  have w1:New H G1 (p::S):=⟨nodup_cons.mpr ⟨hpS,w.1⟩,λa ha=>by
   rcases mem_cons.mp ha with z|z
   ·subst z;exact⟨x1.hh.free hp,gp⟩
   ·exact w.2 a z⟩
  exact k (.lst ds) (al e (Yj hl)) (.ref p) G1 _ (p::S) (x1.hnew hp _) ⟨p,vs,S,rfl,ao,rfl,o1⟩ w1
 ·rw[Yi hl]at kk;exact kk.elim
def dN {i:Nat}:∀ρ c,ab i ρ≠ .exc c:=λρ c=>BK
end
end L2
namespace L2
open PySem
def r9 {f g:Z7}{o:Y6}(hf:∀ρ c,f ρ≠ .exc c)(hg:∀ρ c,g ρ≠ .exc c)(ho:∀{a b:D} {c:Addr},o a b≠ .exc c):∀ρ c,ac f g o ρ≠ .exc c:=λρ c h=>by
 rw[BU]at h;cases q:f ρ with
 |exc e=>exact hf ρ e q
 |bad=>rw[q]at h;cases h
 |ok a=>
  rw[q,av]at h;cases q2:g ρ with
  |exc e=>exact hg ρ e q2
  |bad=>rw[q2]at h;cases h
  |ok b=>rw[q2,av]at h;exact ho h
def Dv {i:Int}:∀(ρ:DS) (c:Addr),kI i ρ≠ .exc c:=λρ c h=>by cases h
def zS {a b:D}:aO a b≠ .exc c:=by
 unfold aO B5;have h1:∀x y:D,xk x y≠ .exc c:=λx y h=>by
  unfold xk iH at h;split at h
  ·split at h <;> cases h
  ·cases h
 have h2:∀x y:D,xl x y≠ .exc c:=λx y h=>by
  unfold xl at h;split at h
  ·split at h <;> cases h
  ·cases h
 have h3:∀x y:D,vP x y≠ .exc c:=λx y h=>by
  unfold vP at h;split at h
  ·split at h <;> cases h
  ·cases h
 intro h;split at h
 ·split at h
  ·exact h3 _ _ h
  ·exact h2 _ _ h
 ·exact h1 _ _ h
def GB:=And.intro @cr (And.intro @xG (And.intro @EH (And.intro @BU (And.intro @ED (And.intro @CB (And.intro @kR (And.intro @Ay (And.intro @Az (And.intro @As (And.intro @Au (And.intro @av (And.intro @rH (And.intro @aU (And.intro @tK (And.intro @bp (And.intro @tL (And.intro @rJ (And.intro @xF (And.intro @xE (And.intro @vZ (And.intro @uO (And.intro @Ah (And.intro @EI (And.intro @BS (And.intro @EG (And.intro @EF (And.intro @Cz (And.intro @C1 (And.intro @CA (And.intro @EJ (And.intro @CZ (And.intro @Af (And.intro @CH (And.intro @CW (And.intro @CF (And.intro @Ae (And.intro @Ao (And.intro @Al (And.intro @Aj (And.intro @Ai (And.intro @Aw (And.intro @Ak (And.intro @xH (And.intro @C2 (And.intro @CN (And.intro @Ap (And.intro @vX (And.intro @CP (And.intro @CC (And.intro @Ax (And.intro @Ar (And.intro @EK (And.intro @CY (And.intro @Av (And.intro @xI (And.intro @xJ (And.intro @uP (And.intro @uM (And.intro @uN (And.intro @C0 (And.intro @CQ (And.intro @CS (And.intro @CT (And.intro @CU (And.intro @CV (And.intro @qg (And.intro @CG (And.intro @tJ (And.intro @EE (And.intro @CM (And.intro @BT (And.intro @CI (And.intro @CK (And.intro @CJ (And.intro @hV (And.intro @xD (And.intro @mN @j4)))))))))))))))))))))))))))))))))))))))))))))))))))))))))))))))))))))))))))))
def aM:=And.intro GB (And.intro @if_true.{1} (And.intro @if_false.{1} (And.intro @false_eq_true (And.intro @Bool.not_true (And.intro @Bool.not_false (And.intro @Bool.true_and (And.intro @Bool.false_and (And.intro @Bool.true_or (And.intro @Bool.false_or (And.intro @pC.eq_1 (And.intro @pN.eq_1 (And.intro @kI.eq_1 (And.intro @kB.eq_1 (And.intro @kS.eq_1 (And.intro @kN.eq_1 (And.intro @c1.eq_1 (And.intro @sL.eq_1 (And.intro @sT.eq_1 (And.intro @sR1.eq_1 (And.intro @sR2.eq_1 (And.intro @sE.eq_1 (And.intro @sZ.eq_1 (And.intro @oI.eq_1 (And.intro @oN.eq_1 (And.intro @tR.eq_1 (And.intro @nG.eq_1 (And.intro @yes.eq_1 (And.intro @bad1.eq_1 (And.intro @nxt.eq_1 (And.intro @length_map.{0,0} (And.intro @beq_self_eq_true.{0} @bne_self_eq_false.{0})))))))))))))))))))))))))))))))
section
variable{α:Type}{ρ ρ' ρ1:DS}{F R:Zi}{asg:Zb}{d:D}
end
theorem md {n:Nat}{α:Type}{f:α→D}:∀(l:List α),(∀x∈l,a7 n (f x)=true)→plL n (l.map f)=true
 | [],_=>by unfold plL;rfl
 |x::l,h=>by
  rw[map_cons];unfold plL;rw[h x (mem_cons_self ..),md l λy hy=>h y (cN hy)];rfl
def eA {n:Nat}{i:Int}:a7 n (.int i)=true:=by unfold a7;rfl
def li {n:Nat}{α:Type}{f:α→D}{l:List α}(h:∀x∈l,a7 n (f x)=true):a7 (n+1) (.lst (l.map f))=true:=by
 unfold a7;rw[show n+1-1=n from rfl,md l h,Zk (by omega)];rfl
def qA {d:D}(h:a7 20 d=true):lK d d= .ok (.bl false):=by
 unfold lK;rw[Yj ⟨h,h⟩,rF h];rfl
section
variable{ρ:DS}{F:Zi}{fi fa f:Z7}{l row ds:Zy}{j m t n:Nat}{d:D}{N:List Str}
def cH {R:Zi}{x:Res D}(ρ':DS)(h:F ρ= .nx ρ')(hr:ee (R ρ')=x):ee (ax F R ρ)=x:=by
 rw[cr,h];exact hr
def k7 {n:Nat}{α:Type}{f:α→D}{l:List α}(h:∀x∈l,b_ n (f x)=true):b_ (n+1) (.lst (l.map f))=true:=by
 unfold b_;rw[all_eq_true];intro d hd;obtain⟨x,hx,rfl⟩:=mem_map.mp hd;exact h x hx
end
end L2
namespace L2
open PySem PySem.Spec PyProof.Rows
def bF:D→List D
 |.lst l=>l
 |.tup l=>l
 |.dct _ l=>l
 |_=>[]
def eB:D→List D→D
 |.lst _,l=>.lst l
 |.tup _,l=>.tup l
 |.dct ks _,l=>.dct ks l
 |d,_=>d
def oX:HO→List V
 |.lst xs=>xs
 |.tup xs=>xs
 |.dT kvs=>kvs.map (·.2)
 |_=>[]
def bW:List Nat→D→Option D
 | [],d=>some d
 |m::p,d=>match (bF d)[m]? with|some c=>bW p c|none=>none
def bJ:List Nat→D→D→D
 | [],_,e=>e
 |m::p,d,e=>match (bF d)[m]? with|some c=>eB d ((bF d).set m (bJ p c e))|none=>d
def valP (H:Hp):List Nat→V→V→Prop
 | [],v,u=>u=v
 |m::p,v,u=>∃a o w,v= .ref a∧H a=some o∧(oX o)[m]?=some w∧valP H p w u
theorem valP.mono {H H':Hp}(s:Same H H'):∀{p:Z0} {v u:V},valP H p v u→valP H' p v u
 | [],_,_,h=>h
 |_::_,_,_,⟨a,o,w,e,h,k,r⟩=>⟨a,o,w,e,s _ _ h,k,valP.mono s r⟩
theorem valP.one {H:Hp}:∀{p:Z0} {v u u':V},valP H p v u→valP H p v u'→u=u'
 | [],_,_,_,h,h'=>h.trans h'.symm
 |_::_,_,_,_,⟨a,o,w,e,h,k,r⟩,⟨a',o',w',e',h',k',r'⟩=>by
  subst e;cases e';rw[h]at h';cases h';rw[k]at k';cases k';exact valP.one r r'
theorem valP.snoc {H:Hp}{m:Nat}{o:HO}{w:V}(h:H a=some o)(k:(oX o)[m]?=some w):∀{p:Z0} {v:V},valP H p v (.ref a)→valP H (p ++ [m]) v w
 | [],_,e=>⟨a,o,w,e.symm,h,k,rfl⟩
 |_::_,_,⟨a',o',w',e',h',k',r⟩=>⟨a',o',w',e',h',k',valP.snoc h k r⟩
theorem oO {m:Nat}:∀{p:Z0} {d c:D},bW p d=some c→bW (p ++ [m]) d=(bF c)[m]?
 | [],d,c,h=>by
  cases h;show (match (bF d)[m]? with|some c=>bW [] c|none=>none)=_
  cases (bF d)[m]? <;> rfl
 |i::p,d,c,h=>by
  show (match (bF d)[i]? with|some c=>bW (p ++ [m]) c|none=>none)=_
  have h':(match (bF d)[i]? with|some c=>bW p c|none=>none)=some c:=h
  cases q:(bF d)[i]? with
  |none=>rw[q]at h';cases h'
  |some e=>rw[q]at h';exact oO h'
def rK {d c:D}{m:Nat}(h:L2.flat d=true)(e:(bF d)[m]?=some c):L2.flat c=true:=by
 cases d with
 |lst l=>unfold L2.flat at h;cases h
 |dct ks l=>unfold L2.flat at h;cases h
 |tup l=>unfold L2.flat at h;exact jg h (mem_of_getElem? e)
 |_=>simp[bF]at e
theorem mP:∀{p:Z0} {d c:D},L2.flat d=true→bW p d=some c→L2.flat c=true
 | [],d,c,h,e=>by cases e;exact h
 |m::p,d,c,h,e=>by
  have e':(match (bF d)[m]? with|some c=>bW p c|none=>none)=some c:=e
  cases q:(bF d)[m]? with
  |none=>rw[q]at e';cases e'
  |some k=>rw[q]at e';exact mP (rK h q) e'
section
variable{K:Z8}{G H:Hp}
def Ow.kid {n m:Nat}{d c:D}{v:V}{S:Zt}(h:Ow K G H (n+1) d v S)(e:(bF d)[m]?=some c)(hc:L2.flat c=false) :
  ∃a o T,v= .ref a∧H a=some o∧S=a::T∧AllW (Ow K G H n) (bF d) (oX o) T∧∀(H':Hp) l' T',H' a=some o→T'≠[]→AllW (Ow K G H' n) l' (oX o) T'→Ow K G H' (n+1) (eB d l') v (a::T'):=by
 cases d with
 |lst l=>
  obtain⟨a,xs,T,e1,e2,e3,h1⟩:=h;exact⟨a,_,T,e1,e2,e3,h1,λH' l' T' h' _ o=>⟨a,xs,T',e1,h',rfl,o⟩⟩
 |dct ks l=>
  obtain⟨a,xs,T,e1,e2,e4,e3,h1⟩:=h;exact⟨a,_,T,e1,e2,e3,h1,λH' l' T' h' _ o=>⟨a,xs,T',e1,h',e4,rfl,o⟩⟩
 |tup l=>
  rcases h with h|⟨a,xs,T,e1,e2,e3,e5,h1⟩
  ·rw[rK h.1 e]at hc;cases hc
  ·exact⟨a,_,T,e1,e2,e3,h1,λH' l' T' h' n o=>.inr ⟨a,xs,T',e1,h',rfl,n,o⟩⟩
 |_=>simp[bF]at e
def mQ {l:Zy}:L2.flat (.lst l)=false:=by unfold L2.flat;rfl
def xO {ks:List (List bD)}{l:Zy}:L2.flat (.dct ks l)=false:=by unfold L2.flat;rfl
theorem Ow.at:∀{p:Z0} {n:Nat} {d c:D} {v:V} {S:List Addr},Ow K G H (n+p.length) d v S→bW p d=some c→L2.flat c=false→∃u A,valP H p v u∧Ow K G H n c u A
 | [],n,d,c,v,S,h,e,hc=>by cases e;exact⟨v,S,rfl,h⟩
 |m::p,n,d,c,v,S,h,e,hc=>by
  have e':(match (bF d)[m]? with|some c=>bW p c|none=>none)=some c:=e
  cases q:(bF d)[m]? with
  |none=>rw[q]at e';cases e'
  |some k=>
   rw[q]at e';have hk:L2.flat k=false:=by
    cases z:L2.flat k with
    |false=>rfl
    |true=>rw[mP z e']at hc;cases hc
   obtain⟨a,o,T,e1,e2,e3,h1,_⟩:=Ow.kid (n:=n+p.length) h q hk;obtain⟨w,A,L,R,g1,g2,g3,g4⟩:=h1.at q;obtain⟨u,A',h2,h3⟩:=Ow.at g3 e' hc;exact⟨u,A',⟨a,o,w,e1,e2,g1,h2⟩,h3⟩
def kA {α:Type}{l:List α}{m:Nat}{x:α}(h:l[m]?=some x):l.set m x=l:=by
 apply ext_getElem?;intro k;by_cases hk:k=m
 ·subst hk;rw[getElem?_set_self (d8 h).1,h]
 ·rw[getElem?_set_ne (Ne.symm hk)]
theorem Ow.path:∀{p:Z0} {n:Nat} {d:D} {row:Zy} {v:V} {S:List Addr},Ow K G H (n+1+p.length) d v S→bW p d=some (.lst row)→S.Nodup→
  ∃b ys U L R,valP H p v (.ref b)∧H b=some (.lst ys)∧S=L ++ (b::U) ++ R∧AllW (Ow K G H n) row ys U∧
   (∀q t a,p=q ++ t→t≠[]→valP H q v (.ref a)→a≠b)∧
   ∀ys' row' U',AllW (Ow K G (bc H b (.lst ys')) n) row' ys' U'→Ow K G (bc H b (.lst ys')) (n+1+p.length) (bJ p d (.lst row')) v (L ++ (b::U') ++ R)
 | [],n,d,row,v,S,h,e,nd=>by
  cases e;obtain⟨a,xs,T,e1,e2,e3,h1⟩:=h;exact⟨a,xs,T,[],[],e1.symm,e2,by rw[e3];simp,h1,λq t a e hn=>absurd (List.append_eq_nil_iff.mp e.symm).2 hn,λys' row' U' o=>⟨a,ys',U',e1,ao,by simp,o⟩⟩
 |m::p,n,d,row,v,S,h,e,nd=>by
  have e':(match (bF d)[m]? with|some c=>bW p c|none=>none)=some (.lst row):=e
  cases q:(bF d)[m]? with
  |none=>rw[q]at e';cases e'
  |some k=>
   rw[q]at e';have hk:L2.flat k=false:=by
    cases z:L2.flat k with
    |false=>rfl
    |true=>have:=mP z e';rw[mQ]at this;cases this
   obtain⟨a,o,T,e1,e2,e3,h1,back⟩:=Ow.kid (n:=n+1+p.length) h q hk;obtain⟨w,A,L,R,g1,g2,g3,g4⟩:=h1.at q;subst e3;obtain⟨haT,hT⟩:=nodup_cons.mp nd;rw[g2]at hT haT;obtain⟨h2,h3,h4⟩:=nodup_append.mp hT;obtain⟨h5,h6,h7⟩:=nodup_append.mp h2;obtain⟨b,ys,U,L2,R2,k1,k2,k3,k4,k6,k5⟩:=Ow.path g3 e' h6;have hbA:b∈A:=by rw[k3];exact mem_append_left _ (mem_append_right _ (mem_cons_self ..))
   have nb:∀c,c∈L∨c∈R→c≠b:=λc hc z=>by
    subst z
    rcases hc with y|y
    ·exact h7 c y c hbA rfl
    ·exact h4 c (mem_append_right _ hbA) c y rfl
   have hab:a≠b:=λz=>haT (z ▸ mem_append_left _ (mem_append_right _ hbA));refine⟨b,ys,U,a::(L ++ L2),R2 ++ R,⟨a,o,w,e1,e2,g1,k1⟩,k2,by rw[g2,k3];simp[append_assoc],k4,λq t x eq hn hx=>?_,λys' row' U' ou=>?_⟩
   ·cases q with
    |nil=>cases (show V.ref x=v from hx);cases e1;exact hab
    |cons i q=>
     cases eq;obtain⟨a2,o2,w2,z1,z2,z3,z4⟩:=hx;subst e1;cases z1;rw[e2]at z2;cases z2;rw[g1]at z3;cases z3;exact k6 q t x rfl hn z4
   have big:=g4 (Ow K G (bc H b (.lst ys')) (n+1+p.length)) (λd v C hC z=>z.mono (.refl _) λc hc u eu=>by rw[aj (nb c (hC c hc))];exact eu) (bJ p k (.lst row')) w (L2 ++ (b::U') ++ R2) (k5 ys' row' U' ou);rw[kA g1]at big;have fin:=back (bc H b (.lst ys')) ((bF d).set m (bJ p k (.lst row'))) (L ++ (L2 ++ (b::U') ++ R2) ++ R) (by rw[aj hab];exact e2) (by intro z;simp at z) big;have es:bJ (m::p) d (.lst row')=eB d ((bF d).set m (bJ p k (.lst row'))):=by
    show (match (bF d)[m]? with|some c=>eB d ((bF d).set m (bJ p c (.lst row')))|none=>d)=_
    rw[q]
   rw[es];have el:a::(L ++ L2) ++ (b::U') ++ (R2 ++ R)=a::(L ++ (L2 ++ (b::U') ++ R2) ++ R):=by simp[append_assoc]
   rw[el];exact fin
end
section
variable{K:Z8}{μ:Z0}{Ge B G H:Hp}{σ:St}{ρ:DS}{fp:Zg}{j n:Nat}
def Rw.path {p:Z0}{d:D}{row:Zy}(R:Rw K μ Ge B G H σ ρ fp)(hm:μ.getD j 0=n+1+p.length)(hr:ρ[j]?=some (some d))(hp:bW p d=some (.lst row)) :
  ∃v b ys U,σ[j]?=some (some v)∧valP H p v (.ref b)∧H b=some (.lst ys)∧AllW (Ow K G H n) row ys U∧U.Nodup∧b∉U∧b∈fp j∧(∀c∈U,c∈fp j)∧(∀q t a,p=q ++ t→t≠[]→valP H q v (.ref a)→a≠b)∧
   ∀ys' row' U',AllW (Ow K G (bc H b (.lst ys')) n) row' ys' U'→U'.Nodup→(∀c∈U',c∈U∨((G c=none∧B c=none)∧∀i,c∉fp i))→∃fp',Rw K μ Ge B G (bc H b (.lst ys')) σ (ρ.set j (some (bJ p d (.lst row')))) fp':=by
 obtain⟨v,hv,o⟩:=R.sl j d hr;rw[hm]at o;obtain⟨b,ys,U,L,Q,h1,h2,h3,h4,h6,h5⟩:=o.path hp (R.nd j);have nd:=R.nd j;rw[h3]at nd;obtain⟨n1,n2,n3⟩:=nodup_append.mp nd;obtain⟨n4,n5,n6⟩:=nodup_append.mp n1;obtain⟨n7,n8⟩:=nodup_cons.mp n5;have sb:b∈fp j:=by rw[h3];exact mem_append_left _ (mem_append_right _ (mem_cons_self ..))
 have sU:∀c∈U,c∈fp j:=λc m=>by rw[h3];exact mem_append_left _ (mem_append_right _ (cN m))
 have sL:∀c∈L,c∈fp j:=λc m=>by rw[h3];exact mem_append_left _ (mem_append_left _ m)
 have sQ:∀c∈Q,c∈fp j:=λc m=>by rw[h3];exact mem_append_right _ m
 refine⟨v,b,ys,U,hv,h1,h2,h4,n8,n7,sb,sU,h6,λys' row' U' ou nU hU=>?_⟩;have ndm:(L ++ (b::U') ++ Q).Nodup:=lb nd (nodup_cons.mpr ⟨λz=>by
   rcases hU b z with y|y
   ·exact n7 y
   ·exact y.2 j sb,nU⟩) λc m=>by
  rcases mem_cons.mp m with z|z
  ·subst z;exact .inl (mem_cons_self ..)
  ·rcases hU c z with y|y
   ·exact .inl (cN y)
   ·exact .inr ⟨λx=>y.2 j (sL c x),λx=>y.2 j (sQ c x)⟩
 have old:∀c∈L ++ (b::U') ++ Q,c∈fp j∨((G c=none∧B c=none)∧∀i,c∉fp i):=λc m=>by
  rcases mem_append.mp m with z|z
  ·rcases mem_append.mp z with y|y
   ·exact .inl (sL c y)
   ·rcases mem_cons.mp y with x|x
    ·subst x;exact .inl sb
    ·exact(hU c x).imp (sU c) id
  ·exact .inl (sQ c z)
 refine⟨_,R.write (S:=L ++ (b::U') ++ Q) sb hv (by rw[hm];exact h5 ys' row' U' ou) ndm (λc m=>?_) λi hi c m hci=>?_⟩
 ·rcases old c m with y|y
  ·exact⟨R.gf j c y,R.ob j c y⟩
  ·exact y.1
 ·rcases old c m with y|y
  ·exact hi (R.dj i j c hci y)
  ·exact y.2 i hci
end
inductive tAt (K:Z8)(E:XK)(μ:Z0)(j:Nat)(g:Zm)(σ:St)(H:Hp)(Q:VK):Prop
 |mk (Ge B G:Hp) (ρ:DS) (fp:Zg) (R:Rw K μ Ge B G H σ ρ fp) (o:OkR E B (g ρ)) (k:∀p,g ρ= .ok p→∀v0 v G' H',σ[j]?=some (some v0)→valP H' p v0 v→Rw K μ Ge B G' H' σ ρ fp→Same G G'→Same H H'→Q v H')
def zQ (X:Cx)(E:XK)(μ:Z0)(j:Nat)(e:Y1)(g:Zm):Prop:=PE X e (tAt X.K E μ j g)
def nY (j:Nat):DS→Res (List Nat):=λρ=>match ρ[j]? with|some (some _)=>.ok []|_=>.bad
def Eo (ρ:DS)(j:Nat)(p:Z0)(i:D):Res (List Nat):=match ρ[j]? with
 |some (some d)=>(match bW p d with
  |some (.lst l)=>(match i with|.int k=>(match oU l.length k with|some m=>.ok (p ++ [m])|none=>.bad)|_=>.bad)
  |some (.tup l)=>if L2.flat (.tup l)=true then .bad else (match i with|.int k=>(match oU l.length k with|some m=>.ok (p ++ [m])|none=>.bad)|_=>.bad)
  |_=>.bad)
 |_=>.bad
def pS (j n:Nat)(g:Zm)(fi:Z7):DS→Res (List Nat):=λρ=>(g ρ).bind λp=>(fi ρ).bind λi=>if p.length=n then Eo ρ j p i else .bad
section
variable{X:Cx}{E:XK}{μ:Z0}{r n j:Nat}
def kL (hN:X.N[j]?=some x)(hv:tm X.env.scope x)(hd:zQ1 x:=by decide)(hcd:(x==("__classdict__" :Str))=false:=by decide):zQ X E μ j (.Name x px) (nY j):=by
 intro pins s σ H Q I hZ27;obtain⟨Ge,B,G,ρ,fp,R,ho,k⟩:=hZ27;have hs:∃d,ρ[j]?=some (some d):=by
  unfold nY at ho;split at ho
  ·rename_i d q;exact⟨d,q⟩
  ·exact ho.elim
 obtain⟨d,hd'⟩:=hs;obtain⟨v,hv',_⟩:=R.sl j d hd';exact eh hN hv hd hcd pins s σ H Q I ⟨v,hv',k [] (by unfold nY;rw[hd']) v v G H hv' rfl R (.refl _) (.refl _)⟩
def Rw.node {K:Z8}{Ge B G H:Hp}{σ:St}{ρ:DS}{fp:Zg}{p:Z0}{d c:D}{m:Nat}(R:Rw K μ Ge B G H σ ρ fp)(hm:μ.getD j 0=m+p.length)(hr:ρ[j]?=some (some d))(hp:bW p d=some c)(hc:L2.flat c=false){v0 v:V}(hv:σ[j]?=some (some v0))(h:valP H p v0 v):∃A,Ow K G H m c v A:=by
 obtain⟨w,hw,o⟩:=R.sl j d hr;rw[hv]at hw;cases hw;rw[hm]at o;obtain⟨u,A,h1,h2⟩:=o.at hp hc;cases valP.one h h1;exact⟨A,h2⟩
def BQ {g:Zm}{fi:Z7}{m:Nat}(hm:μ.getD j 0=m+1+n)(ho:zQ X E μ j o g)(hi:PD X E i fi)(hpi:pR i:=by intro _ _;rfl):zQ X E μ j (.Subscript o i pos) (pS j n g fi):=by
 intro pins s σ H Q I hZ28;obtain⟨Ge,B,G,ρ,fp,R,hok,k⟩:=hZ28;refine B6 (IxR.or ix_list ix_tup) ho (dP hi) hpi pins s σ H Q I ?_;refine⟨Ge,B,G,ρ,fp,R,hok.fst,λp ep v0 v G1 H1 hv L R1 sg sh=>⟨nX fp G1 H1,ρ,R1.vh,R1.ro,(hok.snd ep (Same.refl B)).fst.le R1.bh,λdi ei vi G3 H3 x3 ri=>?_⟩⟩;have J:=(hok.snd ep (Same.refl B)).snd ei (Same.refl B);by_cases hn:p.length=n
 ·subst hn;rw[Yj rfl]at J;have e0:pS j p.length g fi ρ=Eo ρ j p di:=by unfold pS;rw[ep,av,ei,av,Yj rfl]
  unfold Eo at J;cases hr:ρ[j]? with
  |none=>rw[hr]at J;exact J.elim
  |some od=>
  cases od with
  |none=>rw[hr]at J;exact J.elim
  |some d=>
  rw[hr]at J;dsimp only at J;have fin:∀{l:Zy} {C:Zu} {a:Zz} {ob:HO} {k0:Int} {M:Nat} {w:V},v= .ref a→H1 a=some ob→oX ob=C→C[M]?=some w→Eo ρ j p di= .ok (p ++ [M])→Q w H3:=λ{l C a ob k0 M w} ev eo ek ew ei'=>by
   subst ev ek;exact k (p ++ [M]) (e0.trans ei') v0 w (nV (oa fp) G3) H3 hv ((L.mono x3.hh).snoc (x3.hh _ _ eo) ew) (R1.grow x3) (sg.trans (R1.gg x3)) (sh.trans x3.hh)
  cases hp:bW p d with
  |none=>rw[hp]at J;exact J.elim
  |some c=>
  rw[hp]at J;cases c with
  |lst l=>
   dsimp only at J;cases di with
   |int k0=>
    dsimp only at J;cases q:oU l.length k0 with
    |none=>rw[q]at J;exact J.elim
    |some M=>
     rw[rep_int]at ri;subst ri;obtain⟨A,a,C,T,e1,e2,e3,h1⟩:=R1.node (m:=m+1) hm hr hp mQ hv L;have Y:M<C.length:=by rw[←h1.length];exact(ia q).2.1
     refine .inl ⟨a,C,k0,C[M],e1,rfl,.inl (.inl (x3.hh _ _ e2)),by unfold L2.atI;rw[←h1.length,q];exact d_ Y,fin (l:=l) (k0:=k0) e1 e2 rfl (d_ Y) ?_⟩;unfold Eo;rw[hr];dsimp only;rw[hp];dsimp only;rw[q]
   |_=>exact J.elim
  |tup l=>
   dsimp only at J;by_cases hf:L2.flat (.tup l)=true
   ·rw[Yj hf]at J;exact J.elim
   ·rw[Yi hf]at J;have hf':=Bool.eq_false_iff.mpr hf;cases di with
    |int k0=>
     dsimp only at J;cases q:oU l.length k0 with
     |none=>rw[q]at J;exact J.elim
     |some M=>
      rw[rep_int]at ri;subst ri;obtain⟨A,ow⟩:=R1.node (m:=m+1) hm hr hp hf' hv L
      rcases ow with ow|⟨a,C,T,e1,e2,e3,e5,h1⟩
      ·exact absurd ow.1 hf
      ·have Y:M<C.length:=by rw[←h1.length];exact(ia q).2.1
       refine .inr ⟨a,C,k0,C[M],e1,rfl,.inl (.inl (x3.hh _ _ e2)),by unfold L2.atI;rw[←h1.length,q];exact d_ Y,fin (l:=l) (k0:=k0) e1 e2 rfl (d_ Y) ?_⟩;unfold Eo;rw[hr];dsimp only;rw[hp];dsimp only;rw[Yi hf,q]
    |_=>exact J.elim
  |_=>exact J.elim
 ·rw[Yi hn]at J;exact J.elim
def ku (ρ:DS)(j n:Nat)(p:Z0)(f:List D→Out):Out:=if p.length=n then (match ρ[j]? with
 |some (some t)=>(match bW p t with|some (.lst row)=>f row|_=>.bad)
 |_=>.bad) else .bad
def xp (ρ:DS)(j:Nat)(p:Z0)(row:Zy)(d:D):Out:=match ρ[j]? with
 |some (some t)=>if aG row.length=true then .nx (ρ.set j (some (bJ p t (.lst (row ++ [d]))))) else .bad
 |_=>.bad
def lU (j n:Nat)(g:Zm)(f:Z7):DS→Out:=λρ=>(g ρ).out λp=>(f ρ).out λd=>ku ρ j n p λrow=>xp ρ j p row d
def mh {ρ:DS}{n:Nat}{p:Z0}{f:List D→Out}{B:Hp}(h:OkO E B (ku ρ j n p f)):p.length=n∧∃t row,ρ[j]?=some (some t)∧bW p t=some (.lst row)∧ku ρ j n p f=f row:=by
 unfold ku at h;by_cases hn:p.length=n
 ·rw[Yj hn]at h;refine⟨hn,?_⟩;cases hr:ρ[j]? with
  |none=>rw[hr]at h;exact h.elim
  |some od=>
  cases od with
  |none=>rw[hr]at h;exact h.elim
  |some t=>
  rw[hr]at h;dsimp only at h;cases hp:bW p t with
  |none=>rw[hp]at h;exact h.elim
  |some c=>
  rw[hp]at h;cases c with
  |lst row=>exact⟨t,row,rfl,hp,by unfold ku;rw[Yj hn,hr];dsimp only;rw[hp]⟩
  |_=>exact h.elim
 ·rw[Yi hn]at h;exact h.elim
def qJ {apos cpos pos:Yn}{g:Zm}{f:Z7}{m:Nat}(hm:μ.getD j 0=m+1+n)(hpa:zQ X E μ j o g)(h:PZ X E μ m e f)(hex:∀ρ c,f ρ≠ .exc c)(hs:zQ2 X e []:=by rfl)(hbase:attributeBase o "append" X.env (eval o X.env)=eval o X.env:=by rfl)(hfew:((backTo cpos (starEach [e] X.env)).all (λx=> !x.1)&&(backToKw cpos (keywordEach [] X.env)).all (λx=>x.1.isSome)&&decide (([e].length+([]:List Keyword).length+if ([]:List Keyword).isEmpty=true then 0 else 1)<30))=true:=by rfl)(hline:(apos.endLine==cpos.line)=true:=by rfl)(hsw:swapsWith (.Call (.Attribute o "append" apos) [e] [] cpos) none pos.line X.env=pure false:=by rfl) :
  lR X E μ r (.Expr (.Call (.Attribute o "append" apos) [e] [] cpos) pos) (lU j n g f):=by
 intro pins s σ Ge B G H ρ fp I R ho;have hp:=lM (apos:=apos) (cpos:=cpos) (r:=du) PySem.F.plainAttrs_list PySem.F.slot_list_append PySem.F.type_list_append (show xh X "list.append" du from gz) hpa (cf (sj h) ef hs) hbase hfew hline hs rfl;refine aS (eQ hp hsw pins s σ H {nx:=λσ' H'=>∃Q G' T,lU j n g f ρ= .nx Q∧σ'=σ∧Rw X.K μ Ge B G' H' σ Q T∧Same G G',bk:=λ_ _=>False,ct:=λ_ _=>False,rt:=λ_ _=>False} I ⟨Ge,B,G,ρ,fp,R,ho.res,λp ep v0 v G1 H1 hv hval R1 sg sh=>?_⟩) λfl s1 C=>?_
 ·have k:=ho.res2 ep (Same.refl B);have hfd:∃d,f ρ= .ok d:=by
   cases q:f ρ with
   |ok d=>exact⟨d,rfl⟩
   |exc c=>exact absurd q (hex ρ c)
   |bad=>rw[q]at k;exact k.elim
  obtain⟨d0,P⟩:=hfd;have kk:=k.res2 P (Same.refl B);have e0:lU j n g f ρ=ku ρ j n p λO=>xp ρ j p O d0:=by unfold lU;rw[bN ep,bN P]
  obtain⟨hn,t,O,hr,hg,e1⟩:=mh kk;rw[e1]at kk;subst hn;have e2:xp ρ j p O d0=if aG O.length=true then .nx (ρ.set j (some (bJ p t (.lst (O ++ [d0]))))) else .bad:=by unfold xp;rw[hr]
  rw[e2]at kk;by_cases hc:aG O.length=true
  ·have e3:=(e0.trans e1).trans (e2.trans (Yj hc));obtain⟨v1,b,ys,U,c0,c1,c2,c3,c4,c5,c6,c7,c8,c9⟩:=R1.path hm hr hg;rw[hv]at c0;cases c0;have:=hval.one c1;subst this;refine⟨.inl ⟨rfl,ys,.inl (.inl c2)⟩,?_⟩;refine⟨Ge,B,G1,ρ,fp,R1,by rw[P];trivial,λd ed v G2 H2 S R2 sg2 sh2 o w=>?_⟩;rw[P]at ed;cases ed;refine⟨b,ys,v,rfl,rfl,sh2 _ _ c2,by rw[←c3.length];exact gr hc,?_⟩;obtain⟨v1,b2,ys2,U2,p0,p1,p2,p3,p4,p5,p6,p7,p8,p9⟩:=R2.path hm hr hg;rw[hv]at p0;cases p0;have:=(c1.mono sh2).one p1;cases this;rw[sh2 _ _ c2]at p2;cases p2;have fr:=R2.freshOf w R1;have neU:∀c,c∈U2→c≠b:=λc N z=>p5 (z ▸ N);have neS:∀c,c∈S→c≠b:=λc N z=>(fr c N).2 j (z ▸ p6);obtain⟨T,R3⟩:=p9 (ys ++ [v]) (O ++ [d0]) (U2 ++ S) (.append (p3.mono λd v A _ hA z=>z.mono (.refl _) λc N u e=>by rw[aj (neU c (hA c N))];exact e) (.one (o.mono (.refl _) λc N u e=>by rw[aj (neS c N)];exact e))) (nodup_append.mpr ⟨p4,w.1,λc N c2 hc2 e=>by subst e;exact(fr c hc2).2 j (p7 c N)⟩) (λc N=>(mem_append.mp N).imp id (fr c));exact⟨_,_,T,e3,rfl,R3,sg.trans sg2⟩
  ·rw[Yi hc]at kk;exact kk.elim
 ·cases fl with
  |next=>
   obtain⟨σ',H',I',Q,G',T,e1,e2,R',sg⟩:=C;subst e2;exact⟨Q,_,G',H',T,e1,I',R',sg⟩
  |brk=>obtain⟨_,_,_,C⟩:=C;exact C.elim
  |cont=>obtain⟨_,_,_,C⟩:=C;exact C.elim
  |ret u=>obtain⟨_,_,_,_,_,C⟩:=C;exact C.elim
end
def wj {m:Nat}{p:Z0}{d c:D}(h:(bF d)[m]?=some c):bW (m::p) d=bW p c:=by
 show (match (bF d)[m]? with|some c=>bW p c|none=>none)=_
 rw[h]
def cU {m:Nat}{p:Z0}{d c e:D}(h:(bF d)[m]?=some c):bJ (m::p) d e=eB d ((bF d).set m (bJ p c e)):=by
 show (match (bF d)[m]? with|some c=>eB d ((bF d).set m (bJ p c e))|none=>d)=_
 rw[h]
def j6 {m:Nat}{p:Z0}{d c:D}(h:bW (m::p) d=some c):∃k,(bF d)[m]?=some k∧bW p k=some c:=by
 have h':(match (bF d)[m]? with|some c=>bW p c|none=>none)=some c:=h
 cases q:(bF d)[m]? with
 |none=>rw[q]at h';cases h'
 |some k=>rw[q]at h';exact⟨k,rfl,h'⟩
def qv {d:D}{l:Zy}{m:Nat}{c:D}(h:(bF d)[m]?=some c):bF (eB d l)=l:=by
 cases d with
 |lst _=>rfl
 |tup _=>rfl
 |dct _ _=>rfl
 |_=>simp[bF]at h
def Fq {d:D}{l l':Zy}:eB (eB d l) l'=eB d l':=by
 cases d <;> rfl
def Br {d:D}:eB d (bF d)=d:=by
 cases d <;> rfl
theorem pq:∀{p:Z0} {d c:D},bW p d=some c→bJ p d c=d
 | [],d,c,h=>by cases h;rfl
 |m::p,d,c,h=>by
  obtain⟨k,h1,h2⟩:=j6 h;rw[cU h1,pq h2,kA h1,Br]
theorem oM {e:D}:∀{p:Z0} {d c:D},bW p d=some c→bW p (bJ p d e)=some e
 | [],_,_,_=>rfl
 |m::p,d,c,h=>by
  obtain⟨k,h1,h2⟩:=j6 h;have hlt:=(d8 h1).1;have h3:(bF (eB d ((bF d).set m (bJ p k e))))[m]?=some (bJ p k e):=by rw[qv h1,getElem?_set_self hlt]
  rw[cU h1,wj h3];exact oM h2
theorem pA {e e':D}:∀{p:Z0} {d c:D},bW p d=some c→bJ p (bJ p d e) e'=bJ p d e'
 | [],_,_,_=>rfl
 |m::p,d,c,h=>by
  obtain⟨k,h1,h2⟩:=j6 h;have hlt:=(d8 h1).1;have h3:(bF (eB d ((bF d).set m (bJ p k e))))[m]?=some (bJ p k e):=by rw[qv h1,getElem?_set_self hlt]
  rw[cU h1,cU h3,qv h1,Fq,pA h2,cU h1,set_set]
theorem pB {e:D}{i:Nat}{k:D}:∀{p:Z0} {d c:D},bW p d=some c→(bF c)[i]?=some k→bJ (p ++ [i]) d e=bJ p d (eB c ((bF c).set i e))
 | [],d,c,h,h'=>by cases h;exact cU h'
 |m::p,d,c,h,h'=>by
  obtain⟨q,h1,h2⟩:=j6 h;show bJ (m::(p ++ [i])) d e=_;rw[cU h1,cU h1,pB h2 h']
def iP (c:Int):D→D
 |.lst r=>.lst (r ++ [.int c])
 |d=>d
def oR:D→Bool
 |.lst r=>aG r.length
 |_=>false
def f8 (c:Int)(i:Nat)(rows:Zy):List D:=(rows.take i).map (iP c) ++ rows.drop i
def w9 {c:Int}{rows:Zy}:f8 c 0 rows=rows:=rfl
def zE {c:Int}{rows:Zy}:f8 c rows.length rows=rows.map (iP c):=by unfold f8;rw[take_length,List.drop_length,append_nil]
def BJ {c:Int}{rows:Zy}{i:Nat}(h:i<rows.length):(f8 c i rows)[i]?=rows[i]?:=by
 unfold f8;rw[getElem?_append_right (by simp;omega)];simp[Nat.min_eq_left (le_of_lt h)]
def w6 {c:Int}{rows:Zy}{i:Nat}{d:D}(h:rows[i]?=some d):(f8 c i rows).set i (iP c d)=f8 c (i+1) rows:=by
 have hlt:=(d8 h).1;have hd:rows[i]=d:=(d8 h).2;unfold f8;have e1:((rows.take i).map (iP c)).length=i:=by simp;omega
 rw[List.set_append_right _ _ (by omega),e1,sub_self,List.drop_eq_getElem_cons hlt,List.set_cons_zero,List.take_succ_eq_append_getElem hlt,map_append,append_assoc,hd];rfl
theorem DF {K:Z8}{G H:Hp}{c:Int}:∀{n:Nat},Ow K G H n (.int c) (.int c) []
 |0=>⟨rfl,rep_int.mpr rfl⟩
 |_+1=>⟨by unfold L2.flat;rfl,rfl,rep_int.mpr rfl⟩
def xR (ρ:DS)(j jr:Nat)(c:Int)(p:Z0)(rows:Zy):Out:=match ρ[j]? with
 |some (some t)=>if rows.all oR=true then .nx ((ρ.set jr none).set j (some (bJ p t (.lst (rows.map (iP c)))))) else .bad
 |_=>.bad
def iU (j jr n:Nat)(c:Int)(g:Zm):DS→Out:=λρ=>(g ρ).out λp=>ku ρ j n p λrows=>xR ρ j jr c p rows
section
variable{X:Cx}{E:XK}{μ:Z0}{r n j:Nat}
def wK {jr kk m:Nat}{c:Int}{p1 p2 p3 apos cpos pos' pos:Yn}{g:Zm}(hp:PassesOwn (model X.prog X.w) X.A X.env X.xe)(hc:X.calm=true)(hm:μ.getD j 0=m+1+(n+1))(hjr:jr≠j)(hNd:X.N.Nodup)(hN:X.N[jr]?=some x)(hx:qY X.env.scope x)(hv:tm X.env.scope x)(hpa:zQ X E μ j o g)(hd:zQ1 x:=by decide) (hcd:(x==("__classdict__" :Str))=false:=by decide)(hf:X.fn x=true∨X.env.scope.names.lookup x=some .local:=by first|exact .inl rfl|exact .inr rfl)(hs:starEach [.Constant (.int c) kk p3] X.env=(false,eval (.Constant (.int c) kk p3) X.env)::starEach [] X.env:=by rfl)(hbase:attributeBase (.Name x p2) "append" X.env (eval (.Name x p2) X.env)=eval (.Name x p2) X.env:=by rfl)(hfew:((backTo cpos (starEach [.Constant (.int c) kk p3] X.env)).all (λx=> !x.1)&&(backToKw cpos (keywordEach [] X.env)).all (λx=>x.1.isSome)&&decide (([(.Constant (.int c) kk p3:Expr)].length+([]:List Keyword).length+if ([]:List Keyword).isEmpty=true then 0 else 1)<30))=true:=by rfl)(hline:(apos.endLine==cpos.line)=true:=by rfl)(hsw:swapsWith (.Call (.Attribute (.Name x p2) "append" apos) [.Constant (.int c) kk p3] [] cpos) none pos'.line X.env=pure false:=by rfl)(hfi:∀x,foldedSetIterable o X.env x=pure x:=by intro _;rfl) :
  lR X E μ r (.For (.Name x p1) o [.Expr (.Call (.Attribute (.Name x p2) "append" apos) [.Constant (.int c) kk p3] [] cpos) pos'] [] pos) (iU j jr n c g):=by
 intro pins s σ Ge B G H f fp I R ho;have hjσ:jr<σ.length:=by rw[I.len];exact(d8 hN).1
 have hb:=lM (apos:=apos) (cpos:=cpos) (r:=du) PySem.F.plainAttrs_list PySem.F.slot_list_append PySem.F.type_list_append (show xh X "list.append" du from gz) (eh (pos:=p2) hN hv hd hcd) (cf (yJ (i:=c) (j:=kk) (pos:=p3)) ef hs) hbase hfew hline hs rfl;refine aS (D4 (pos:=pos) hp hc (qI hpa) (dX (pos:=p1) hNd hN hx hf) (vq (eQ (pos:=pos') hb hsw)) hfi pins s σ H {nx:=λC L=>∃Z G' S,iU j jr n c g f= .nx Z∧Rw X.K μ Ge B G' L C Z S∧Same G G',bk:=λ_ _=>False,ct:=λ_ _=>False,rt:=λ_ _=>False} I ⟨Ge,B,G,f,fp,R,ho.res,λp ep v0 v G1 H1 hv0 hval R1 sg sh=>?_⟩) λfl s1 J=>?_
 ·have k:=ho.res2 ep (Same.refl B);have e0:iU j jr n c g f=ku f j n p λQ=>xR f j jr c p Q:=by unfold iU;rw[bN ep]
  obtain⟨hn,t,Q,hr,hg,e1⟩:=mh k;rw[e1]at k;subst hn;have e2:xR f j jr c p Q=if Q.all oR=true then .nx ((f.set jr none).set j (some (bJ p t (.lst (Q.map (iP c)))))) else .bad:=by unfold xR;rw[hr]
  rw[e2]at k;by_cases Y:Q.all oR=true
  ·have e3:=(e0.trans e1).trans (e2.trans (Yj Y));obtain⟨A,a,xs,T,f1,f2,f3,f4⟩:=R1.node (m:=m+2) (by rw[hm];omega) hr hg mQ hv0 hval;subst f1;have hjl:j<f.length:=(d8 hr).1;have hlen:=f4.length;refine⟨a,rfl,⟨xs,.inl (.inl f2)⟩,xS (xs:=xs) (λi C L=>L a=some (.lst xs)∧C[j]?=some (some v0)∧C.length=σ.length∧valP L p v0 (.ref a)∧∃S,Rw X.K μ Ge B G1 L C ((f.set jr none).set j (some (bJ p t (.lst (f8 c i Q))))) S) ?_ ?_ ?_ ?_⟩
   ·refine⟨f2,hv0,rfl,hval,λi=>if i=jr then [] else fp i,?_⟩
    rw[w9,pq hg];have er:(f.set jr none).set j (some t)=f.set jr none:=kA (by rw[getElem?_set_ne hjr];exact hr);rw[er];exact R1.drop
   ·intro i C L _ hZ29;obtain⟨z,_⟩:=hZ29;exact .inl (.inl z)
   ·intro i y C L hy hZ30;obtain⟨z1,z2,z3,z4,S,R2⟩:=hZ30;have hi:i<Q.length:=by rw[hlen];exact(d8 hy).1
    have l:oR Q[i]=true:=all_eq_true.mp Y _ (getElem_mem hi);have hrx:∃W,Q[i]= .lst W∧aG W.length=true:=by
     unfold oR at l;split at l
     ·rename_i W q;exact⟨W,q,l⟩
     ·cases l
    obtain⟨W,eri,hlk⟩:=hrx;have hri':Q[i]?=some (.lst W):=by rw[d_ hi,eri]
    have hr2:((f.set jr none).set j (some (bJ p t (.lst (f8 c i Q)))))[j]?=some (some (bJ p t (.lst (f8 c i Q)))):=getElem?_set_self (by rw[length_set];exact hjl);have hg1:=oM (e:=.lst (f8 c i Q)) hg;have hk1:(bF (D.lst (f8 c i Q)))[i]?=some (.lst W):=(BJ hi).trans hri';have hg2:bW (p ++ [i]) (bJ p t (.lst (f8 c i Q)))=some (.lst W):=(oO hg1).trans hk1;obtain⟨v1,b,ys,U,c0,c1,c2,c3,c4,c5,c6,c7,c8,c9⟩:=R2.path (n:=m) (p:=p ++ [i]) (by rw[hm];simp) hr2 hg2;rw[z2]at c0;cases c0;have ey:=(valP.snoc z1 (show (oX (HO.lst xs))[i]?=some y from hy) z4).one c1;subst ey;have hab:=c8 p [i] a rfl (by intro z;cases z) z4;have neU:∀d,d∈U→d≠b:=λd hd z=>c5 (z ▸ hd);obtain⟨fp3,R3⟩:=c9 (ys ++ [.int c]) (W ++ [.int c]) (U ++ []) (.append (c3.mono λd v A _ hA z=>z.mono (.refl _) λe he u eu=>by rw[aj (neU e (hA e he))];exact eu) (.one DF)) (by rw[append_nil];exact c4) (λd hd=>.inl (by rw[append_nil]at hd;exact hd));have hv1:valP (bc L b (.lst (ys ++ [.int c]))) p v0 (.ref a):=by
     have go:∀{q:Z0} {w:V},valP L q w (.ref a)→(∀q1 t1 a1,q=q1 ++ t1→valP L q1 w (.ref a1)→a1≠b)→valP (bc L b (.lst (ys ++ [.int c]))) q w (.ref a):=by
      intro q
      induction q with
      |nil=>intro w h _;exact h
      |cons i0 q ih=>
       intro w h hb';obtain⟨a1,o1,w1,y1,y2,y3,y4⟩:=h;refine⟨a1,o1,w1,y1,by rw[aj (hb' [] (i0::q) a1 rfl y1.symm)];exact y2,y3,ih y4 λq1 t1 a2 eq h2=>hb' (i0::q1) t1 a2 (by rw[eq];rfl) ⟨a1,o1,w1,y1,y2,y3,h2⟩⟩
     exact go z4 λq1 t1 a1 eq h1=>c8 q1 (t1 ++ [i]) a1 (by rw[eq,append_assoc]) (by simp) h1
    refine⟨.ref b,getElem?_set_self (by rw[z3];exact hjσ),.inl ⟨rfl,ys,.inl (.inl c2)⟩,b,ys,.int c,rfl,rfl,c2,by rw[←c3.length];exact gr hlk,?_⟩;refine⟨by rw[aj hab];exact z1,by rw[getElem?_set_ne hjr];exact z2,by rw[length_set];exact z3,hv1,λi=>if i=jr then [] else fp3 i,?_⟩
    have R4:=R3.forget (i:=jr) (o:=some (.ref b));have eρ:((((f.set jr none).set j (some (bJ p t (.lst (f8 c i Q))))).set j (some (bJ (p ++ [i]) (bJ p t (.lst (f8 c i Q))) (.lst (W ++ [.int c]))))).set jr none)=(f.set jr none).set j (some (bJ p t (.lst (f8 c (i+1) Q)))):=by
     rw[pB hg1 hk1,pA hg,set_set,List.set_comm _ _ (Ne.symm hjr),set_set];have:eB (D.lst (f8 c i Q)) ((bF (D.lst (f8 c i Q))).set i (.lst (W ++ [.int c])))= .lst (f8 c (i+1) Q):=by
      show D.lst ((f8 c i Q).set i (.lst (W ++ [.int c])))=_;rw[←w6 hri'];rfl
     rw[this]
    rw[eρ]at R4;exact R4
   ·intro C L hZ31;obtain⟨z1,z2,z3,z4,S,R2⟩:=hZ31;rw[←hlen,zE]at R2;exact⟨_,G1,S,e3,R2,sg⟩
  ·rw[Yi Y]at k;exact k.elim
 ·cases fl with
  |next=>
   obtain⟨C,L,I',Z,G',S,e1,R',sg⟩:=J;exact⟨Z,_,G',L,S,e1,I',R',sg⟩
  |brk=>obtain⟨_,_,_,J⟩:=J;exact J.elim
  |cont=>obtain⟨_,_,_,J⟩:=J;exact J.elim
  |ret u=>obtain⟨_,_,_,_,_,J⟩:=J;exact J.elim
def y_ (ρ:DS)(j:Nat)(p:Z0)(row:Zy):Out:=match ρ[j]? with
 |some (some t)=>.nx (ρ.set j (some (bJ p t (.lst row.reverse))))
 |_=>.bad
def ui (j n:Nat)(g:Zm):DS→Out:=λρ=>(g ρ).out λp=>ku ρ j n p λrow=>y_ ρ j p row
def Be {apos cpos pos:Yn}{g:Zm}(hm:μ.getD j 0=0+1+n)(hpa:zQ X E μ j o g)(hbase:attributeBase o "reverse" X.env (eval o X.env)=eval o X.env:=by rfl) (hline:(apos.endLine==cpos.line)=true:=by rfl)(hsw:swapsWith (.Call (.Attribute o "reverse" apos) [] [] cpos) none pos.line X.env=pure false:=by rfl) :
  lR X E μ r (.Expr (.Call (.Attribute o "reverse" apos) [] [] cpos) pos) (ui j n g):=by
 intro pins s σ Ge B G H ρ fp I R ho;have hp:=DM (apos:=apos) (cpos:=cpos) (r:=nE) PySem.F.plainAttrs_list PySem.F.slot_list_reverse PySem.F.type_list_reverse (show xh X "list.reverse" nE from t6) hpa hbase hline;refine aS (eQ hp hsw pins s σ H {nx:=λσ' H'=>∃Q G' S,ui j n g ρ= .nx Q∧σ'=σ∧Rw X.K μ Ge B G' H' σ Q S∧Same G G',bk:=λ_ _=>False,ct:=λ_ _=>False,rt:=λ_ _=>False} I ⟨Ge,B,G,ρ,fp,R,ho.res,λp ep v0 v G1 H1 hv hval R1 sg sh=>?_⟩) λfl s1 C=>?_
 ·have k:=ho.res2 ep (Same.refl B);have e0:ui j n g ρ=ku ρ j n p λO=>y_ ρ j p O:=by unfold ui;rw[bN ep]
  obtain⟨hn,t,O,hr,hg,e1⟩:=mh k;subst hn;have e2:y_ ρ j p O= .nx (ρ.set j (some (bJ p t (.lst O.reverse)))):=by unfold y_;rw[hr]
  obtain⟨v1,b,ys,U,c0,c1,c2,c3,c4,c5,c6,c7,c8,c9⟩:=R1.path hm hr hg;rw[hv]at c0;cases c0;have:=hval.one c1;subst this;obtain⟨eU,rl⟩:=c3.zero;obtain⟨S,R3⟩:=c9 ys.reverse O.reverse [] (.of0 rl.reverse) nodup_nil (λc h=>by cases h);exact⟨.inl ⟨rfl,ys,.inl (.inl c2)⟩,b,ys,rfl,rfl,c2,_,_,S,(e0.trans e1).trans e2,rfl,R3,sg⟩
 ·cases fl with
  |next=>
   obtain⟨σ',H',I',Q,G',S,e1,e2,R',sg⟩:=C;subst e2;exact⟨Q,_,G',H',S,e1,I',R',sg⟩
  |brk=>obtain⟨_,_,_,C⟩:=C;exact C.elim
  |cont=>obtain⟨_,_,_,C⟩:=C;exact C.elim
  |ret u=>obtain⟨_,_,_,_,_,C⟩:=C;exact C.elim
def v9 (ρ:DS)(j:Nat)(p:Z0)(row:Zy)(d:D):Out:=match ρ[j]?,d with
 |some (some t),.lst l=>if aG (row.length+l.length)=true then .nx (ρ.set j (some (bJ p t (.lst (row ++ l))))) else .bad
 |_,_=>.bad
def qj (j n:Nat)(g:Zm)(f:Z7):DS→Out:=λρ=>(g ρ).out λp=>(f ρ).out λd=>ku ρ j n p λrow=>v9 ρ j p row d
def Bd {apos cpos pos:Yn}{g:Zm}{f:Z7}(hm:μ.getD j 0=0+1+n)(hpa:zQ X E μ j o g)(h:PZ X E μ 0 e f)(hex:∀ρ c,f ρ≠ .exc c)(hs:zQ2 X e []:=by rfl)(hbase:attributeBase o "extend" X.env (eval o X.env)=eval o X.env:=by rfl)(hfew:((backTo cpos (starEach [e] X.env)).all (λx=> !x.1)&&(backToKw cpos (keywordEach [] X.env)).all (λx=>x.1.isSome)&&decide (([e].length+([]:List Keyword).length+if ([]:List Keyword).isEmpty=true then 0 else 1)<30))=true:=by rfl)(hline:(apos.endLine==cpos.line)=true:=by rfl)(hsw:swapsWith (.Call (.Attribute o "extend" apos) [e] [] cpos) none pos.line X.env=pure false:=by rfl) :
  lR X E μ r (.Expr (.Call (.Attribute o "extend" apos) [e] [] cpos) pos) (qj j n g f):=by
 intro pins s σ Ge B G H ρ fp I R ho;have hp:=lM (apos:=apos) (cpos:=cpos) (r:=qO) PySem.F.plainAttrs_list PySem.F.slot_list_extend PySem.F.type_list_extend (show xh X "list.extend" qO from wC) hpa (cf (sj h) ef hs) hbase hfew hline hs rfl;refine aS (eQ hp hsw pins s σ H {nx:=λσ' H'=>∃Q G' T,qj j n g f ρ= .nx Q∧σ'=σ∧Rw X.K μ Ge B G' H' σ Q T∧Same G G',bk:=λ_ _=>False,ct:=λ_ _=>False,rt:=λ_ _=>False} I ⟨Ge,B,G,ρ,fp,R,ho.res,λp ep v0 v G1 H1 hv hval R1 sg sh=>?_⟩) λfl s1 C=>?_
 ·have k:=ho.res2 ep (Same.refl B);have hfd:∃d,f ρ= .ok d:=by
   cases q:f ρ with
   |ok d=>exact⟨d,rfl⟩
   |exc c=>exact absurd q (hex ρ c)
   |bad=>rw[q]at k;exact k.elim
  obtain⟨d0,P⟩:=hfd;have kk:=k.res2 P (Same.refl B);have e0:qj j n g f ρ=ku ρ j n p λO=>v9 ρ j p O d0:=by unfold qj;rw[bN ep,bN P]
  obtain⟨hn,t,O,hr,hg,e1⟩:=mh kk;rw[e1]at kk;subst hn;unfold v9 at kk;rw[hr]at kk;cases d0 with
  |lst l=>
   dsimp only at kk;by_cases hc:aG (O.length+l.length)=true
   ·have e2:v9 ρ j p O (.lst l)= .nx (ρ.set j (some (bJ p t (.lst (O ++ l))))):=by unfold v9;rw[hr];exact Yj hc
    obtain⟨v1,b,ys,U,c0,c1,c2,c3,c4,c5,c6,c7,c8,c9⟩:=R1.path hm hr hg;rw[hv]at c0;cases c0;have:=hval.one c1;subst this;refine⟨.inl ⟨rfl,ys,.inl (.inl c2)⟩,Ge,B,G1,ρ,fp,R1,by rw[P];trivial,λd ed v G2 H2 S R2 sg2 sh2 o w=>?_⟩;rw[P]at ed;cases ed;obtain⟨_,rp⟩:=o;rw[rep_lst]at rp;obtain⟨q,zs,rfl,lz,rl⟩:=rp;obtain⟨v1,b2,ys2,U2,p0,p1,p2,p3,p4,p5,p6,p7,p8,p9⟩:=R2.path hm hr hg;rw[hv]at p0;cases p0;have:=(c1.mono sh2).one p1;cases this;rw[sh2 _ _ c2]at p2;cases p2;obtain⟨eU,rr⟩:=p3.zero;obtain⟨T,R3⟩:=p9 (ys ++ zs) (O ++ l) [] (.of0 (rr.append rl)) nodup_nil (λc h=>by cases h);exact⟨b,q,ys,zs,rfl,rfl,sh2 _ _ c2,R2.gh _ _ lz.h,by rw[←rr.length,←rl.length];exact bG hc,_,_,T,(e0.trans e1).trans e2,rfl,R3,sg.trans sg2⟩
   ·rw[Yi hc]at kk;exact kk.elim
  |_=>exact kk.elim
 ·cases fl with
  |next=>
   obtain⟨σ',H',I',Q,G',T,e1,e2,R',sg⟩:=C;subst e2;exact⟨Q,_,G',H',T,e1,I',R',sg⟩
  |brk=>obtain⟨_,_,_,C⟩:=C;exact C.elim
  |cont=>obtain⟨_,_,_,C⟩:=C;exact C.elim
  |ret u=>obtain⟨_,_,_,_,_,C⟩:=C;exact C.elim
end
def cu (ks:List (List bD))(k:List bD):Option Nat:=ks.findIdx? (λq=>decide (q=k))
def jK {q k:List bD}{ks:List (List bD)}:cu (q::ks) k=if q=k then some 0 else (cu ks k).map (· + 1):=by
 unfold cu;rw[List.findIdx?_cons];by_cases e:q=k
 ·rw[Zk e,Yj e];rfl
 ·rw[Zh e,Yi e];rfl
theorem kX {k:List bD}:∀{kvs:List (List bD×V)} {m:Nat},cu (kvs.map (·.1)) k=some m→iI kvs k=(kvs.map (·.2))[m]?
 | [],m,h=>by cases h
 |(q,v)::r,m,h=>by
  rw[map_cons,jK]at h;by_cases e:q=k
  ·rw[Yj e]at h;cases h;exact kH e
  ·rw[Yi e]at h;cases z:cu (r.map (·.1)) k with
   |none=>rw[z]at h;cases h
   |some m'=>
    rw[z]at h;cases h;rw[i7 e,kX z];rfl
def mX {k:List bD}{ks:List (List bD)}{m:Nat}(h:cu ks k=some m):m<ks.length:=by
 unfold cu at h;exact(List.findIdx?_eq_some_iff_getElem.mp h).1
def tP {k:List bD}{kvs:List (List bD×V)}(h:cu (kvs.map (·.1)) k=none):iI kvs k=none:=by
 induction kvs with
 |nil=>rfl
 |cons p r ih=>
  rw[map_cons,jK]at h;by_cases e:p.1=k
  ·rw[Yj e]at h;cases h
  ·rw[Yi e]at h;rw[i7 e];apply ih;cases z:cu (r.map (·.1)) k with
   |none=>rfl
   |some m'=>rw[z]at h;cases h
theorem pc {k:List bD}{v:V}:∀{kvs:List (List bD×V)},¬k∈kvs.map (·.1)→(kvs.map λkv=>if kv.1=k then (kv.1,v) else kv)=kvs
 | [],_=>rfl
 |p::r,h=>by
  have h1:¬p.1=k:=λe=>h (by rw[map_cons,e];exact mem_cons_self ..);rw[map_cons,Yi h1,pc λz=>h (cN z)]
theorem vt {k:List bD}{v:V}:∀{kvs:List (List bD×V)} {m:Nat},(kvs.map (·.1)).Nodup→cu (kvs.map (·.1)) k=some m→(kvs.map λkv=>if kv.1=k then (kv.1,v) else kv).map (·.1)=kvs.map (·.1)∧(kvs.map λkv=>if kv.1=k then (kv.1,v) else kv).map (·.2)=(kvs.map (·.2)).set m v
 | [],m,_,h=>by cases h
 |p::r,m,nd,h=>by
  rw[map_cons,jK]at h;rw[map_cons]at nd;obtain⟨n1,n2⟩:=nodup_cons.mp nd;by_cases e:p.1=k
  ·rw[Yj e]at h;cases h;rw[map_cons,Yj e,pc (by rw[←e];exact n1)];exact⟨rfl,rfl⟩
  ·rw[Yi e]at h;cases z:cu (r.map (·.1)) k with
   |none=>rw[z]at h;cases h
   |some m'=>
    rw[z]at h;cases h;obtain⟨a,b⟩:=vt n2 z;rw[map_cons,Yi e];exact⟨by rw[map_cons,map_cons,a],by rw[map_cons,map_cons,b];rfl⟩
def y6 {k:List bD}{v:V}{kvs:List (List bD×V)}{m:Nat}(nd:(kvs.map (·.1)).Nodup)(h:cu (kvs.map (·.1)) k=some m):(fB kvs k v).map (·.1)=kvs.map (·.1)∧(fB kvs k v).map (·.2)=(kvs.map (·.2)).set m v:=by
 have e:fB kvs k v=kvs.map λkv=>if kv.1=k then (kv.1,v) else kv:=by
  unfold fB;rw[Yj (by rw[kG,kX h,d_ (by rw[length_map];have:=mX h;rwa[length_map]at this)];rfl)]
 rw[e];exact vt nd h
def jP (ks:List (List bD))(l:Zy)(k:List bD)(d:D):D:=match cu ks k with
 |some m=>.dct ks (l.set m d)
 |none=>.dct (ks ++ [k]) (l ++ [d])
def pZ (j:Nat)(ks:List (List bD))(l:Zy)(ρ:DS)(d i:D):Out:=match i with
 |.tup kd=>(match gl kd with|some k=>if aG ks.length=true then .nx (ρ.set j (some (jP ks l k d))) else .bad|none=>.bad)
 |_=>.bad
def fK (j:Nat)(fi f:Z7):DS→Out:=λρ=>match ρ[j]? with
 |some (some (.dct ks l))=>(f ρ).out λd=>(fi ρ).out λi=>pZ j ks l ρ d i
 |_=>.bad
def EC (ρ:DS)(j:Nat)(p:Z0)(i:D):Res (List Nat):=match ρ[j]? with
 |some (some d)=>(match bW p d with
  |some (.dct ks l)=>(match i with|.tup kd=>(match gl kd with|some k=>(match cu ks k with|some m=>.ok (p ++ [m])|none=>.bad)|none=>.bad)|_=>.bad)
  |_=>.bad)
 |_=>.bad
def zV (j n:Nat)(g:Zm)(fi:Z7):DS→Res (List Nat):=λρ=>(g ρ).bind λp=>(fi ρ).bind λi=>if p.length=n then EC ρ j p i else .bad
theorem lC {H:Hp}:∀{kvs:List (List bD×V)} {xs:List (List bD×Addr×Value)},Paired (λ(p:List bD×V) (q:List bD×Addr×Value)=>p.1=q.1∧H q.2.1=some (.tup (p.1.map kV))∧RelV p.2 q.2.2) kvs xs→kvs.map (·.1)=xs.map (·.1)
 |_,_,.nil=>rfl
 |_,_,.cons q t=>by rw[map_cons,map_cons,q.1,lC t]
def Inv.dnd {X:Cx}{pins:Z9}{σ:St}{H:Hp}{s:Z3}{kvs:List (List bD×V)}(I:Inv X pins σ H s)(h:H a=some (.dT kvs)):(kvs.map (·.1)).Nodup:=by
 obtain⟨_,_,xs,pr,_,_,_,_,_,_,_,nd⟩:=I.hok a _ h;rw[lC pr];exact nd
section
variable{X:Cx}{E:XK}{μ:Z0}{r n j:Nat}
def qK :PN X E (n+1) (.Dict [] [] pos) (λ_=>.ok (.dct [] [])):=by
 intro pins s σ G H ρ I hs hr ho;refine aS (yI pins s σ H (λv H'=>∃p,v= .ref p∧H p=none∧H'=bc H p (.dT [])) I λp hp=>⟨p,rfl,hp,rfl⟩) λu s' hZ176=>?_;obtain⟨v,H',I',rv,p,e1,hp,e2⟩:=hZ176;subst e1 e2;refine⟨.dct [] [],rfl,.ref p,G,_,[p],I',rv,(Ext.refl hs).hnew hp _,⟨p,[],[],rfl,ao,rfl,rfl,rfl,rfl⟩,by simp,λa ha=>?_⟩;have e:a=p:=by simpa using ha
 subst e;refine⟨hp,?_⟩;cases q:G a with
 |none=>rfl
 |some o=>have:=hs a o q;rw[hp]at this;cases this
def BP {g:Zm}{fi:Z7}{m:Nat}(hu:X.A.units+64<cLine)(hm:μ.getD j 0=m+1+n)(ho:zQ X E μ j o g)(hi:PD X E i fi)(hpi:zP i:=by intro _ _;rfl):zQ X E μ j (.Subscript o i pos) (zV j n g fi):=by
 intro pins s σ H Q I hZ32;obtain⟨Ge,B,G,ρ,fp,R,hok,k⟩:=hZ32;refine ve (pos:=pos) (by omega) ho (dP hi) hpi pins s σ H Q I ?_;refine⟨Ge,B,G,ρ,fp,R,hok.fst,λp ep v0 v G1 H1 hv hval R1 sg sh=>⟨nX fp G1 H1,ρ,R1.vh,R1.ro,(hok.snd ep (Same.refl B)).fst.le R1.bh,λdi ei vi G3 H3 x3 ri=>?_⟩⟩;have J:=(hok.snd ep (Same.refl B)).snd ei (Same.refl B);by_cases hn:p.length=n
 ·subst hn;rw[Yj rfl]at J;have e0:zV j p.length g fi ρ=EC ρ j p di:=by unfold zV;rw[ep,av,ei,av,Yj rfl]
  unfold EC at J;cases hr:ρ[j]? with
  |none=>rw[hr]at J;exact J.elim
  |some od=>
  cases od with
  |none=>rw[hr]at J;exact J.elim
  |some d=>
  rw[hr]at J;dsimp only at J;cases hp:bW p d with
  |none=>rw[hp]at J;exact J.elim
  |some c=>
  rw[hp]at J;cases c with
  |dct ks l=>
   dsimp only at J;cases di with
   |tup kd=>
    dsimp only at J;cases q1:gl kd with
    |none=>rw[q1]at J;exact J.elim
    |some kq=>
    rw[q1]at J;dsimp only at J;cases q2:cu ks kq with
    |none=>rw[q2]at J;exact J.elim
    |some m'=>
    obtain⟨A,a,N,T,e1,e2,e4,e3,h1⟩:=R1.node (m:=m+1) hm hr hp xO hv hval;subst e1 e4;rw[rep_tup]at ri;obtain⟨b,xs,rfl,tb,rk⟩:=ri;have hx:=ji rk q1;subst hx;have hlt:m'<(N.map (·.2)).length:=by have:=mX q2;rwa[length_map]at this ⊢
    have hw:(N.map (·.2))[m']?=some ((N.map (·.2))[m']):=d_ hlt;refine⟨a,(N.map (·.2))[m'],rfl,.inr ⟨N,kq,b,.inl (x3.hh _ _ e2),rfl,x3.gh _ _ tb.h,by rw[kX q2];exact hw.symm⟩,?_⟩;refine k (p ++ [m']) (e0.trans ?_) v0 _ (nV (oa fp) G3) H3 hv ((hval.mono x3.hh).snoc (x3.hh _ _ e2) hw) (R1.grow x3) (sg.trans (R1.gg x3)) (sh.trans x3.hh);unfold EC;rw[hr];dsimp only;rw[hp];dsimp only;rw[q1];dsimp only;rw[q2]
   |_=>exact J.elim
  |_=>exact J.elim
 ·rw[Yi hn]at J;exact J.elim
def me {px tpos pos:Yn}{fi f:Z7}(hu:X.A.units+64<cLine)(hm:μ.getD j 0=n+1)(hN:X.N[j]?=some x)(hv:tm X.env.scope x)(hi:PD X E i fi)(h:PZ X E μ n e f)(hd:zQ1 x:=by decide) (hcd:(x==("__classdict__" :Str))=false:=by decide)(hs:swapsWith e (some (.Subscript (.Name x px) i tpos)) pos.line X.env=pure false:=by rfl) :
  lR X E μ r (.Assign [.Subscript (.Name x px) i tpos] e pos) (fK j fi f):=by
 intro pins s σ Ge B G H g P I R ho;have hslot:∃U l,g[j]?=some (some (.dct U l)):=by
  unfold fK at ho;split at ho
  ·rename_i U l q;exact⟨U,l,q⟩
  ·exact ho.elim
 obtain⟨U,l,hr⟩:=hslot;have eo:fK j fi f g=(f g).out λd=>(fi g).out λi=>pZ j U l g d i:=by
  unfold fK;rw[hr]
 rw[eo]at ho ⊢;have top:∀{G H:Hp},Rw X.K μ Ge B G H σ g P→∃a O T,σ[j]?=some (some (.ref a))∧H a=some (.dT O)∧O.map (·.1)=U∧P j=a::T∧AllW (Ow X.K G H n) l (O.map (·.2)) T:=λ{G H} R=>by
  obtain⟨v,hv,o⟩:=R.sl j _ hr;rw[hm]at o;obtain⟨a,O,T,e1,e2,e4,e3,h1⟩:=o;subst e1;exact⟨a,O,T,hv,e2,e4,e3,h1⟩
 obtain⟨a,O,T0,h1,h2,h4,h3,h5⟩:=top R;have nd:=I.dnd h2;have hp:=Bm (pos:=pos) (pos':=tpos) (by omega) (eh (pos:=px) hN hv hd hcd) (dP hi) (sj h) hs;refine aS (hp pins s σ H {nx:=λσ' H'=>∃ρ' G' V,((f g).out λd=>(fi g).out λi=>pZ j U l g d i)= .nx ρ'∧σ'=σ∧Rw X.K μ Ge B G' H' σ ρ' V∧Same G G',bk:=λ_ _=>False,ct:=λ_ _=>False,rt:=λ_ _=>False} I ⟨Ge,B,G,g,P,R,ho.res,λd ed v G1 H1 S R1 sg sh o w=>?_⟩) λfl s1 M=>?_
 ·have k:=ho.res2 ed (Same.refl B);refine⟨_,h1,nX P G1 H1,g,R1.vh,R1.ro,k.res.le R1.bh,λdi ei vi G3 H3 x3 ri=>?_⟩;have kk:=k.res2 ei (Same.refl B);have e0:((f g).out λd=>(fi g).out λi=>pZ j U l g d i)=pZ j U l g d di:=by rw[bN ed,bN ei]
  unfold pZ at kk;cases di with
  |tup kd=>
   dsimp only at kk;cases q1:gl kd with
   |none=>rw[q1]at kk;exact kk.elim
   |some W=>
   rw[q1]at kk;dsimp only at kk;by_cases p:aG U.length=true
   ·have e0:=e0.trans (show pZ j U l g d (.tup kd)= .nx (g.set j (some (jP U l W d))) by unfold pZ;dsimp only;rw[q1];exact Yj p);rw[rep_tup]at ri;obtain⟨b,xs,rfl,tb,rk⟩:=ri;have hx:=ji rk q1;subst hx;have t:=R1.grow x3;obtain⟨a2,kvs2,T,g1,g2,g4,g3,g5⟩:=top t;rw[h1]at g1;cases g1;rw[x3.hh _ _ (sh _ _ h2)]at g2;cases g2;have hcS:∀b∈S,∃u,H1 b=some u∧¬mZ u:=λb F=>let ⟨u,e,c⟩:=o.cell b F;⟨u,e,c.nokey⟩
    have w3:=w.keep hcS (λi b F=>R.apart w i b F) x3;have fr:=t.freshOf w3 R;have o3:=o.mono (R1.gg x3) λb _ u e=>x3.hh b u e;have hnd:=t.nd j;rw[g3]at hnd;obtain⟨haT,hTn⟩:=nodup_cons.mp hnd;have J:a∈P j:=by rw[g3];exact mem_cons_self ..
    have Y:∀b∈T,b∈P j:=λb F=>by rw[g3];exact cN F
    have neT:∀b,b∈T→b≠a:=λb F z=>haT (z ▸ F);have neS:∀b,b∈S→b≠a:=λb F z=>(fr b F).2 j (z ▸ J);have fin:∀(T':Zt) (d':D),Ow X.K (nV (oa P) G3) (bc H3 a (.dT (fB O W v))) (n+1) d' (.ref a) (a::T')→T'.Nodup→(∀c∈T',c∈T∨c∈S)→jP U l W d=d'→∃V,Rw X.K μ Ge B (nV (oa P) G3) (bc H3 a (.dT (fB O W v))) σ (g.set j (some d')) V:=λT' d' ow ndT hT' _=>by
     refine⟨_,t.write J h1 (by rw[hm];exact ow) (nodup_cons.mpr ⟨λz=>?_,ndT⟩) (λc p=>?_) λi hi c p hci=>?_⟩
     ·rcases hT' a z with y|y
      ·exact haT y
      ·exact neS a y rfl
     ·rcases mem_cons.mp p with z|z
      ·subst z;exact⟨t.gf j _ J,t.ob j _ J⟩
      ·rcases hT' c z with y|y
       ·exact⟨t.gf j _ (Y c y),t.ob j _ (Y c y)⟩
       ·exact(fr c y).1
     ·rcases mem_cons.mp p with z|z
      ·subst z;exact hi (t.dj i j _ hci J)
      ·rcases hT' c z with y|y
       ·exact hi (t.dj i j _ hci (Y c y))
       ·exact(fr c y).2 i hci
    have key:∃V,Rw X.K μ Ge B (nV (oa P) G3) (bc H3 a (.dT (fB O W v))) σ (g.set j (some (jP U l W d))) V:=by
     cases q2:cu U W with
     |some m=>
      rw[←h4]at q2;obtain⟨y1,y2⟩:=y6 (v:=v) nd q2;have hml:m<l.length:=by rw[g5.length,length_map];have:=mX q2;rwa[length_map]at this
      obtain⟨w0,A,L,Q,f1,f2,f3,f4⟩:=g5.at (d_ hml);have hT:=hTn;rw[f2]at hT;have Z:∀c,c∈L∨c∈Q→c∈T:=λc p=>by rw[f2];rcases p with z|z;exact mem_append_left _ (mem_append_left _ z);exact mem_append_right _ z
      have big:=f4 (Ow X.K (nV (oa P) G3) (bc H3 a (.dT (fB O W v))) n) (λd v C hC z=>z.mono (.refl _) λb F u e=>by rw[aj (neT b (Z b (hC b F)))];exact e) d v S (o3.mono (.refl _) λb F u e=>by rw[aj (neS b F)];exact e);have ed':jP U l W d= .dct U (l.set m d):=by unfold jP;rw[←h4,q2]
      rw[ed'];refine fin (L ++ S ++ Q) _ ⟨a,fB O W v,L ++ S ++ Q,rfl,ao,by rw[y1,h4],rfl,by rw[y2];exact big⟩ (lb hT w.1 λc p=>.inr ⟨λz=>(fr c p).2 j (Y c (Z c (.inl z))),λz=>(fr c p).2 j (Y c (Z c (.inr z)))⟩) (λc p=>?_) ed'
      rcases mem_append.mp p with z|z
      ·rcases mem_append.mp z with y|y
       ·exact .inl (Z c (.inl y))
       ·exact .inr y
      ·exact .inl (Z c (.inr z))
     |none=>
      have q3:=q2;rw[←h4]at q3;have ek:fB O W v=O ++ [(W,v)]:=yZ v (tP q3);have ed':jP U l W d= .dct (U ++ [W]) (l ++ [d]):=by unfold jP;rw[q2]
      rw[ed'];refine fin (T ++ S) _ ⟨a,fB O W v,T ++ S,rfl,ao,by rw[ek,map_append,h4];rfl,rfl,?_⟩ (nodup_append.mpr ⟨hTn,w.1,λb F c p e=>by subst e;exact(fr b p).2 j (Y b F)⟩) (λc p=>mem_append.mp p) ed';rw[ek,map_append];refine AllW.append (g5.mono λd v A _ hA z=>z.mono (.refl _) λb F u e=>by rw[aj (neT b (hA b F))];exact e) (.one (o3.mono (.refl _) λb F u e=>by rw[aj (neS b F)];exact e))
    obtain⟨V,R4⟩:=key;have h9:O.length<sizeLine:=by
     have e9:O.length=U.length:=by rw[←h4,length_map]
     rw[e9];exact gr p
    exact⟨a,_,rfl,.inr ⟨O,W,b,x3.hh _ _ (sh _ _ h2),rfl,x3.gh _ _ tb.h,h9,rfl⟩,_,_,V,e0,rfl,R4,sg.trans (R1.gg x3)⟩
   ·rw[Yi p]at kk;exact kk.elim
  |_=>exact kk.elim
 ·cases fl with
  |next=>
   obtain⟨σ',H',I',ρ',G',V,e1,e2,R',sg⟩:=M;subst e2;exact⟨ρ',_,G',H',V,e1,I',R',sg⟩
  |brk=>obtain⟨_,_,_,M⟩:=M;exact M.elim
  |cont=>obtain⟨_,_,_,M⟩:=M;exact M.elim
  |ret u=>obtain⟨_,_,_,_,_,M⟩:=M;exact M.elim
end
def Ow.noCells {K:Z8}{G H:Hp}{n:Nat}{d:D}{v:V}(h:Ow K G H (n+1) d v []):L2.flat d=true∧Rep K G d v:=by
 cases d with
 |lst l=>obtain⟨a,xs,T,_,_,e,_⟩:=h;cases e
 |dct ks l=>obtain⟨a,xs,T,_,_,_,e,_⟩:=h;cases e
 |tup l=>
  rcases h with h|⟨a,xs,T,_,_,e,_⟩
  ·exact⟨h.1,h.2.2⟩
  ·cases e
 |_=>exact⟨h.1,h.2.2⟩
theorem AllW.noCells {K:Z8}{G H:Hp}{n:Nat}:∀{ds:Zy} {vs:List V},AllW (Ow K G H (n+1)) ds vs []→flats ds=true∧RepL K G ds vs
 | [],_,h=>by rw[h.1];exact⟨by unfold flats;rfl,.nil⟩
 |d::ds,_,h=>by
  obtain⟨v,r,A,B,e1,e2,h1,h2⟩:=h;obtain⟨rfl,rfl⟩:=List.append_eq_nil_iff.mp e2.symm;subst e1;obtain⟨f1,r1⟩:=h1.noCells;obtain⟨f2,r2⟩:=AllW.noCells h2;exact⟨by unfold flats;rw[f1,f2];rfl,.cons r1 r2⟩
section
variable{X:Cx}{E:XK}{μ:Z0}{r n:Nat}
def vn {x1:Nat}{f:Z6}(h:Et X E (n+1) es f):PN X E (n+2) (.Tuple es x1 pos) (cE f):=by
 refine .tn (yM h) λσ G H ρ Q hs hro ho k=>⟨G,ρ,hs,hro,ho.fst,λds e vs G1 H1 S x1 os w=>?_⟩;have kk:=ho.snd e x1.hh;by_cases hl:aG ds.length=true
 ·refine⟨by rw[←os.length];exact bG hl,λp hp=>?_⟩;by_cases hS:S=[]
  ·subst hS;obtain⟨fl,rl⟩:=os.noCells;exact k (.tup ds) (al e (Yj hl)) (.ref p) (bc G1 p (.tup vs)) _ [] (x1.trans (.new x1.gh hp _)) (.inl ⟨by unfold L2.flat;exact fl,rfl,rep_tup.mpr ⟨p,vs,rfl,.of ao,rl.mono (Ext.new x1.gh hp _).gg⟩⟩) .nil
  ·have hpS:p∉S:=λz=>by obtain⟨u,hu,_⟩:=os.has p z;rw[hp]at hu;cases hu
   have gp:G1 p=none:=by
    cases q:G1 p with
    |none=>rfl
    |some u=>rw[x1.gh p u q]at hp;cases hp
   have o1:AllW (Ow X.K G1 (bc H1 p (.tup vs)) (n+1)) ds vs S:=os.mono λd v A _ hA z=>z.mono (.refl _) λb hb u e=>by
    have hne:b≠p:=λzz=>hpS (zz ▸ hA b hb);rw[aj hne];exact e
   have w1:New H G1 (p::S):=⟨nodup_cons.mpr ⟨hpS,w.1⟩,λa ha=>by
    rcases mem_cons.mp ha with z|z
    ·subst z;exact⟨x1.hh.free hp,gp⟩
    ·exact w.2 a z⟩
   exact k (.tup ds) (al e (Yj hl)) (.ref p) G1 _ (p::S) (x1.hnew hp _) (.inr ⟨p,vs,S,rfl,ao,rfl,hS,o1⟩) w1
 ·rw[Yi hl]at kk;exact kk.elim
end
def rQ (l:Zy)(d:D):Option Nat:=l.findIdx? λy=>b9 y d
def jH (d e:D):Res D:=match d with
 |.lst l=>if plL 19 l=true∧a7 19 e=true∧aG l.length=true then (match rQ l e with|some j=>.ok (.int (j:Nat))|none=>.bad) else .bad
 |_=>.bad
def y7 (K:Z8):V→List V→Hp→VK→Prop:=λx vs H Q=>∃G l dx y j,Same G H∧Rep K G (.lst l) x∧vs=[y]∧Rep K G dx y∧plL 19 l=true∧a7 19 dx=true∧aG l.length=true∧rQ l dx=some j∧Q (.int (j:Nat)) H
section
variable{X:Cx}{E:XK}{μ:Z0}{r n:Nat}
def yt (hu:X.A.units+64<cLine):xh X "list.index" (y7 X.K):=by
 intro pins s σ H x vs v us Q I rx rv h;obtain⟨G,l,dx,y,j,hs,rl,rfl,ry,hp,hd,hlk,hj,q⟩:=h;rw[rep_lst]at rl;obtain⟨a,xs,rfl,sq,rl⟩:=rl;cases rx;obtain⟨u,rfl,ru⟩:=rv.one;obtain⟨J,r,p⟩:=I.isLst (hs.seq sq.sq);obtain⟨⟨cls,dd,data,sl⟩,ho,hc,n,hdt⟩:=id p;simp only at hc hdt;subst hc hdt;obtain⟨hjl,hjt,hjn⟩:=List.findIdx?_eq_some_iff_getElem.mp hj;have len1:=rl.length;have len2:=r.length;have at':∀m (h1:m<l.length) (h2:m<J.toArray.size),w_ X.K G l dx J.toArray[m]=b9 l[m] dx:=λm h1 h2=>by
  obtain⟨z,hz,rz⟩:=rl.get (d_ h1);obtain⟨w,hw,rw'⟩:=r.get hz;have e:J.toArray[m]=w:=by
   have:J.toArray[m]?=some w:=by rw[List.getElem?_toArray];exact hw
   rw[getElem?_eq_getElem h2]at this;exact Option.some.inj this
  rw[e];exact fU I hs hp (getElem_mem h1) rz rw'
 have hsz:J.toArray.size=l.length:=by rw[size_toArray];omega
 have hlk':l.length≤100000:=Zj hlk;refine call_meets PySem.F.slot_list_index ⟨_,ho,rfl⟩ PySem.F.entry_list_index (PySem.F.args_list_index_2 _ _) (PySem.SeqAt.list_indexAt a J.toArray n dd sl u (w_ X.K G l dx) j (by omega) (by omega) ((at' j hjl (by omega)).trans hjt) λm hm hlt=>?_) ⟨ho,λw hw=>?_,?_⟩
 ·rw[at' m (by omega) hm];have:=hjn m hlt;simpa using this
 ·obtain⟨d,z,h1,h2,h3⟩:=ka rl r (by simpa using hw);rw[fU I hs hp h1 h2 h3];exact(mK I hs 19 19 d dx z y w u _ (dq hp h1) hd h2 ry h3 ru (by show X.A.units+1+19<cLine;omega)).1
 ·exact⟨.int (j:Nat),H,I.tok _,⟨_,rfl⟩,q⟩
def nq {apos cpos:Yn}{fo fe:Z7}(hu:X.A.units+64<cLine)(hoo:PD X E o fo)(he:PD X E e fe)(hex:∀ρ c,fe ρ≠ .exc c)(hs:zQ2 X e []:=by rfl)(hbase:attributeBase o "index" X.env (eval o X.env)=eval o X.env:=by rfl)(hfew:((backTo cpos (starEach [e] X.env)).all (λx=> !x.1)&&(backToKw cpos (keywordEach [] X.env)).all (λx=>x.1.isSome)&&decide (([e].length+([]:List Keyword).length+if ([]:List Keyword).isEmpty=true then 0 else 1)<30))=true:=by rfl)(hline:(apos.endLine==cpos.line)=true:=by rfl):PD X E (.Call (.Attribute o "index" apos) [e] [] cpos) (ac fo fe jH):=by
 intro pins s σ G H ρ I hsm hro hok;have hp:=lM (apos:=apos) (cpos:=cpos) (r:=y7 X.K) PySem.F.plainAttrs_list PySem.F.slot_list_index PySem.F.type_list_index (yt hu) (dP hoo) (cf (dP he) ef hs) hbase hfew hline hs rfl;refine aS (hp pins s σ H (λv H'=>∃d G',ac fo fe jH ρ= .ok d∧Ext G H G' H'∧Rep X.K G' d v) I ⟨G,ρ,hsm,hro,hok.fst,λd1 e1 v1 G1 H1 x1 p1=>?_⟩) λu s' hZ177=>(by obtain⟨v,H',I',r',d,G',e,x,rp⟩:=hZ177;exact⟨d,e,v,G',H',I',r',x,rp⟩);have kk:=hok.snd e1 x1.hh;have ty:∃l,d1= .lst l:=by
  cases q:fe ρ with
  |ok d2=>
   have O:=kk.snd q (Same.refl H1);unfold jH at O;split at O
   ·exact⟨_,rfl⟩
   ·exact O.elim
  |exc c=>exact absurd q (hex ρ c)
  |bad=>rw[q]at kk;exact kk.elim
 obtain⟨l,rfl⟩:=ty;have p1':=p1;rw[rep_lst]at p1';obtain⟨a,xs,rfl,sq,rl⟩:=p1';refine⟨.inl ⟨rfl,xs,x1.gh.seq sq.sq⟩,G1,ρ,x1.gh,hro.mono x1.gg,kk.fst,λd2 e2 v2 G2 H2 x2 p2=>?_⟩;have O:=kk.snd e2 x2.hh;have eo:ac fo fe jH ρ=jH (.lst l) d2:=by unfold ac;rw[e1,av,e2,av]
 unfold jH at O;dsimp only at O;by_cases hc:plL 19 l=true∧a7 19 d2=true∧aG l.length=true
 ·rw[Yj hc]at O;cases q:rQ l d2 with
  |none=>rw[q]at O;exact O.elim
  |some j=>
   have e3:jH (.lst l) d2= .ok (.int (j:Nat)):=by unfold jH;dsimp only;rw[Yj hc,q]
   exact⟨G2,l,d2,v2,j,x2.gh,p1.mono x2.gg,rfl,p2,hc.1,hc.2.1,hc.2.2,q,.int (j:Nat),G2,eo.trans e3,x1.trans x2,rep_int.mpr rfl⟩
 ·rw[Yi hc]at O;exact O.elim
end
def r_:∀(ρ:DS) (c:Addr),pN ρ≠ .exc c:=λρ c h=>by cases h
def ke {f:Z7}{g:Z6}(hf:∀ρ c,f ρ≠ .exc c)(hg:∀ρ c,g ρ≠ .exc c):∀ρ c,pC f g ρ≠ .exc c:=λρ c h=>by
 unfold pC at h;cases q:f ρ with
 |ok d=>
  rw[q]at h;cases q2:g ρ with
  |ok d=>rw[q2]at h;cases h
  |exc e=>exact hg ρ e q2
  |bad=>rw[q2]at h;cases h
 |exc e=>exact hf ρ e q
 |bad=>rw[q]at h;cases h
def u8 {μ:Z0}{f:Z7}(hf:∀ρ c,f ρ≠ .exc c):∀ρ c,bS μ f ρ≠ .exc c:=λρ c h=>hf _ c h
def qB {f:Z6}(hf:∀ρ c,f ρ≠ .exc c):∀ρ c,cE f ρ≠ .exc c:=λρ c h=>by
 unfold cE at h;cases q:f ρ with
 |ok d=>rw[q,av]at h;split at h <;> cases h
 |exc e=>exact hf ρ e q
 |bad=>rw[q]at h;cases h
def Dw {f:Z6}(hf:∀ρ c,f ρ≠ .exc c):∀ρ c,dl f ρ≠ .exc c:=λρ c h=>by
 unfold dl at h;cases q:f ρ with
 |ok d=>rw[q,av]at h;split at h <;> cases h
 |exc e=>exact hf ρ e q
 |bad=>rw[q]at h;cases h
section
variable{j jr n m:Nat}{g:Zm}{fi f:Z7}{ρ:DS}{p:Z0}{t d:D}{l rows:Zy}{c:Int}
def tI (h:ρ[j]?=some (some d)):nY j ρ= .ok []:=by unfold nY;rw[h]
def l9 {F:List D→Out}(hn:p.length=n)(ht:ρ[j]?=some (some t))(hp:bW p t=some (.lst rows)):ku ρ j n p F=F rows:=by
 unfold ku;rw[Yj hn,ht];dsimp only;rw[hp]
def vY (hg:g ρ= .ok p)(hn:p.length=n)(ht:ρ[j]?=some (some t))(hp:bW p t=some (.lst rows))(hr:rows.all oR=true):iU j jr n c g ρ= .nx ((ρ.set jr none).set j (some (bJ p t (.lst (rows.map (iP c)))))):=by
 unfold iU;rw[hg,aU,l9 hn ht hp];unfold xR;rw[ht];exact Yj hr
def qe (hg:g ρ= .ok p)(hf:f ρ= .ok d)(hn:p.length=n)(ht:ρ[j]?=some (some t))(hp:bW p t=some (.lst rows))(hr:rows.length≤100000):lU j n g f ρ= .nx (ρ.set j (some (bJ p t (.lst (rows ++ [d]))))):=by
 unfold lU;rw[hg,aU,hf,aU,l9 hn ht hp];unfold xp;rw[ht];exact Yj (Zk hr)
def Aq (hg:g ρ= .ok p)(hn:p.length=n)(ht:ρ[j]?=some (some t))(hp:bW p t=some (.lst rows)):ui j n g ρ= .nx (ρ.set j (some (bJ p t (.lst rows.reverse)))):=by
 unfold ui;rw[hg,aU,l9 hn ht hp];unfold y_;rw[ht]
def Ag (hg:g ρ= .ok p)(hf:f ρ= .ok (.lst l))(hn:p.length=n)(ht:ρ[j]?=some (some t))(hp:bW p t=some (.lst rows))(hr:rows.length+l.length≤100000):qj j n g f ρ= .nx (ρ.set j (some (bJ p t (.lst (rows ++ l))))):=by
 unfold qj;rw[hg,aU,hf,aU,l9 hn ht hp];unfold v9;rw[ht];exact Yj (Zk hr)
def l8 {ks:List (List bD)}{k:List bD}{kd:Zy}(ht:ρ[j]?=some (some (.dct ks l)))(hf:f ρ= .ok d)(hi:fi ρ= .ok (.tup kd))(hk:gl kd=some k)(hl:ks.length≤100000):fK j fi f ρ= .nx (ρ.set j (some (jP ks l k d))):=by
 unfold fK;rw[ht];dsimp only;rw[hf,aU,hi,aU];unfold pZ;dsimp only;rw[hk];exact Yj (Zk hl)
def CD {ks:List (List bD)}{k:List bD}{kd:Zy}(hg:g ρ= .ok p)(hn:p.length=n)(hi:fi ρ= .ok (.tup kd))(hk:gl kd=some k)(ht:ρ[j]?=some (some t))(hp:bW p t=some (.dct ks l))(hm:cu ks k=some m):zV j n g fi ρ= .ok (p ++ [m]):=by
 unfold zV;rw[hg,av,hi,av,Yj hn];unfold EC;rw[ht];dsimp only;rw[hp];dsimp only;rw[hk];dsimp only;rw[hm]
end
theorem len1 {α:Type}{P:List α→Prop}(h:∀a,P [a]):∀us:List α,us.length=1→P us
 | [a],_=>h a
theorem len2 {α:Type}{P:List α→Prop}(h:∀a b,P [a,b]):∀us:List α,us.length=2→P us
 | [a,b],_=>h a b
theorem og {α:Type}{P:List α→Prop}(h:∀a b c,P [a,b,c]):∀us:List α,us.length=3→P us
 | [a,b,c],_=>h a b c
theorem E5 {α:Type}{P:List α→Prop}(h:∀a b c d,P [a,b,c,d]):∀us:List α,us.length=4→P us
 | [a,b,c,d],_=>h a b c d
theorem F6 {α:Type}{P:List α→Prop}(h:∀a b c d e,P [a,b,c,d,e]):∀us:List α,us.length=5→P us
 | [a,b,c,d,e],_=>h a b c d e
section
variable{K:Z8}{f:Zz}{x y:Yq}{s:Yl}{m:Yq}{t c:Nat}
def kf (x y:Yq)(s:Yl)(m:Yq)(t c:Nat):Obj:=⟨.type "function",none,.func (W.fnOf x y (hJ s) (cM s) (ai s) .none .none .none (.str m t) none (.ref c) .none),#[]⟩
inductive FK (K:Z8)(f:Zz)(x y:Yq)(s:Yl):Prop
 |mk (m:Yq) (t c:Nat) (l:K.lookup f=some (kf x y s m t c)) (d:W.codeIn K (.ref c) y=true)
inductive FT (K:Z8)(x:Yq)(s:Yl):Prop
 |mk (f:Zz) (a:W.nsIn K mainGlobals x=some (some (.ref f))) (g:FK K f x x s)
inductive FM (K:Z8)(C:Zz)(x y:Yq)(s:Yl):Prop
 |mk (f:Zz) (a:W.findIn K (.ref C) x=some (some (.ref f))) (g:FK K f x y s)
def qu (l:K.lookup f=some (kf x y s m t c)):W.keepIn K (.ref f)=true:=by
 unfold W.keepIn;dsimp only;rw[l];rfl
theorem FK.kp:FK K f x y s→W.keepIn K (.ref f)=true
 |⟨_,_,_,l,_⟩=>qu l
theorem FK.fn:FK K f x y s→W.isFn K (.ref f)=true
 |⟨_,_,_,l,_⟩=>by
  unfold W.isFn W.typeIn;dsimp only;rw[l];rfl
theorem FK.mk1:FK K f x y s→∃fd,Fun K x y s f fd
 |⟨_,_,_,l,d⟩=>⟨_,xU l d (qu l)⟩
def lO {h:Y5}{mg:Z4}{ps:Zw}(X:K.In h)(G:h.Ns mainGlobals mg)(g:FT K x s)(b:∀(kV doc pm:Zc) (an:Option Addr) (cdv ct:Zc) (us:List Value),us.length=ps.length→bindArgs (W.fnOf x x (hJ s) (cM s) (ai s) .none kV doc pm an cdv ct) ⟨us,[]⟩=pure (ps.zip us)):Sta K mg x s ps:=by
 obtain⟨f,a,g⟩:=g;obtain⟨fd,F⟩:=g.mk1;exact⟨f,fd,F,F.binds b,W.mg_of X G a,g.kp⟩
end
end L2
namespace L2
open PySem
def RawD (h:Y5)(d:Zz)(es:Array DictEntry)(ep:Nat):Prop:=∃o,h.get? d=some o∧o.ExactDict∧o.data= .dict es ep
def RawD.ty {s:Z3}{es:Array DictEntry}{ep:Nat}(r:RawD s.heap d es ep):s.TypeIs (.ref d) "dict" :=let ⟨o,e,x,_⟩:=r;⟨o,e,x.1⟩
section
variable{P:Zv}{w:Zn}{A:Zl}{E:Z5}{s:Z3}{d it:Zz}{es:Array DictEntry}{ep i:Nat}
def sx {Q:Z5}(hd:(d==sysModules)=false)(r:RawD s.heap d es ep)(q:Q (.ref s.heap.objs.size) {s with heap:=s.heap.push ⟨.type "dict_keyiterator",none,.fields #[.ref d,.int 0 0,.int es.size 0,.int ep 0],#[]⟩}):wpAny (model P w) A (pyIter (.ref d)) Q E s:=by
 have ty:=r.ty;obtain⟨o,e,x,dt⟩:=r;refine wpAny_pyIter_slot ty PySem.F.slot_dict_iter (wpAny_call_entry PySem.F.slot_dict_iter ty PySem.F.entry_dict_iter ?_ (PySem.F.args_dict_iter_1 _));unfold Builtin.«dict.__iter__» Builtin.Dict.dictSlotNone;refine Zx (Zx (wpAny_notOrdered_dict ty (by show wpAny _ _ (pure (Value.ref d)) _ _ s;refine Zp ?_;show wpAny _ _ (Builtin.Dict.showsAll d >>= _) _ _ s;unfold Builtin.Dict.showsAll;rw[Yi (by rw[hd];exact Bool.false_ne_true)];refine Zx (Zp ?_);refine Zx (wpAny_dictEntries e dt ?_);refine Zx (wpAny_dictEpoch e dt ?_);refine Zx (wpAny_newObj_type (Zp ⟨_,rfl,"dict_keyiterator",_,⟨_,Heap.get?_push_size _ rfl,rfl⟩,PySem.F.slot_dict_keyiterator_next.lookup,?_⟩));simpa [rawInt] using q)))
def sy {Q:Option Value→Shared→Prop}(hit:s.heap.IsKeyIter it d i es.size ep)(r:RawD s.heap d es ep)(hi:i<es.size)(q:∀h',h'.IsKeyIter it d (i+1) es.size ep→Heap.SameBut it s.heap h'→Q (some es[i].key) {s with heap:=h'}):wpAny (model P w) A (pyNext (.ref it)) Q E s:=by
 have it':=hit;obtain⟨io,e1,c1,d1⟩:=it';obtain⟨o,e,x,dt⟩:=r;unfold pyNext;have own:Builtin.Dict_items.ownsTuple "dict_keyiterator" =false:=by decide
 refine Zx (wpAny_attempt (wpAny_callSpecial?_slot (name:=Str.ofString "__next__") hit.typeIs PySem.F.slot_dict_keyiterator_next (wpAny_call_entry PySem.F.slot_dict_keyiterator_next hit.typeIs PySem.F.entry_dict_keyiterator_next ?_ (PySem.F.args_dict_keyiterator_next_1 _))));refine Zx (Zp (Zx (Zx ?_)))
 first|refine Zx (wpAny_typeNameOfWhole_keyiter hit.typeIs (Zp (Zx (wpAny_fieldsOf e1 d1 ?_))))|refine Zx (wpAny_typeNameOf_keyiter hit.typeIs (Zp (Zx (wpAny_fieldsOf e1 d1 ?_))))
 simp only[own,false_eq_true,if_false];show wpAny _ _ (if (Value.ref d==Value.none)=true then _ else _) _ _ s
 rw[Yi (show ¬((Value.ref d==Value.none)=true) from Bool.false_ne_true)];refine Zx (Zp (Zx (wpAny_dictEntries e dt ?_)));rw[Yi (by simp)];refine Zx (Zp (Zx (wpAny_dictEpoch e dt ?_)));rw[Yi (by simp)];refine Zp ?_;simp only[show ¬((i:Int)<0) from by omega,if_false,toNat_natCast,getElem?_eq_getElem hi];refine Zx ?_
 first|refine Zx (wpAny_typeNameOfWhole_keyiter hit.typeIs (Zp (Zx (wpAny_isOneOf_keyiter hit.typeIs ?_))))|refine Zx (wpAny_typeNameOf_keyiter hit.typeIs (Zp (Zx (wpAny_isOneOf_keyiter hit.typeIs ?_))))
 show wpAny _ _ (setField (.ref it) 1 (rawInt ((i:Int)+1)) >>= _) _ _ s;refine Zx (wpAny_setField e1 d1 (by simp) ?_);have nx:(s.heap.update it (Obj.mapFields (·.setIfInBounds 1 (rawInt ((i:Int)+1))))).IsKeyIter it d (i+1) es.size ep:=⟨_,Heap.get?_update_self _ e1 (Obj.isFreed_of_fields (Obj.data_mapFields d1 _)),(Obj.cls_mapFields ..).trans c1,by rw[Obj.data_mapFields d1];simp[rawInt]⟩;refine Zx (wpAny_holding (Zx (wpAny_isOneOf_keyiter (s:={s with heap:=s.heap.update it (Obj.mapFields (·.setIfInBounds 1 (rawInt ((i:Int)+1))))}) nx.typeIs ?_)))
 show wpAny _ _ (pure es[i].key) _ _ _;exact Zp (Zp ⟨_,rfl,Zp (q _ nx (Heap.SameBut.update ..))⟩)
def vv {Q:Option Value→Shared→Prop}(hh:A.handled=none)(hit:s.heap.IsKeyIter it d i es.size ep)(r:RawD s.heap d es ep)(hi:es.size≤i)(q:∀h',Heap.ExtBut it s.heap h'→Q none {s with heap:=h'}):wpAny (model P w) A (pyNext (.ref it)) Q E s:=by
 have it':=hit;obtain⟨io,e1,c1,d1⟩:=it';obtain⟨o,e,x,dt⟩:=r;unfold pyNext;have own:Builtin.Dict_items.ownsTuple "dict_keyiterator" =false:=by decide
 refine Zx (wpAny_attempt (wpAny_callSpecial?_slot (name:=Str.ofString "__next__") hit.typeIs PySem.F.slot_dict_keyiterator_next (wpAny_call_entry PySem.F.slot_dict_keyiterator_next hit.typeIs PySem.F.entry_dict_keyiterator_next ?_ (PySem.F.args_dict_keyiterator_next_1 _))));refine Zx (Zp (Zx (Zx ?_)))
 first|refine Zx (wpAny_typeNameOfWhole_keyiter hit.typeIs (Zp (Zx (wpAny_fieldsOf e1 d1 ?_))))|refine Zx (wpAny_typeNameOf_keyiter hit.typeIs (Zp (Zx (wpAny_fieldsOf e1 d1 ?_))))
 simp only[own,false_eq_true,if_false];show wpAny _ _ (if (Value.ref d==Value.none)=true then _ else _) _ _ s
 rw[Yi (show ¬((Value.ref d==Value.none)=true) from Bool.false_ne_true)];refine Zx (Zp (Zx (wpAny_dictEntries e dt ?_)));rw[Yi (by simp)];refine Zx (Zp (Zx (wpAny_dictEpoch e dt ?_)));rw[Yi (by simp)];refine Zp ?_;simp only[show ¬((i:Int)<0) from by omega,if_false,toNat_natCast,Array.getElem?_eq_none hi];refine Zx ?_
 first|refine Zx (wpAny_typeNameOfWhole_keyiter hit.typeIs (Zp ?_));show wpAny _ _ (setField (.ref it) 0 .none >>= _) _ _ s|refine Zx (wpAny_typeNameOf_keyiter hit.typeIs (Zp ?_));show wpAny _ _ (setField (.ref it) 0 .none >>= _) _ _ s
 refine Zx (wpAny_setField e1 d1 (by simp) ?_);show wpAny _ _ (newExc (.type "StopIteration") [] >>= _) _ _ _;refine Zx ?_;simp only[newExc,newTuple];refine Zx (wpAny_newObj_type ?_ (by size_fits));refine Zx (m:=firstArgMember _ _) (wpAny_of_eq (a:=Value.none) (by first|rfl|(simp only[firstArgMember];rfl)) ?_)
 refine wpAny_newObj_type ?_ (by size_fits);simp only[raiseNew];refine Zx (wpAny_handled ?_);rw[show A.in1.handled=none from hh];refine Zx (Zp (wpAny_throw ?_));refine Zx (wpAny_isInstance (T:= "StopIteration") (b:=true) ⟨_,Heap.get?_push_size _ rfl,rfl⟩ isSubtype_stop ?_);exact Zp (q _ (((Heap.SameBut.update ..).extBut.push _).push _))
end
section
variable{P:Zv}{w:Zn}{A:Zl}{E:Z5}{s:Z3}{d:Zz}{es:Array DictEntry}{ep:Nat}
def Bp {Q:Z5}(hd:(d==sysModules)=false)(r:RawD s.heap d es ep)(hf:(es.size:Int)<2 ^ 63)(q:∀t t',Q (.int es.size t) {s with toks:=t'}):wpAny (model P w) A (call (.builtin "len") [.ref d]) Q E s:=by
 have ty:=r.ty;obtain⟨o,e,x,dt⟩:=r;refine Calls.call_function_entry kind_len plain_len entry_len (args_len1 _) ?_;unfold Builtin.«len»;refine Zx (m:=oneArg "len" _) (Zp ?_);refine Zx (m:=callSpecial? (.ref d) (Str.ofString "__len__")) (wpAny_callSpecial?_slot (name:=Str.ofString "__len__") ty PySem.F.slot_dict_len (wpAny_call_entry PySem.F.slot_dict_len ty PySem.F.entry_dict_len ?_ (PySem.F.args_dict_len_1 _)));unfold Builtin.«dict.__len__»;refine Zx ?_;unfold Builtin.Dict.dictSlotNone;refine Zx (wpAny_notOrdered_dict ty ?_);show wpAny _ _ (pure (Value.ref d)) _ _ s;refine Zp ?_;show wpAny _ _ (dictSize d >>= _) _ _ s;unfold dictSize;refine Zx (Zx (wpAny_dictEntries e dt (Zp ?_)));show wpAny _ _ (Builtin.Dict.pendingCount d >>= _) _ _ s;refine Zx (wpAny_pendingCount_other hd ?_);refine wpAny_ret_mkInt ?_;rw[show ((es.size:Int)+((0:Nat):Int))=(es.size:Int) from by simp];refine Zx (wpAny_holding (Zp ?_));refine Zx (wpAny_letGo ?_);show wpAny _ _ (if ((es.size:Nat):Int)<0 then _ else _) _ _ _;rw[Yi (by omega)]
 show wpAny _ _ (if ((es.size:Nat):Int) ≥ 2 ^ 63 then _ else _) _ _ _;rw[Yi (by omega)];exact Zx (wpAny_mkInt (Zp ⟨_,rfl,q _ _⟩))
end
end L2
namespace L2
open PySem PySem.Spec PyProof.Rows
def Gu (a:Zz)(o:Obj)(kvs:List (List bD×V)):It:=
 ⟨λi H=>H a=some (.frz o (.dT kvs))∧i<kvs.length,λi H x H'=>H'=H∧∃b k,(kvs.map (·.1))[i]?=some k∧x= .ref b∧H b=some (.tup (k.map kV)),λi H=>H a=some (.frz o (.dT kvs))∧kvs.length≤i⟩
theorem Paired.at2 {α β:Type}{R:α→β→Prop}:∀{l:List α} {m:List β},Paired R l m→l.length=m.length∧∀(i:Nat) (h1:i<l.length) (h2:i<m.length),R l[i] m[i]
 |_,_,.nil=>⟨rfl,λi h=>by cases h⟩
 |_,_,.cons r t=>by
  obtain⟨a,b⟩:=Paired.at2 t;refine⟨by rw[length_cons,length_cons,a],λi h1 h2=>?_⟩;cases i with
  |zero=>exact r
  |succ i=>exact b i (by simpa using h1) (by simpa using h2)
def qk {X:Cx}{pins:Z9}{σ:St}{H:Hp}{s:Z3}{o:Obj}{kvs:List (List bD×V)}(I:Inv X pins σ H s)(h:H a=some (.frz o (.dT kvs))) :
  ∃es ep,o.data= .dict es ep∧RawD s.heap a es ep∧es.size=kvs.length∧(a==sysModules)=false∧kvs.length≤sizeLine∧∀(i:Nat) (h1:i<kvs.length) (h2:i<es.size),∃b,es[i].key= .ref b∧H b=some (.tup (kvs[i].1.map kV)):=by
 obtain⟨ho,z,hd,xs,pr,o',es,ep,ho',ex,dt,he,nd⟩:=(show ObjOk X.prog X.w H s.heap a (.frz o (.dT kvs)) from I.hok a _ h);rw[ho]at ho';cases ho';obtain⟨hl,at'⟩:=Paired.at2 pr;have hsz:es.size=kvs.length:=by rw[←length_toList,he,length_map,hl]
 refine⟨es,ep,dt,⟨o,ho,ex,dt⟩,hsz,hd,z,λi h1 h2=>?_⟩;have h3:i<xs.length:=by omega
 have e1:es[i]=entryOfKey (tupleKind (bK X.prog X.w)) xs[i]:=by
  have:es.toList[i]?=some (entryOfKey (tupleKind (bK X.prog X.w)) xs[i]):=by rw[he,getElem?_map,d_ h3];rfl
  rw[getElem?_toList,getElem?_eq_getElem h2]at this;exact Option.some.inj this
 exact⟨xs[i].2.1,by rw[e1];rfl,(at' i h1 h3).2.1⟩
def wX {P:Zv}{w:Zn}{K:Z8}(a it:Zz)(o:Obj)(kvs:List (List bD×V)):Turn P w K tg (Gu a o kvs) [it] it (λi h=>∃es ep,o.data= .dict es ep∧h.IsKeyIter it a i es.size ep) where
 mem:=by simp
 obj:=λi h ⟨es,ep,_,st⟩ b x=>by
  have e:b=it:=by simpa using x
  subst e;obtain⟨o,e,c,d⟩:=st;exact⟨o,e,λv z=>by rw[d]at z;cases z⟩
 keep:=λi h h' ⟨es,ep,e,o,e1,c,d⟩ k=>⟨es,ep,e,o,k it (by simp) o e1,c,d⟩
 item:=by
  rintro X hP hw hK hc i pins s σ H E I hf ⟨es,ep,ed,st⟩ ⟨hg,hi⟩;subst hP hw hK;obtain⟨es',ep',dt,rw',hsz,hd,hz,at'⟩:=qk I hg;rw[ed]at dt;cases dt;obtain⟨f0,f1,f2,f3,f4,f5⟩:=hf it (by simp);have hi':i<es.size:=by omega
  obtain⟨b,x,hH⟩:=at' i hi hi';refine sy st rw' hi' λh' st' sb=>?_;have I1:Inv X pins σ H {s with heap:=h'}:=I.turned (t':=s.toks) (λb o x e=>(sb.2 b x).trans e) f0 f1 f3 f4 f5
  obtain⟨o,e,c,d⟩:=id st';rw[x];exact⟨_,rfl,uY (s:={s with heap:=h'}) e c d (by decide) ⟨.ref b,H,I1,rfl,⟨rfl,b,kvs[i].1,by rw[getElem?_map,d_ hi];rfl,rfl,hH⟩,⟨es,ep,ed,st'⟩,λb x=>(hf b x).1⟩⟩
 done:=by
  rintro X hP hw hK hc i pins s σ H E I hf ⟨es,ep,ed,st⟩ ⟨hg,hi⟩;subst hP hw hK;obtain⟨es',ep',dt,rw',hsz,hd,hz,at'⟩:=qk I hg;rw[ed]at dt;cases dt;obtain⟨f0,f1,f2,f3,f4,f5⟩:=hf it (by simp);exact vv (I.ok.hd hc) st rw' (by omega) λh' eb=>⟨rfl,I.turned (t':=s.toks) (λb o x e=>eb b o x e) f0 f1 f3 f4 f5⟩
 self:=λ_ _ _ _ _ ⟨es,ep,_,st⟩ h=>wpAny_pyIter_keyiter st h
def kD:bD→D
 |.inl i=>.int i
 |.inr x=>.str x
def oe (k:List bD):D:=.tup (k.map kD)
theorem nH {K:Z8}{G:Hp}:∀(k:List bD),RepL K G (k.map kD) (k.map kV)
 | []=>.nil
 |k::r=>.cons (by cases k with|inl i=>exact rep_int.mpr rfl|inr x=>exact rep_str.mpr rfl) (nH r)
def zu {K:Z8}{G:Hp}{o:Obj}{kvs:List (List bD×V)}(h:G a=some (.frz o (.dT kvs))):zR K (Gu a o kvs) ((kvs.map (·.1)).map oe) G:=by
 intro G2 H2 g1 g2 i;refine⟨λd hd=>?_,λhl=>⟨g2 _ _ (g1 _ _ h),by simpa using hl⟩⟩;rw[getElem?_map]at hd;cases q:(kvs.map (·.1))[i]? with
 |none=>rw[q]at hd;cases hd
 |some k=>
  rw[q]at hd;cases hd;have hi:i<kvs.length:=by have:=(d8 q).1;simpa using this
  refine⟨⟨g2 _ _ (g1 _ _ h),hi⟩,λx H' hZ178=>?_⟩;obtain⟨e,b,k',hk,hx,hH⟩:=hZ178;subst e hx;rw[q]at hk;cases hk;have gg:Same G2 (bc G2 b (.tup (k.map kV))):=λc u e=>by
   by_cases hc:c=b
   ·subst hc;have:=g2 _ _ e;rw[hH]at this;cases this;exact ao
   ·rw[aj hc];exact e
  refine⟨bc G2 b (.tup (k.map kV)),⟨.refl _,gg,λc u e=>?_,λc u e=>?_⟩,rep_tup.mpr ⟨b,_,rfl,.of ao,nH k⟩⟩
  ·by_cases hc:c=b
   ·subst hc;rw[ao]at e;rw[←e];exact hH
   ·rw[aj hc]at e;exact g2 c u e
  ·by_cases hc:c=b
   ·subst hc;rw[ao]at e;cases e;exact .inr (.inr ⟨k,rfl⟩)
   ·rw[aj hc]at e;exact .inl e
def m3:D→Res (List D)
 |.fdc ks _=>.ok (ks.map oe)
 |_=>.bad
section
variable{X:Cx}{E:XK}{μ:Z0}{n:Nat}{tg:Expr}
def sk {f:Z7}(h:PD X E e f):PI X tg e (tDI X.K E (λρ=>(f ρ).bind m3)):=by
 intro pins s σ H R I hZ33;obtain⟨G,ρ,hs,hro,ho,k⟩:=hZ33;refine aS (dP h pins s σ H (λv H1=>∃a o N G1,v= .ref a∧Ext G H G1 H1∧G1 a=some (.frz o (.dT N))∧((f ρ).bind m3)= .ok ((N.map (·.1)).map oe)) I ⟨G,ρ,hs,hro,ho.fst,λd e v G1 H1 x1 p1=>?_⟩) λv s1 hZ179=>?_
 ·have kk:=ho.snd e x1.hh;cases d with
  |fdc ks l=>
   rw[rep_fdc]at p1;obtain⟨a,o,N,rfl,ga,hk,rl⟩:=p1;exact⟨a,o,N,G1,rfl,x1,ga,by rw[e,av,←hk];rfl⟩
  |_=>exact kk.elim
 ·obtain⟨x,H1,I1,r1,a,o,N,G1,ex,x1,ga,ek⟩:=hZ179;subst ex;cases r1;obtain⟨es,ep,dt,rw',hsz,hd,hz,at'⟩:=qk I1 (x1.gh _ _ ga);refine sx hd rw' ?_;exact⟨s1.heap.objs.size,[s1.heap.objs.size],_,_,H1,rfl,I1.kept (t':=s1.toks) λb o e=>Heap.get?_push_of_some _ e,wX a _ o N,⟨es,ep,dt,_,Heap.get?_push_size _ rfl,rfl,rfl⟩,λb hb=>by
   have e:b=s1.heap.objs.size:=by simpa using hb
   subst e;exact I1.fpOk (le_refl _) (I1.hok.fresh (le_refl _)),k _ ek _ G1 H1 x1 (zu ga)⟩
def qy:List D→Res D
 | [.dct ks _]=>.ok (.int ks.length)
 | [.fdc ks _]=>.ok (.int ks.length)
 |_=>.bad
def vK:dZ X (.builtin "len") (λxs H Q=>∃a kvs,xs=[V.ref a]∧Rd H a (.dT kvs)∧Q (.int kvs.length) H):=by
 intro pins s σ H xs us Q I r h;obtain⟨a,kvs,rfl,ha,q⟩:=h;obtain⟨u,rfl,ru⟩:=i8 r;cases ru;obtain⟨z,hd,xs,pr,o,es,ep,ho,ex,dt,he,nd⟩:=vw I.hok ha;obtain⟨hl,_⟩:=Paired.at2 pr;have hsz:es.size=kvs.length:=by rw[←length_toList,he,length_map,hl]
 have hz:=sizeLine_eq;exact Bp hd ⟨o,ho,ex,dt⟩ (by omega) λt t'=>⟨.int kvs.length,H,I.tok t',⟨t,by rw[hsz]⟩,q⟩
def Aa {K:Z8}:zO K E (λxs H Q=>∃a kvs,xs=[V.ref a]∧Rd H a (.dT kvs)∧Q (.int kvs.length) H) qy:=by
 intro G H vs ds Q hs rl ok k;unfold qy at ok k;split at ok
 ·obtain⟨v,r,rfl,rx,r0⟩:=rl.inv;rw[r0.inv0];rw[rep_dct]at rx;obtain⟨a,kvs,rfl,rd,hk,_⟩:=rx;subst hk;exact⟨a,kvs,rfl,hs.rd rd,by have:=k _ _ G H rfl (.refl hs) (rep_int.mpr rfl);simpa using this⟩
 ·obtain⟨v,r,rfl,rx,r0⟩:=rl.inv;rw[r0.inv0];rw[rep_fdc]at rx;obtain⟨a,o,kvs,rfl,rd,hk,_⟩:=rx;subst hk;exact⟨a,kvs,rfl,hs.rd (.inr ⟨o,rd⟩),by have:=k _ _ G H rfl (.refl hs) (rep_int.mpr rfl);simpa using this⟩
 ·exact ok.elim
def u_ {f:Z7}(hm:X.mg "len" =none)(h:PD X E e f)(hg:Gl X "len" :=by rfl)(he:zQ2 X e []:=by rfl):PD X E (.Call (.Name "len" p) [e] [] pos) (λρ=>(f ρ).bind λa=>qy [a]):=
 qC ▸ kh (X:=X) (E:=E) (p:=p) (pos:=pos) vK Aa hg hm PySem.boot_len (aa h ae he) (by decide) (by decide) he rfl
def AD:D→Res D
 |.dct ks l=>.ok (.fdc ks l)
 |_=>.bad
def Inv.frz {pins:Z9}{σ:St}{H:Hp}{s:Z3}{o:Obj}{kvs:List (List bD×V)}(I:Inv X pins σ H s)(h:H a=some (.dT kvs))(ho:s.heap.get? a=some o):Inv X pins σ (bc H a (.frz o (.dT kvs))) s:=by
 have ne:∀{b:Zz} {u:HO},H b=some u→u≠ .dT kvs→b≠a:=λe hu z=>by subst z;rw[h]at e;cases e;exact hu rfl
 refine I.un (t':=s.toks) ⟨λb u e _ _ _=>e,λb u e _ _ _=>⟨u.slots,e⟩,λb u _ n _=>?_,λb u e _=>⟨u,e⟩,λb xs e=>?_,λb u v e=>?_,λb ps e=>?_⟩ λb u e=>?_
 ·rw[aj (λz=>by subst z;rw[h]at n;cases n)];exact n
 ·rw[aj (ne e (λz=>by cases z))];exact e
 ·rw[aj (ne e (λz=>by cases z))];exact e
 ·exact⟨#[],by rw[aj (ne e (λz=>by cases z)),e];simp⟩
 ·have st:∀{c:Zz} {v:HO},ObjOk X.prog X.w H s.heap c v→ObjOk X.prog X.w (bc H a (.frz o (.dT kvs))) s.heap c v:=λx=>x.stay (λ_ _ _ e=>e) (λb e=>by rw[aj (ne e (λz=>by cases z))];exact e) λb xs e=>by rw[aj (ne e (λz=>by cases z))];exact e
  by_cases hb:b=a
  ·subst hb;rw[ao]at e;cases e;exact⟨ho,st (I.hok _ _ h)⟩
  ·rw[aj hb]at e;exact st (I.hok b u e)
def PN.pdF {f:Z7}(h:PN X E (n+1) e f):PD X E e (λρ=>(f ρ).bind AD):=by
 intro pins s σ G H ρ I hs hr ho;refine aS (h pins s σ G H ρ I hs hr ho.fst) λu s' hZ180=>?_;obtain⟨d,e,v,G',H',S,I',rv,x,o,w⟩:=hZ180;have kk:=ho.snd e x.hh;cases d with
 |dct ks l=>
  obtain⟨a,N,T,rfl,ha,hk,rfl,os⟩:=o;obtain⟨_,_,_,_,ob,_,_,hob,_⟩:=(show ObjOk X.prog X.w H' s'.heap a (.dT N) from I'.hok a _ ha);obtain⟨haT,ndT⟩:=nodup_cons.mp w.1;have wa:=w.2 a (mem_cons_self ..);have wT:∀b∈T,H b=none∧G' b=none:=λb hb=>w.2 b (cN hb);have dec:∀b,Decidable (b∈T):=λb=>Classical.propDecidable _;have g3:∀b,(λb=>if b=a then some (HO.frz ob (.dT N)) else if b∈T then H' b else G' b:Hp) b=if b=a then some (HO.frz ob (.dT N)) else if b∈T then H' b else G' b:=λ_=>rfl
  generalize hG3:(λb=>if b=a then some (HO.frz ob (.dT N)) else if b∈T then H' b else G' b:Hp)=G3 at g3
  have ga:G3 a=some (.frz ob (.dT N)):=by rw[g3,Yj rfl]
  have gT:∀b∈T,G3 b=H' b:=λb hb=>by rw[g3,Yi (λ(z:b=a)=>haT (z ▸ hb)),Yj hb]
  have gO:∀b,b≠a→b∉T→G3 b=G' b:=λb h1 h2=>by rw[g3,Yi h1,Yi h2]
  have sg:Same G' G3:=λb u e=>by
   rw[gO b (λz=>by subst z;rw[wa.2]at e;cases e) (λz=>by rw[(wT b z).2]at e;cases e)];exact e
  refine⟨.fdc ks l,al e rfl,.ref a,G3,bc H' a (.frz ob (.dT N)),I'.frz ha hob,rv,⟨λb u e=>?_,x.gg.trans sg,λb u e=>?_,λb u e=>?_⟩,rep_fdc.mpr ⟨a,ob,N,rfl,ga,hk,os.rep λd v A hA ow=>ow.rep sg λb hb u e=>by rw[gT b (hA b hb)];exact e⟩⟩
  ·rw[aj (λz=>by subst z;rw[wa.1]at e;cases e)];exact x.hh b u e
  ·by_cases h1:b=a
   ·subst h1;rw[ga]at e;rw[ao];exact e
   ·rw[aj h1];by_cases h2:b∈T
    ·rw[gT b h2]at e;exact e
    ·rw[gO b h1 h2]at e;exact x.gh b u e
  ·by_cases h1:b=a
   ·subst h1;exact .inr (.inl wa.1)
   ·by_cases h2:b∈T
    ·exact .inr (.inl (wT b h2).1)
    ·rw[gO b h1 h2]at e;exact x.nw b u e
 |_=>exact kk.elim
def zv (ns:Z2):List Int:=ns.mergeSort (λa b=>decide (a≤b))
def ls (ns:Z2):(zv ns).Perm ns:=List.mergeSort_perm ..
def sK (ns:Z2):(zv ns).Pairwise (· ≤ ·):=by
 have h:=List.pairwise_mergeSort (le:=λa b:Int=>decide (a≤b)) (λa b c h1 h2=>by simp at *;omega) (λa b=>by simp;omega) ns;exact h.imp λ{a b} h=>by simpa using h
theorem mx:∀{a b:List Int},a.Perm b→a.Pairwise (· ≤ ·)→b.Pairwise (· ≤ ·)→a=b
 | [],b,p,_,_=>(List.nil_perm.mp p).symm
 |x::a,[],p,_,_=>absurd p.length_eq (by simp)
 |x::a,y::b,p,h1,h2=>by
  obtain⟨i1,i2⟩:=List.pairwise_cons.mp h1;obtain⟨j1,j2⟩:=List.pairwise_cons.mp h2;have e:x=y:=by
   have hx:=p.mem_iff.mp (mem_cons_self (a:=x) (l:=a));have hy:=p.mem_iff.mpr (mem_cons_self (a:=y) (l:=b))
   rcases mem_cons.mp hx with z|z
   ·exact z
   ·rcases mem_cons.mp hy with z'|z'
    ·exact z'.symm
    ·have:=j1 x z;have:=i1 y z';omega
  subst e;rw[mx (List.perm_cons x |>.mp p) i2 j2]
theorem sV:∀{us:Z1} {ns:List Int},IntsAre us ns→Vals (ns.map V.int) us
 |_,_,.nil=>.nil
 |_,_,.cons n t h=>.cons ⟨t,rfl⟩ (sV h)
def lq:List D→Res D
 | [.lst l]=>(match allInts l with|some ns=>if ns.length<64 then .ok (.lst ((zv ns).map D.int)) else .bad|none=>.bad)
 |_=>.bad
def tz:dZ X (.builtin "sorted") (λxs H Q=>∃p ns,xs=[.ref p]∧f_ X.K H p (ns.map V.int)∧ns.length<64∧∀l,H l=none→Q (.ref l) (bc H l (.lst ((zv ns).map V.int)))):=by
 intro pins s σ H xs us Q I r h;obtain⟨p,ns,rfl,sq,h64,q⟩:=h;obtain⟨u,rfl,ru⟩:=i8 r;cases (show u= .ref p from ru);obtain⟨its,rv,pl,hz⟩:=I.list sq;have hil:=rv.length;rw[length_map]at hil;refine sorted_ints pl.isList (jI rv) (by omega) λout ns' a1 a2 a3=>?_;have e:ns'=zv ns:=mx (a2.trans (ls ns).symm) a3 (sK ns);subst e;have hl:=(ls ns).length_eq;have key:=jJ (vs:=its) (out:=out.toList) I (sV a1) (by rw[length_map,hl];have:=sizeLine_eq;omega) q;rw[Array.toArray_toList]at key;exact key
def yS {f:Z7}(hm:X.mg "sorted" =none)(h:PD X E e f)(hg:Gl X "sorted" :=by rfl)(he:zQ2 X e []:=by rfl):PD X E (.Call (.Name "sorted" p) [e] [] pos) (λρ=>(f ρ).bind λa=>lq [a]):=by
 refine qC ▸ kh (X:=X) (E:=E) (p:=p) (pos:=pos) tz ?_ hg hm boot_sorted (aa h ae he) (by decide) (by decide) he rfl;intro G H vs ds Q hs rl ok k;unfold lq at ok k;split at ok
 ·rename_i l;obtain⟨v,r,rfl,rx,r0⟩:=rl.inv;rw[r0.inv0];dsimp only at ok k;cases q:allInts l with
  |none=>rw[q]at ok;exact ok.elim
  |some ns=>
   rw[q]at ok k;dsimp only at ok k;by_cases hc:ns.length<64
   ·rw[Yj hc]at k;have el:=gP q;subst el;rw[rep_lst]at rx;obtain⟨a,xs,rfl,sq,rx⟩:=rx;have ex:=rx.ints;subst ex;exact⟨a,ns,rfl,hs.seq sq.sq,hc,λl hl=>k _ _ _ _ rfl (.new hs hl _) (rep_lst.mpr ⟨l,_,rfl,.of ao,.of_ints _⟩)⟩
   ·rw[Yi hc]at ok;exact ok.elim
 ·exact ok.elim
end
abbrev sD (f:Z7):DS→Res (List D):=λρ=>(f ρ).bind m3
abbrev FD (f:Z7):DS→Res D:=λρ=>(f ρ).bind AD
def nC (j i:Nat)(l r:Zy)(ρ:DS):D→Out
 |.int k=>(match oU r.length k with
  |some m=>(match r[m]? with
   |some x=>if aG l.length=true∧aG r.length=true then .nx ((ρ.set i (some (.lst (r.eraseIdx m)))).set j (some (.lst (l ++ [x])))) else .bad
   |none=>.bad)
  |none=>.bad)
 |_=>.bad
def gU (j i:Nat)(fi:Z7):DS→Out:=λρ=>match ρ[j]?,ρ[i]? with
 |some (some (.lst l)),some (some (.lst r))=>(fi ρ).out (nC j i l r ρ)
 |_,_=>.bad
section
variable{X:Cx}{E:XK}{μ:Z0}{r:Nat}
def wJ {j i:Nat}{px py apos cpos apos2 cpos2 pos:Yn}{fi:Z7}(hji:i≠j)(hm:μ.getD j 0=1)(hm2:μ.getD i 0=1)(hN:X.N[j]?=some x)(hN2:X.N[i]?=some y)(hv:tm X.env.scope x)(hv2:tm X.env.scope y)(hi:PD X E e fi)(hd:zQ1 x:=by decide) (hcd:(x==("__classdict__" :Str))=false:=by decide)(hd2:zQ1 y:=by decide) (hcd2:(y==("__classdict__" :Str))=false:=by decide)(hs:zQ2 X e []:=by rfl)(hs2:starEach [.Call (.Attribute (.Name y py) "pop" apos2) [e] [] cpos2] X.env=(false,eval (.Call (.Attribute (.Name y py) "pop" apos2) [e] [] cpos2) X.env)::starEach [] X.env:=by rfl)(hbase:attributeBase (.Name x px) "append" X.env (eval (.Name x px) X.env)=eval (.Name x px) X.env:=by rfl)(hbase2:attributeBase (.Name y py) "pop" X.env (eval (.Name y py) X.env)=eval (.Name y py) X.env:=by rfl)(hfew:((backTo cpos (starEach [.Call (.Attribute (.Name y py) "pop" apos2) [e] [] cpos2] X.env)).all (λx=> !x.1)&&(backToKw cpos (keywordEach [] X.env)).all (λx=>x.1.isSome)&&decide (([Expr.Call (.Attribute (.Name y py) "pop" apos2) [e] [] cpos2].length+([]:List Keyword).length+if ([]:List Keyword).isEmpty=true then 0 else 1)<30))=true:=by rfl)(hfew2:((backTo cpos2 (starEach [e] X.env)).all (λx=> !x.1)&&(backToKw cpos2 (keywordEach [] X.env)).all (λx=>x.1.isSome)&&decide (([e].length+([]:List Keyword).length+if ([]:List Keyword).isEmpty=true then 0 else 1)<30))=true:=by rfl)(hline:(apos.endLine==cpos.line)=true:=by rfl) (hline2:(apos2.endLine==cpos2.line)=true:=by rfl)(hsw:swapsWith (.Call (.Attribute (.Name x px) "append" apos) [.Call (.Attribute (.Name y py) "pop" apos2) [e] [] cpos2] [] cpos) none pos.line X.env=pure false:=by rfl) :
  lR X E μ r (.Expr (.Call (.Attribute (.Name x px) "append" apos) [.Call (.Attribute (.Name y py) "pop" apos2) [e] [] cpos2] [] cpos) pos) (gU j i fi):=by
 intro pins s σ Ge B G H f fp I R ho;have hq:=lM (apos:=apos2) (cpos:=cpos2) (r:=uh) PySem.F.plainAttrs_list PySem.F.slot_list_pop PySem.F.type_list_pop (show xh X "list.pop" uh from yu) (eh (pos:=py) hN2 hv2 hd2 hcd2) (cf (dP hi) ef hs) hbase2 hfew2 hline2 hs rfl;have hp:=lM (apos:=apos) (cpos:=cpos) (r:=du) PySem.F.plainAttrs_list PySem.F.slot_list_append PySem.F.type_list_append (show xh X "list.append" du from gz) (eh (pos:=px) hN hv hd hcd) (cf hq ef hs2) hbase hfew hline hs2 rfl;have hslot:∃l d,f[j]?=some (some (.lst l))∧f[i]?=some (some (.lst d)):=by
  unfold gU at ho;split at ho
  ·rename_i l d q1 q2;exact⟨l,d,q1,q2⟩
  ·exact ho.elim
 obtain⟨l,d,hr,hr2⟩:=hslot;have eo:gU j i fi f=(fi f).out (nC j i l d f):=by
  unfold gU;rw[hr,hr2]
 rw[eo]at ho ⊢;obtain⟨a,xs,T,h1,h2,h3,h4⟩:=R.top (n:=0) hr hm;obtain⟨b,ys,U,k1,k2,k3,k4⟩:=R.top (n:=0) hr2 hm2;refine aS (eQ hp hsw pins s σ H {nx:=λσ' H'=>∃Q G' fp',(fi f).out (nC j i l d f)= .nx Q∧σ'=σ∧Rw X.K μ Ge B G' H' σ Q fp'∧Same G G',bk:=λ_ _=>False,ct:=λ_ _=>False,rt:=λ_ _=>False} I ?_) λfl s1 C=>?_
 ·refine⟨_,h1,.inl ⟨rfl,xs,.inl (.inl h2)⟩,_,k1,.inl ⟨rfl,ys,.inl (.inl k2)⟩,nX fp G H,f,R.vh,R.ro,ho.res.le R.bh,λdi ei vi G1 H1 x1 ri=>?_⟩;have J:=ho.res2 ei (Same.refl B);unfold nC at J;split at J
  ·rename_i k0;rw[rep_int]at ri;subst ri;cases hq:oU d.length k0 with
   |none=>rw[hq]at J;exact J.elim
   |some m=>
    rw[hq]at J;dsimp only at J;cases hz:d[m]? with
    |none=>rw[hz]at J;exact J.elim
    |some z=>
     rw[hz]at J;dsimp only at J;by_cases hc:aG l.length=true∧aG d.length=true
     ·have e0:(fi f).out (nC j i l d f)= .nx ((f.set i (some (.lst (d.eraseIdx m)))).set j (some (.lst (l ++ [z])))):=by
       rw[bN ei];unfold nC;dsimp only;rw[hq];dsimp only;rw[hz];exact Yj hc
      have R1:=R.grow x1;obtain⟨v1,b2,ys2,U2,p0,p1,p2,p3,p4,p5,p6,p7,p8,p9⟩:=R1.path (p:=[]) (n:=0) hm2 hr2 rfl;rw[k1]at p0;cases p0;cases (show V.ref b2= .ref b from p1);rw[x1.hh _ _ k2]at p2;cases p2;obtain⟨eU,rl⟩:=p3.zero;obtain⟨w,hw,rw'⟩:=rl.get hz;obtain⟨fp2,R2⟩:=p9 (ys.eraseIdx m) (d.eraseIdx m) [] (.of0 (rl.erase m)) nodup_nil (λc h=>by cases h);have hr3:(f.set i (some (bJ [] (.lst d) (.lst (d.eraseIdx m)))))[j]?=some (some (.lst l)):=by rw[getElem?_set_ne hji];exact hr
      obtain⟨v3,b3,ys3,U3,q0,q1,q2,q3,q4,q5,q6,q7,q8,q9⟩:=R2.path (p:=[]) (n:=0) hm hr3 rfl;rw[h1]at q0;cases q0;cases (show V.ref b3= .ref a from q1);have hab:a≠b:=λz=>hji (R.dj i j b (by rw[k3];exact mem_cons_self) (by rw[h3,z];exact mem_cons_self));rw[aj hab,x1.hh _ _ h2]at q2;cases q2;obtain⟨eU3,rl3⟩:=q3.zero;have rz:Rep X.K (nV (oa fp) G1) z w:=rw';obtain⟨fp3,R3⟩:=q9 (xs ++ [w]) (l ++ [z]) [] (.of0 (rl3.append (.cons rz .nil))) nodup_nil (λc h=>by cases h);have hml:m<ys.length:=(d8 hw).1;obtain⟨b1,b2⟩:=x_ hc.2 hq;have hlen:=rl.length;refine⟨b,ys,k0,m,w,rfl,rfl,x1.hh _ _ k2,b1,b2,by rw[←hlen];exact(ia hq).1,hw,?_⟩;exact⟨a,xs,w,rfl,rfl,by rw[aj hab];exact x1.hh _ _ h2,by rw[←rl3.length];exact gr hc.1,_,_,fp3,e0,rfl,R3,R.gg x1⟩
     ·rw[Yi hc]at J;exact J.elim
  ·exact J.elim
 ·cases fl with
  |next=>
   obtain⟨σ',H',I',Q,G',fp',e1,e2,R',sg⟩:=C;subst e2;exact⟨Q,_,G',H',fp',e1,I',R',sg⟩
  |brk=>obtain⟨_,_,_,C⟩:=C;exact C.elim
  |cont=>obtain⟨_,_,_,C⟩:=C;exact C.elim
  |ret u=>obtain⟨_,_,_,_,_,C⟩:=C;exact C.elim
def mw (j i:Nat):DS→Out:=λρ=>match ρ[j]?,ρ[i]? with
 |some (some (.lst l)),some (some d)=>if aG l.length=true then .nx ((ρ.set i none).set j (some (.lst (l ++ [d])))) else .bad
 |_,_=>.bad
def yO {n j i:Nat}{px py apos cpos pos:Yn}(hji:i≠j)(hm:μ.getD j 0=n+1)(hm2:μ.getD i 0=n)(hN:X.N[j]?=some x)(hN2:X.N[i]?=some y)(hv:tm X.env.scope x)(hv2:tm X.env.scope y)(hd:zQ1 x:=by decide) (hcd:(x==("__classdict__" :Str))=false:=by decide)(hd2:zQ1 y:=by decide) (hcd2:(y==("__classdict__" :Str))=false:=by decide)(hs:starEach [.Name y py] X.env=(false,eval (.Name y py) X.env)::starEach [] X.env:=by rfl)(hbase:attributeBase (.Name x px) "append" X.env (eval (.Name x px) X.env)=eval (.Name x px) X.env:=by rfl)(hfew:((backTo cpos (starEach [.Name y py] X.env)).all (λx=> !x.1)&&(backToKw cpos (keywordEach [] X.env)).all (λx=>x.1.isSome)&&decide (([Expr.Name y py].length+([]:List Keyword).length+if ([]:List Keyword).isEmpty=true then 0 else 1)<30))=true:=by rfl)(hline:(apos.endLine==cpos.line)=true:=by rfl)(hsw:swapsWith (.Call (.Attribute (.Name x px) "append" apos) [.Name y py] [] cpos) none pos.line X.env=pure false:=by rfl) :
  lR X E μ r (.Expr (.Call (.Attribute (.Name x px) "append" apos) [.Name y py] [] cpos) pos) (mw j i):=by
 intro pins s σ Ge B G H ρ fp I R ho;have hp:=lM (apos:=apos) (cpos:=cpos) (r:=du) PySem.F.plainAttrs_list PySem.F.slot_list_append PySem.F.type_list_append (show xh X "list.append" du from gz) (eh (pos:=px) hN hv hd hcd) (cf (eh (pos:=py) hN2 hv2 hd2 hcd2) ef hs) hbase hfew hline hs rfl;have hslot:∃l d,ρ[j]?=some (some (.lst l))∧ρ[i]?=some (some d):=by
  unfold mw at ho;split at ho
  ·rename_i l d q1 q2;exact⟨l,d,q1,q2⟩
  ·exact ho.elim
 obtain⟨l,d,hr,hr2⟩:=hslot;have eo:mw j i ρ=if aG l.length=true then .nx ((ρ.set i none).set j (some (.lst (l ++ [d])))) else .bad:=by
  unfold mw;rw[hr,hr2]
 rw[eo]at ho ⊢;by_cases hc:aG l.length=true
 ·rw[Yj hc];obtain⟨a,xs,T,h1,h2,h3,h4⟩:=R.top hr hm;obtain⟨v,k1,o⟩:=R.sl i d hr2;rw[hm2]at o;refine aS (eQ hp hsw pins s σ H {nx:=λσ' H'=>σ'=σ∧H'=bc H a (.lst (xs ++ [v])),bk:=λ_ _=>False,ct:=λ_ _=>False,rt:=λ_ _=>False} I ⟨_,h1,.inl ⟨rfl,xs,.inl (.inl h2)⟩,_,k1,a,xs,v,rfl,rfl,h2,by rw[←h4.length];exact gr hc,rfl,rfl⟩) λfl s1 C=>?_;cases fl with
  |next=>
   obtain⟨σ',H',I',e1,e2⟩:=C;subst e1 e2;have R1:=R.forget (i:=i) (o:=some v);rw[kA k1]at R1;exact⟨_,_,_,_,_,rfl,I',R1.app1 (S:=fp i) hm h1 h2 ((Yi (Ne.symm hji)).trans h3) h4 o (R.nd i) (λc hcc=>⟨⟨R.gf i c hcc,R.ob i c hcc⟩,λk hk=>by
    dsimp only at hk;by_cases hki:k=i
    ·rw[Yj hki]at hk;cases hk
    ·rw[Yi hki]at hk;exact hki (R.dj k i c hk hcc)⟩),.refl _⟩
  |brk=>obtain⟨_,_,_,C⟩:=C;exact C.elim
  |cont=>obtain⟨_,_,_,C⟩:=C;exact C.elim
  |ret u=>obtain⟨_,_,_,_,_,C⟩:=C;exact C.elim
 ·rw[Yi hc]at ho;exact ho.elim
def AM:D→Res D
 |.lst l=>.ok (.lst l)
 |_=>.bad
abbrev Gg (f:Z7)(lo hi:Y3):DS→Res D:=λρ=>(zN f lo hi ρ).bind AM
def yR {lo hi:Option Expr}{f:Z7}{fl fh:Y3}(he:PD X E e f)(hl:Ch X E lo fl)(hh:Ch X E hi fh):PN X E 1 (.Subscript e (.Slice lo hi none p2) pos) (Gg f fl fh):=by
 refine .tn (sf (pos:=pos) (p2:=p2) (sl_list.or zq) (dP he) hl hh) λσ G H ρ Q hs hro ho k=>⟨G,ρ,hs,hro,ho.fst.fst,λd e v G1 H1 x1 p1=>?_⟩;have k1:=ho.fst.snd e x1.hh;refine⟨G1,ρ,x1.gh,hro.mono x1.gg,k1.fst,λl el G2 H2 x2=>?_⟩;have k2:=k1.snd el x2.hh;refine⟨G2,ρ,x2.gh,(hro.mono x1.gg).mono x2.gg,k2.fst,λu eu G3 H3 x3=>?_⟩;have x13:=(x1.trans x2).trans x3;have p3:=p1.mono (x2.gg.trans x3.gg);have e0:zN f fl fh ρ=fG l u d:=by unfold zN;rw[e,av,el,av,eu,av]
 have k3:OkR E H ((fG l u d).bind AM):=by rw[←e0];exact ho
 cases d with
 |lst ds=>
  rw[rep_lst]at p3;obtain⟨a,xs,rfl,sq,rl⟩:=p3;refine .inl ⟨a,xs,rfl,x3.gh.seq sq.sq,λp hp=>?_⟩;obtain⟨x,o,w⟩:=iZ x13 hp (pW rl l u);exact k _ (by show (zN f fl fh ρ).bind AM=_;rw[e0];rfl) _ _ _ _ x o w
 |tup ds=>
  unfold fG at k3;dsimp only at k3;split at k3 <;> exact k3.elim
 |_=>exact k3.elim
end
section
variable{X:Cx}{E:XK}{μ:Z0}{r:Nat}
end
section
variable{prog:Zv}{w:Zn}{A:Zl}{E:Z5}{s:Shared}
end
section
variable{X:Cx}{E:XK}{μ:Z0}{r:Nat}
end
section
variable{X:Cx}{pins:Z9}{σ:St}{H:Hp}{s:Shared}
end
section
variable{X:Cx}{E:XK}{μ:Z0}{r:Nat}
end
section
variable{P:Zv}{w:Zn}{K:Z8}{mg:Z4}{base:Heap}
end
section
variable{X:Cx}
end
section
variable{X:Cx}{E:XK}{tg:Expr}
end
def Bq {P:Zv}{w:Zn}{es:Array DictEntry}{ep:Nat}(hd:(d==sysModules)=false):W.KdlSrc P w "dict" d d es.size (λi v=>∃h:i<es.size,v=es[i].key) (λh=>RawD h d es ep) where
 type:=λ_ r=>r.ty
 there:=λh hZ181=>(by obtain⟨o,e,_⟩:=hZ181;exact⟨Ys e,Ys e⟩)
 keep:=λh h' ⟨o,e,x,dt⟩ k=>⟨o,k d (.inl rfl) o e,x,dt⟩
 notList:=by decide
 notTuple:=by decide
 hint:=λ_ _ _ _ r hq=>W.kdl_hint_dict r.ty hq
 iter:=by
  intro A s hh r;have hne:d≠s.heap.objs.size:=by obtain⟨o,e,_⟩:=r;exact ne_of_lt (Ys e)
  refine⟨_,λi h=>h.IsKeyIter s.heap.objs.size d i es.size ep∧RawD h d es ep,λE Q hq=>sx hd r hq,⟨λb hb=>mem_cons.mpr (.inl (mem_singleton.mp hb)),?_,?_,?_,?_⟩,⟨_,Heap.get?_push_size _ rfl,rfl,rfl⟩,?_⟩
  ·rintro i h h' ⟨⟨o1,e1,c1,d1⟩,⟨o2,e2,x2,d2⟩⟩ k;exact⟨⟨o1,k _ (by simp) _ e1,c1,d1⟩,⟨o2,k _ (by simp) _ e2,x2,d2⟩⟩
  ·rintro i s1 Q1 E1 hi ⟨v1,r1⟩ k;refine sy v1 r1 hi λh' v2 sb=>k _ h' s1.toks ⟨hi,rfl⟩ ⟨v2,?_⟩ λb o hb e=>(sb.2 b (by simpa using hb)).trans e;obtain⟨o2,e2,x2,d2⟩:=r1;exact⟨o2,(sb.2 d hne).trans e2,x2,d2⟩
  ·rintro s1 Q1 E1 ⟨v1,r1⟩ k;exact vv hh v1 r1 (le_refl _) λh' eb=>k h' s1.toks λb o hb e=>eb b o (by simpa using hb) e
  ·rintro i s1 Q1 E1 ⟨v1,r1⟩ k;exact wpAny_pyIter_keyiter v1 k
  ·obtain⟨o,e,x,dt⟩:=r;exact⟨o,Heap.get?_push_of_some _ e,x,dt⟩
section
variable{X:Cx}{E:XK}
theorem pK:∀(bs:List Addr),Vals (bs.map V.ref) (bs.map Value.ref)
 | []=>.nil
 |_::bs=>.cons rfl (pK bs)
def tw (hc:X.calm=true):dZ X (.type "list") (λxs H Q=>∃a kvs,xs=[.ref a]∧Rd H a (.dT kvs)∧∀bs:List Addr,bs.length=kvs.length→(∀(i:Nat) k b,(kvs.map (·.1))[i]?=some k→bs[i]?=some b→H b=some (.tup (k.map kV)))→∀q,H q=none→Q (.ref q) (bc H q (.lst (bs.map V.ref)))):=by
 intro pins s σ H xs us Q I r h;obtain⟨a,kvs,rfl,rd,q⟩:=h;obtain⟨u,rfl,ru⟩:=i8 r;cases (show u= .ref a from ru);obtain⟨z,hd,xs,pr,o,es,ep,ho,ex,dt,he,nd⟩:=vw I.hok rd;obtain⟨hl,at'⟩:=Paired.at2 pr;have hsz:es.size=kvs.length:=by rw[←length_toList,he,length_map,hl]
 have hk:∀(i:Nat) (h:i<es.size) (h3:i<xs.length),es[i].key= .ref xs[i].2.1:=λi h h3=>by
  have:es.toList[i]?=some (entryOfKey (tupleKind (bK X.prog X.w)) xs[i]):=by rw[he,getElem?_map,d_ h3];rfl
  rw[getElem?_toList,getElem?_eq_getElem h]at this;rw[Option.some.inj this];rfl
 refine W.kdl_call (Bq (d:=a) (es:=es) (ep:=ep) hd) (I.ok.hd hc) ⟨o,ho,ex,dt⟩ (by omega) λh' tk c c' hkk hD hI=>?_;have ea:c.toList=(xs.map (·.2.1)).map Value.ref:=by
  obtain⟨a1,a2⟩:=hI;apply ext_getElem?;intro i;by_cases hi:i<es.size
  ·have hi':i<c.size:=by omega
   have h3:i<xs.length:=by omega
   obtain⟨_,e⟩:=a2 i c[i] (getElem?_eq_getElem hi');rw[getElem?_toList,getElem?_eq_getElem hi',e,hk i hi h3,getElem?_map,getElem?_map,d_ h3];rfl
  ·rw[getElem?_eq_none (by rw[length_toList];omega),getElem?_eq_none (by rw[length_map,length_map];omega)]
 refine⟨.ref s.heap.objs.size,_,I.laid (t':=tk) (h':=h') (o:=.lst ((xs.map (·.2.1)).map V.ref)) hkk (le_refl _) ⟨by rw[length_map,length_map];omega,c.toList,c',by rw[ea];exact pK _,by rw[hD]⟩,rfl,q _ (by rw[length_map];omega) (λi k b h1 h2=>?_) _ (I.hok.fresh (le_refl _))⟩;rw[getElem?_map]at h1 h2;have h4:i<kvs.length:=by
  by_cases h:i<kvs.length
  ·exact h
  ·rw[getElem?_eq_none (by omega)]at h1;cases h1
 rw[d_ h4]at h1;rw[d_ (by omega:i<xs.length)]at h2;cases h1;cases h2;exact(at' i h4 (by omega)).2.1
theorem xM {K:Z8}{H:Hp}:∀(ks:List (List bD)) (bs:Zt) (G:Hp),Same G H→bs.length=ks.length→(∀(i:Nat) k b,ks[i]?=some k→bs[i]?=some b→H b=some (.tup (k.map kV)))→∃G2,Ext G H G2 H∧RepL K G2 (ks.map oe) (bs.map V.ref)
 | [],[],G,g,_,_=>⟨G,.refl g,.nil⟩
 |k::ks,b::bs,G,g,hl,h=>by
  have hb:=h 0 k b rfl rfl;have gg:Same G (bc G b (.tup (k.map kV))):=λc u e=>by
   by_cases hc:c=b
   ·subst hc;have:=g _ _ e;rw[hb]at this;cases this;exact ao
   ·rw[aj hc];exact e
  have x:Ext G H (bc G b (.tup (k.map kV))) H:=by
   refine⟨.refl _,gg,λc u e=>?_,λc u e=>?_⟩
   ·by_cases hc:c=b
    ·subst hc;rw[ao]at e;rw[←e];exact hb
    ·rw[aj hc]at e;exact g c u e
   ·by_cases hc:c=b
    ·subst hc;rw[ao]at e;cases e;exact .inr (.inr ⟨k,rfl⟩)
    ·rw[aj hc]at e;exact .inl e
  obtain⟨G2,x2,rl⟩:=xM ks bs _ x.gh (by simpa using hl) λi k b h1 h2=>h (i+1) k b h1 h2;exact⟨G2,x.trans x2,.cons (rep_tup.mpr ⟨b,_,rfl,.of (x2.gg _ _ ao),nH k⟩) rl⟩
 | [],_::_,_,_,hl,_=>by simp at hl
 |_::_,[],_,_,hl,_=>by simp at hl
def dJ:List D→Res D
 | [.dct ks _]=>.ok (.lst (ks.map oe))
 | [.fdc ks _]=>.ok (.lst (ks.map oe))
 |_=>.bad
def yQ {p pos:Yn}{f:Z7}(hm:X.mg "list" =none)(h:PD X E e f)(hc:X.calm=true:=by rfl)(hg:Gl X "list" :=by rfl)(he:zQ2 X e []:=by rfl) :
  PN X E 1 (.Call (.Name "list" p) [e] [] pos) (bq (λρ=>(f ρ).bind λd=>.ok [d]) dJ):=by
 have hpd:lP X E [e] (λρ=>(f ρ).bind λd=>.ok [d]):=aa h ae he;refine .tn (cS (pos:=pos) (p:=p) (tw hc) hg hm gX (ii hpd) (by decide) (by decide) he rfl) λσ G H ρ Q hs hro ho k=>⟨G,ρ,hs,hro,ho.fst,λds e1 vs G1 H1 x1 p1=>?_⟩;have kk:=ho.snd e1 x1.hh;have e0:bq (λρ=>(f ρ).bind λd=>.ok [d]) dJ ρ=dJ ds:=by show ((f ρ).bind λd=>Res.ok [d]).bind dJ=_;rw[e1];rfl
 have main:∀a N,Rd H1 a (.dT N)→dJ ds= .ok (.lst ((N.map (·.1)).map oe))→∀bs:List Addr,bs.length=N.length→(∀(i:Nat) k b,(N.map (·.1))[i]?=some k→bs[i]?=some b→H1 b=some (.tup (k.map kV)))→∀q,H1 q=none→Q (.ref q) (bc H1 q (.lst (bs.map V.ref))):=λa N rd el bs hl hb q hq=>by
  obtain⟨G2,x2,rl⟩:=xM (K:=X.K) (N.map (·.1)) bs G1 x1.gh (by rw[length_map];exact hl) hb;obtain⟨x,o,w⟩:=iZ (x1.trans x2) hq rl;exact k _ (e0.trans el) _ _ _ _ x o w
 unfold dJ at kk;split at kk
 ·rename_i ks l;obtain⟨v,r,rfl,rx,r0⟩:=p1.inv;rw[r0.inv0];rw[rep_dct]at rx;obtain⟨a,N,rfl,rd,hk,_⟩:=rx;exact⟨a,N,rfl,x1.gh.rd rd,main a N (x1.gh.rd rd) (by unfold dJ;rw[hk])⟩
 ·rename_i ks l;obtain⟨v,r,rfl,rx,r0⟩:=p1.inv;rw[r0.inv0];rw[rep_fdc]at rx;obtain⟨a,o,N,rfl,rd,hk,_⟩:=rx;exact⟨a,N,rfl,x1.gh.rd (.inr ⟨o,rd⟩),main a N (x1.gh.rd (.inr ⟨o,rd⟩)) (by unfold dJ;rw[hk])⟩
 ·exact kk.elim
end
def ll {N P:Zw}{sc:Yz}(a:sc.kind= .function:=by rfl)(b:sc.isCoroutine=false:=by rfl)(c:sc.isGenerator=false:=by rfl)(d:N.Nodup:=by decide +kernel)(e:N.take P.length=P:=by rfl)(f:∀x∈P,sc.names.lookup x=some .local∨sc.names.lookup x=some .cell:=by decide +kernel)(g:∀y∈sc.names,y.2≠ .free:=by decide +kernel):FnScope N P sc:=⟨a,b,c,d,e,f,g⟩
set_option maxHeartbeats 4000000
theorem Gz:∀(l m:List Nat),l.Nodup→(∀x∈l,x∈m)→l.length≤m.length
 | [],_,_,_=>zero_le _
 |x::l,m,hd,hs=>by
  have h1:=nodup_cons.mp hd;have hx:=hs x mem_cons_self;have h2:=Gz l (m.erase x) h1.2 λy hy=>(List.mem_erase_of_ne (λz:y=x=>h1.1 (by rw[←z];exact hy))).mpr (hs y (cN hy));rw[List.length_erase_of_mem hx]at h2;have:=List.length_pos_of_mem hx;simp only[length_cons];omega
def oH:List Nat→List Nat
 | []=>[]
 |x::l=>if l.contains x then oH l else x::oH l
theorem l_:∀{l:Z0} {x:Nat},x∈oH l→x∈l
 |y::l,x,h=>by
  unfold oH at h;split at h
  ·exact cN (l_ h)
  ·rcases mem_cons.mp h with z|z
   ·exact z ▸ mem_cons_self
   ·exact cN (l_ z)
theorem kP:∀l:List Nat,(oH l).Nodup
 | []=>nodup_nil
 |y::l=>by
  unfold oH;split
  ·exact kP l
  ·rename_i h;exact nodup_cons.mpr ⟨λz=>h (contains_iff_mem.mpr (l_ z)),kP l⟩
def ma {l m:Z0}(h:m.length<(oH l).length):∃x∈l,x∉m:=by
 refine Classical.byContradiction λz=>?_;have:=Gz (oH l) m (kP l) λx hx=>Classical.byContradiction λw=>z ⟨x,l_ hx,w⟩;omega
def T0 (m:Nat):SetTable:={mask:=m,place:= #[],dummies:= #[],finger:=0,led:=false,moves:=0,plain:=false}
def pj (m:Nat):Nat→SetTable.Probe→List Nat
 |0,_=>[]
 |n+1,p=>p.j::pj m n ((T0 m).advance p)
def xo (t:SetTable)(p:SetTable.Probe):t.advance p=(T0 t.mask).advance p:=rfl
def zw (t:SetTable)(h:Int):t.probeStart h=(T0 t.mask).probeStart h:=rfl
def vJ (m:Nat)(p:SetTable.Probe):((T0 m).advance p).dummy=p.dummy:=by unfold SetTable.advance;split <;> rfl
def zr {t:SetTable}(hd:t.dummies= #[]){j:Nat}(h:j∉t.place.toList):t.slot j= .empty:=by
 unfold SetTable.slot;dsimp only;rw[Yi,Yi]
 ·rw[hd];unfold SetTable.has;simp
 ·intro z;rw[beq_iff_eq]at z;exact h (mem_of_getElem? (by rw[getElem?_toList];exact z))
def BA {t:SetTable}(hd:t.dummies= #[])(j:Nat):t.slot j≠ .dummy:=by
 unfold SetTable.slot;dsimp only;split
 ·exact λz=>by cases z
 ·rw[Yi (by rw[hd];unfold SetTable.has;simp)];exact λz=>by cases z
def mV {t:SetTable}{ha:Nat→Int}{h:Int}(hd:t.dummies= #[])(hh:∀i,ha i≠h):∀(n f:Nat) (p:SetTable.Probe),n≤f→p.dummy=none→(∃x∈pj t.mask n p,x∉t.place.toList)→
  ∃j,SetTable.probe.go t ha h f p=some (.empty j none):=by
 intro n
 induction n with
 |zero=>rintro f p _ _ ⟨x,hx,_⟩;unfold pj at hx;cases hx
 |succ n ih=>
  intro f p hf hp hZ34;obtain⟨x,hx,hn⟩:=hZ34;obtain⟨f,rfl⟩:∃g,f=g+1:=⟨f-1,by omega⟩;unfold SetTable.probe.go;cases e:t.slot p.j with
  |empty=>exact⟨p.j,by rw[hp]⟩
  |dummy=>exact absurd e (BA hd _)
  |live i=>
   dsimp only;rw[Yi (by rw[beq_iff_eq];exact hh i)];refine ih f _ (by omega) ?_ ⟨x,?_,hn⟩
   ·rw[xo,vJ];exact hp
   ·rw[xo];unfold pj at hx
    rcases mem_cons.mp hx with z|z
    ·subst z;rw[zr hd hn]at e;cases e
    ·exact z
def lv (m:Nat):Nat→Nat→Nat→List Nat
 |0,_,_=>[]
 |n+1,i,p=>(List.range (SetTable.runEnd m i+1-i)).map (i + ·) ++ lv m n (SetTable.leap m i p).1 (SetTable.leap m i p).2
def wd {m:Nat}{ow:Yw}:∀(n f i p:Nat),n≤f→(∃x∈lv m n i p,(ow.getD x (some 0)).isNone=true)→
  ∃j,SetTable.layClean.free m ow f i p=some j∧(ow.getD j (some 0)).isNone=true:=by
 intro n
 induction n with
 |zero=>rintro f i p _ ⟨x,hx,_⟩;unfold lv at hx;cases hx
 |succ n ih=>
  intro f i p hf hZ35;obtain⟨x,hx,hn⟩:=hZ35;obtain⟨f,rfl⟩:∃g,f=g+1:=⟨f-1,by omega⟩;unfold SetTable.layClean.free;cases e:(List.range (SetTable.runEnd m i+1-i)).find? λk=>(ow.getD (i+k) (some 0)).isNone with
  |some k=>exact⟨i+k,rfl,List.find?_some (p:=λk=>(ow.getD (i+k) (some 0)).isNone) e⟩
  |none=>
   dsimp only;refine ih f _ _ (by omega) ⟨x,?_,hn⟩;unfold lv at hx
   rcases mem_append.mp hx with z|z
   ·obtain⟨k,hk,rfl⟩:=mem_map.mp z;have:=List.find?_eq_none.mp e k hk;exact absurd hn this
   ·exact z
theorem uS {α:Type}{f g:Nat→Option α}{j:Nat}(h:∀x,x≠j→g x=f x):∀{R:List Nat},j∉R→R.filterMap g=R.filterMap f
 | [],_=>rfl
 |x::R,hj=>by
  have hx:x≠j:=λz=>hj (z ▸ mem_cons_self);rw[filterMap_cons,filterMap_cons,h x hx,uS h λz=>hj (cN z)]
theorem xP {α:Type}{f g:Nat→Option α}{j:Nat}{y:α}(h:∀x,x≠j→g x=f x)(h0:f j=none)(h1:g j=some y):∀{R:List Nat},R.Nodup→j∈R→(R.filterMap g).length=(R.filterMap f).length+1
 | [],_,hj=>by cases hj
 |x::R,hd,hj=>by
  have hn:=nodup_cons.mp hd;by_cases hx:x=j
  ·subst hx;rw[filterMap_cons,filterMap_cons,h0,h1,uS h hn.1];rfl
  ·rw[filterMap_cons,filterMap_cons,h x hx];have:=xP h h0 h1 hn.2 ((mem_cons.mp hj).resolve_left λz=>hx z.symm);cases f x with
   |none=>exact this
   |some z=>simp only[length_cons];omega
structure Laid (m:Nat)(ow:Yw)(k:Nat):Prop where
 sz:ow.size=m+1
 ct:((List.range (m+1)).filterMap λj=>(ow.getD j none).map (j,·)).length=k
 lt:∀j x,ow.getD j none=some x→x<k
def getD_or {ow:Yw}{j:Nat}:(ow.getD j (some 0)).isNone=true↔j<ow.size∧ow.getD j none=none:=by
 rw[getD_eq_getD_getElem?,getD_eq_getD_getElem?];by_cases h:j<ow.size
 ·rw[getElem?_eq_getElem h,getD_some,getD_some];simp[h]
 ·rw[Array.getElem?_eq_none (not_lt.mp h),getD_none,getD_none];simp[h]
def Laid.step {m k:Nat}{ow:Yw}(L:Laid m ow k){j:Nat}(h:(ow.getD j (some 0)).isNone=true):Laid m (ow.setIfInBounds j (some k)) (k+1):=by
 obtain⟨hj,h0⟩:=getD_or.mp h;have hne:∀x,x≠j→(ow.setIfInBounds j (some k)).getD x none=ow.getD x none:=λx hx=>by
  rw[getD_eq_getD_getElem?,getD_eq_getD_getElem?,Array.getElem?_setIfInBounds_ne (λz=>hx z.symm)]
 have heq:(ow.setIfInBounds j (some k)).getD j none=some k:=by
  rw[getD_eq_getD_getElem?,Array.getElem?_setIfInBounds_self_of_lt hj,getD_some]
 refine⟨by rw[Array.size_setIfInBounds];exact L.sz,?_,λx y e=>?_⟩
 ·rw[xP (f:=λj=>(ow.getD j none).map (j,·)) (j:=j) (y:=(j,k)) (λx hx=>by rw[hne x hx]) (by rw[h0];rfl) (by rw[heq];rfl) nodup_range (mem_range.mpr (L.sz ▸ hj)),L.ct]
 ·by_cases hx:x=j
  ·subst hx;rw[heq]at e;cases e;exact lt_succ_self _
  ·rw[hne x hx]at e;exact lt_succ_of_lt (L.lt x y e)
def Laid.find {m k:Nat}{ow:Yw}(L:Laid m ow k){n i p f:Nat}(hf:n≤f)(hv:k<(oH (lv m n i p)).length)(hb:∀x∈lv m n i p,x<m+1) :
  ∃j,SetTable.layClean.free m ow f i p=some j∧(ow.getD j (some 0)).isNone=true:=by
 refine wd n f i p hf ?_;have hl:((List.range (m+1)).filter λj=>(ow.getD j none).isSome).length=k:=by
  rw[←L.ct];generalize List.range (m+1)=R
  induction R with
  |nil=>rfl
  |cons x R ih=>
   rw[List.filter_cons,filterMap_cons];cases ow.getD x none with
   |none=>exact ih
   |some y=>simp only[isSome_some,if_true,map_some,length_cons];rw[ih]
 obtain⟨x,hx,hn⟩:=ma (l:=lv m n i p) (m:=(List.range (m+1)).filter λj=>(ow.getD j none).isSome) (by rw[hl];exact hv);refine⟨x,hx,getD_or.mpr ⟨L.sz ▸ hb x hx,?_⟩⟩;cases e:ow.getD x none with
 |none=>rfl
 |some y=>exact absurd (mem_filter.mpr ⟨mem_range.mpr (hb x hx),by rw[e];rfl⟩) hn
set_option maxHeartbeats 4000000
def hq (p:Yp):Int:=reduceHash (Builtin.Tuple.tupleHashOf [hashInt p.1,hashInt p.2])
def sI (p:Yp):Prop:=p.1<5∧p.2<5
def lu (f:Nat×Nat→Bool):Bool:=(List.range 5).all λi=>(List.range 5).all λj=>f (i,j)
def dh {f:Nat×Nat→Bool}(h:lu f=true){p:Yp}(s:sI p):f p=true:=
 all_eq_true.mp (all_eq_true.mp h p.1 (mem_range.mpr s.1)) p.2 (mem_range.mpr s.2)
def x0:(lu λp=>lu λq=>(hq p != 0)&&((hq p==hq q)==(p==q)))=true:=by decide +kernel
def FZ {p:Yp}(s:sI p):hq p≠0:=by
 have:=dh (dh x0 s) s;rw[and_eq_true,bne_iff_ne]at this;exact this.1
def EL {p q:Yp}(s:sI p)(s':sI q)(h:p≠q):hq p≠hq q:=λz=>by
 have:=dh (dh x0 s) s';rw[z,and_eq_true]at this;simp only[beq_self_eq_true]at this;rw[beq_eq_false_iff_ne.mpr h]at this;exact absurd this.2 (by decide)
def DW:((lu λp=>decide (4<(oH (pj 7 13 ((T0 7).probeStart (hq p)))).length))&&(lu λp=>decide (18<(oH (pj 31 81 ((T0 31).probeStart (hq p)))).length))&&(lu λp=>decide (24<(oH (pj 127 35 ((T0 127).probeStart (hq p)))).length)))=true:=by decide +kernel
def lw (m n:Nat)(p:Yp):List Nat:=lv m n (SetTable.bits (hq p) % (m+1)) (SetTable.bits (hq p))
def Do:((lu λp=>decide (4<(oH (lw 31 2 p)).length)&&(lw 31 2 p).all (·<32))&&(lu λp=>decide (18<(oH (lw 127 4 p)).length)&&(lw 127 4 p).all (·<128)))=true:=by decide +kernel
def Few (m n:Nat):Prop:=m=7∧n≤4∨m=31∧n≤18∨m=127∧n≤25
def Few.le {m n:Nat}(h:Few m n):n≤m:=by rcases h with ⟨rfl,_⟩|⟨rfl,_⟩|⟨rfl,_⟩ <;> omega
def Few.odd {m n:Nat}(h:Few m n):m % 2=1:=by rcases h with ⟨rfl,_⟩|⟨rfl,_⟩|⟨rfl,_⟩ <;> rfl
def uf {t:SetTable}{ha:Nat→Int}{p:Yp}(s:sI p)(hd:t.dummies= #[])(hh:∀i,ha i≠hq p)(hf:Few t.mask t.place.size)(hl:t.place.size<25) :
  ∃j,t.probe ha (hq p) (t.probeStart (hq p))=some (.empty j none):=by
 have h:=DW;rw[and_eq_true,and_eq_true]at h;unfold SetTable.probe;rw[zw];have hz:t.place.size=t.place.toList.length:=length_toList.symm
 rcases hf with ⟨e,n⟩|⟨e,n⟩|⟨e,n⟩
 ·have:=Zj (dh h.1.1 s);exact mV hd hh 13 _ _ (by unfold SetTable.turns;rw[e];decide) (by rfl) (ma (by rw[e];omega))
 ·have:=Zj (dh h.1.2 s);exact mV hd hh 81 _ _ (by unfold SetTable.turns;rw[e];decide) (by rfl) (ma (by rw[e];omega))
 ·have:=Zj (dh h.2 s);exact mV hd hh 35 _ _ (by unfold SetTable.turns;rw[e];decide) (by rfl) (ma (by rw[e];omega))
def u7 (m:Nat)(acc:Option (Array (Option Nat)×Nat))(h:Int):Option (Array (Option Nat)×Nat):=do
 let (owner,k) ←acc
 let j ←SetTable.layClean.free m owner (SetTable.turns m) (SetTable.bits h % (m+1)) (SetTable.bits h)
 pure (owner.setIfInBounds j (some k),k+1)
def yk {m k j:Nat}{h:Int}{ow:Yw}(e:SetTable.layClean.free m ow (SetTable.turns m) (SetTable.bits h % (m+1)) (SetTable.bits h)=some j):u7 m (some (ow,k)) h=some (ow.setIfInBounds j (some k),k+1):=by
 unfold u7;simp only[Option.bind_eq_bind,bind_some,e];rfl
def yn (m n:Nat)(h:Int):List Nat:=lv m n (SetTable.bits h % (m+1)) (SetTable.bits h)
def Dk {m n b:Nat}(hn:n≤SetTable.turns m)(hs:Z2):∀(ow:Yw) (k:Nat),Laid m ow k→k+hs.length≤b+1→(∀h∈hs,b<(oH (yn m n h)).length∧∀x∈yn m n h,x<m+1)→
  ∃ow',hs.foldl (u7 m) (some (ow,k))=some (ow',k+hs.length)∧Laid m ow' (k+hs.length):=by
 induction hs with
 |nil=>exact λow k L _ _=>⟨ow,rfl,L⟩
 |cons h hs ih=>
  intro ow k L hk hp;have h0:=hp h mem_cons_self;rw[length_cons]at hk;obtain⟨j,e,hj⟩:=L.find (f:=SetTable.turns m) hn (show k<(oH (yn m n h)).length by omega) h0.2;obtain⟨ow',e',L'⟩:=ih _ (k+1) (L.step hj) (by omega) λq hq=>hp q (cN hq);have ek:k+1+hs.length=k+(h::hs).length:=by rw[length_cons];omega
  rw[ek]at e' L';exact⟨ow',by rw[List.foldl_cons,yk e];exact e',L'⟩
def Di (m:Nat):Laid m (Array.replicate (m+1) none) 0:=by
 have hg:∀j,(Array.replicate (m+1) (none:Option Nat)).getD j none=none:=λj=>by
  rw[getD_eq_getD_getElem?,Array.getElem?_replicate];split <;> rfl
 refine⟨Array.size_replicate,?_,λj x e=>by rw[hg]at e;cases e⟩;rw[List.length_eq_zero_iff,filterMap_eq_nil_iff];exact λj _=>by rw[hg];rfl
def GE {es:Array (Int×Value)}{l:Z0}(h:∀i∈l,i<es.size):(l.filterMap (es[·]?)).length=l.length∧∀e∈l.filterMap (es[·]?),e∈es.toList:=by
 refine⟨?_,λe he=>?_⟩
 ·induction l with
  |nil=>rfl
  |cons i l ih=>
   rw[filterMap_cons,getElem?_eq_getElem (h i mem_cons_self)];simp only[length_cons];rw[ih λj hj=>h j (cN hj)]
 ·obtain⟨i,_,e1⟩:=mem_filterMap.mp he;exact mem_of_getElem? (by rw[getElem?_toList];exact e1)
def wN {t:SetTable}{es:Array (Int×Value)}{hs:Z2}{m n b wanted:Nat}(hw:SetTable.sizeAbove wanted=m+1)(hn:n≤SetTable.turns m)(he:(es.map (·.1)).toList=hs)(hl:hs.length≤b+1)(hp:∀h∈hs,b<(oH (yn m n h)).length∧∀x∈yn m n h,x<m+1) :
  ∃t' order,t.relaid (es.map (·.1)) wanted=some (t',order)∧t'.mask=m∧t'.dummies= #[]∧t'.place.size=es.size∧(order.filterMap (es[·]?)).size=es.size∧∀e∈(order.filterMap (es[·]?)).toList,e∈es.toList:=by
 obtain⟨ow,e,L⟩:=Dk hn hs _ 0 (Di m) (by omega) hp;rw[Nat.zero_add]at e L;have hsz:es.size=hs.length:=by rw[←he];simp
 have hc:SetTable.layClean m (es.map (·.1))=some ow:=by
  unfold SetTable.layClean;rw[←Array.foldl_toList,he];show (hs.foldl (u7 m) (some (Array.replicate (m+1) none,0))).map (·.1)=_;rw[e];rfl
 have hm:SetTable.sizeAbove wanted-1=m:=by rw[hw];rfl
 have hor:∀i∈(((List.range (m+1)).filterMap λj=>(ow.getD j none).map (j,·)).map (·.2)),i<es.size:=λi hi=>by
  obtain⟨q,hq,rfl⟩:=mem_map.mp hi;obtain⟨j,_,e1⟩:=mem_filterMap.mp hq;cases e2:ow.getD j none with
  |none=>rw[e2]at e1;cases e1
  |some x=>rw[e2]at e1;cases e1;rw[hsz];exact L.lt j x e2
 have hf:=GE hor;refine⟨_,_,by unfold SetTable.relaid SetTable.laid;rw[hm,hc];rfl,rfl,rfl,?_,?_,?_⟩
 ·rw[size_toArray,length_map,L.ct,hsz]
 ·rw[←length_toList,Array.toList_filterMap];rw[hf.1,length_map,L.ct,hsz]
 ·rw[Array.toList_filterMap];exact hf.2
set_option maxHeartbeats 4000000
def SetP (h:Y5)(a:Zz)(L:Y8):Prop:=
 ∃o es ep t,h.get? a=some o∧o.ExactSet∧o.data= .set es ep t∧t.dummies= #[]∧t.place.size=es.size∧Few t.mask es.size∧es.size=L.length∧∀e∈es.toList,∃p∈L,e.1=hq p
def SetP.fits {t:SetTable}{n:Nat}(hd:t.dummies= #[])(hp:t.place.size=n)(hf:Few t.mask n):t.fits n=true:=by
 unfold SetTable.fits SetTable.fill;rw[hd,hp,and_eq_true];exact⟨beq_self_eq_true _,Zk (by simpa using hf.le)⟩
section
variable{prog:Zv}{w:Zn}{A:Zl}{E:Z5}{s:Shared}
def xY {o:Obj}{i j:Int}{t u:Tok}{n:Nat}{Q:Yr}(ho:s.heap.get? b=some o)(hc:o.cls= .type "tuple")(hd:o.data= .seq #[.int i t,.int j u] n)(h:∀v,Q v s) :
  wpAny (model prog w) A (hashByValue 8 (.ref b)) Q E s:=by
 unfold hashByValue;refine Zx (wpAny_specialOf ⟨o,ho,hc⟩ F.slot_tuple_hash.1 ?_);dsimp only;refine Zx (wpAny_seqItems ho hd ?_);simp[hashByValue,forIn,ForIn.forIn];exact Zp (h true)
def xN {m n:Nat}(hm:Few m n)(hn:n<25):(m=7∧n=4∨m=31∧n=18)∧(n+1)*5 ≥ m*3∨Few m (n+1)∧¬(n+1)*5 ≥ m*3:=by
 unfold Few at *;omega
def B3 {p:Yp}(s:sI p):(4<(oH (yn 31 2 (hq p))).length∧∀x∈yn 31 2 (hq p),x<32)∧18<(oH (yn 127 4 (hq p))).length∧∀x∈yn 127 4 (hq p),x<128:=by
 have h:=Do;rw[and_eq_true]at h;have h1:=dh h.1 s;have h2:=dh h.2 s;rw[and_eq_true,all_eq_true]at h1 h2;exact⟨⟨Zj h1.1,λx hx=>Zj (h1.2 x hx)⟩,Zj h2.1,λx hx=>Zj (h2.2 x hx)⟩
def ph {oS:Obj}{es:Array (Int×Value)}{ep:Nat}{t2:SetTable}{m n b wanted:Nat}{L:Y8}{Q:Unit→Shared→Prop}(hoS:s.heap.get? a=some oS)(hex:oS.ExactSet)(hdS:oS.data= .set es ep t2)(hf:t2.fits es.size=true) (hL:es.size=L.length) (hel:∀e∈es.toList,∃p∈L,e.1=hq p) (hw:SetTable.sizeAbove wanted=m+1) (hm:m+1≤sizeLine) (hn:n≤SetTable.turns m) (hl:L.length≤b+1) (hm2:Few m L.length)(hp:∀p∈L,b<(oH (yn m n (hq p))).length∧∀x∈yn m n (hq p),x<m+1)(h:∀h',Heap.SameBut a s.heap h'→SetP h' a L→Q () {s with heap:=h'}):wpAny (model prog w) A (setRelay a wanted) Q E s:=by
 unfold setRelay;refine Zx (wpAny_setState_of hoS hdS hf ?_);dsimp only;rw[Yi (by rw[hw];omega)];obtain⟨t',c,e1,e2,e3,e4,e5,e6⟩:=wN (t:=t2) (es:=es) (hs:=(es.map (·.1)).toList) hw hn rfl (by simpa [hL] using hl) (λz hz=>by
  rw[Array.toList_map]at hz;obtain⟨e,he,rfl⟩:=mem_map.mp hz;obtain⟨p,hpL,e0⟩:=hel e he;rw[e0];exact hp p hpL)
 rw[e1];refine Zx ?_;refine wpAny_of_eq (a:=(c.filterMap (es[·]?),t')) ?_ ?_
 ·show (if _ then _ else _)=_
  rw[Yi (by rw[e5];simp)]
 dsimp only;have hz:(c.filterMap (es[·]?)).size≤sizeLine:=by
  rw[e5,hL,sizeLine_eq]
  rcases hm2 with ⟨_,z⟩|⟨_,z⟩|⟨_,z⟩ <;> omega
 refine wpAny_storeSet_of hoS hdS (h _ (Heap.SameBut.update s.heap a _) ?_) hz;have hg:(s.heap.update a (Obj.putSet (c.filterMap (es[·]?)) t')).get? a=some {oS with data:=.set (c.filterMap (es[·]?)) (ep+1) t'}:=by
  have:=Heap.get?_update_self (Obj.putSet (c.filterMap (es[·]?)) t') hoS (by rw[putSet_of _ t' hdS];rfl);rw[putSet_of _ t' hdS]at this;exact this
 exact⟨_,_,ep+1,t',hg,hex,rfl,e3,e4.trans e5.symm,by rw[e2,e5,hL];exact hm2,e5.trans hL,λe he=>hel e (e6 e he)⟩
def ra {oS:Obj}{es es1:Array (Int×Value)}{ep n:Nat}{tb t2:SetTable}{L:Y8}{Q:Yr}(hoS:s.heap.get? a=some oS)(hex:oS.ExactSet)(hdS:oS.data= .set es ep tb)(h1:es1.size=n+1) (hd2:t2.dummies= #[]) (hp2:t2.place.size=n+1) (hm:Few t2.mask n) (hn:n<25) (hel:∀e∈es1.toList,∃p∈L,e.1=hq p) (hL:L.length=n+1) (sL:∀q∈L,sI q)(h:∀h',Heap.SameBut a s.heap h'→SetP h' a L→Q true {s with heap:=h'}) :
  wpAny (model prog w) A (do
   storeSet a es1 t2
   if (!false&&t2.tooFull)=true then do
    setRelay a (SetTable.grown (n+1))
    pure true
   else pure true) Q E s:=by
 have hz:es1.size≤sizeLine:=by rw[h1,sizeLine_eq];omega
 have hg:(s.heap.update a (Obj.putSet es1 t2)).get? a=some {oS with data:=.set es1 (ep+1) t2}:=by
  have:=Heap.get?_update_self (Obj.putSet es1 t2) hoS (by rw[putSet_of _ t2 hdS];rfl);rw[putSet_of _ t2 hdS]at this;exact this
 have hsb:=Heap.SameBut.update s.heap a (Obj.putSet es1 t2);refine Zx (wpAny_storeSet_of hoS hdS ?_ hz);have d:t2.tooFull=decide ((n+1)*5 ≥ t2.mask*3):=by
  unfold SetTable.tooFull SetTable.fill;rw[hd2,hp2];rfl
 have hfit:t2.fits es1.size=true:=by
  unfold SetTable.fits SetTable.fill;rw[hd2,hp2,h1,and_eq_true];refine⟨beq_self_eq_true _,Zk ?_⟩;show n+1+0≤_
  rcases hm with ⟨e,z⟩|⟨e,z⟩|⟨e,z⟩ <;> rw[e] <;> omega
 rcases xN hm hn with ⟨hc,hf⟩|⟨hc,hf⟩
 ·rw[Yj (by rw[d,Zk hf];rfl)];refine Zx ?_
  rcases hc with ⟨em,en⟩|⟨em,en⟩
  ·subst en;exact ph (m:=31) (n:=2) (b:=4) (L:=L) hg hex rfl hfit (h1.trans hL.symm) hel (by decide) (by rw[sizeLine_eq];omega) (by decide) (by omega) (.inr (.inl ⟨rfl,by omega⟩)) (λp hp=>(B3 (sL p hp)).1) λh' sb hS=>Zp (h h' (hsb.trans sb) hS)
  ·subst en;exact ph (m:=127) (n:=4) (b:=18) (L:=L) hg hex rfl hfit (h1.trans hL.symm) hel (by decide) (by rw[sizeLine_eq];omega) (by decide) (by omega) (.inr (.inr ⟨rfl,by omega⟩)) (λp hp=>(B3 (sL p hp)).2) λh' sb hS=>Zp (h h' (hsb.trans sb) hS)
 ·rw[Yi (by rw[d,Zh hf];decide)];exact Zp (h _ hsb ⟨_,es1,ep+1,t2,hg,hex,rfl,hd2,hp2.trans h1.symm,by rw[h1];exact hc,h1.trans hL.symm,hel⟩)
def xm {a b:Zz}{o:Obj}{p:Yp}{t u:Tok}{n:Nat}{L:Y8}{Q:Yr}(hS:SetP s.heap a L)(sp:sI p)(hn:p∉L)(hl:L.length<25)(sL:∀q∈L,sI q)(ho:s.heap.get? b=some o) (hc:o.cls= .type "tuple") (hd:o.data= .seq #[.int p.1 t,.int p.2 u] n)(h:∀h',Heap.SameBut a s.heap h'→SetP h' a (L ++ [p])→Q true {s with heap:=h'}) :
  wpAny (model prog w) A (setAddHashed a (.ref b) (hq p)) Q E s:=by
 obtain⟨oS,c,ep,g,l,hex,m,hdm,hpl,k,hlen,hel⟩:=hS;have hf:=SetP.fits hdm hpl k;unfold setAddHashed setAddHashedIn;refine wpAny_holding (Zx (wpAny_setState_of l m hf ?_));dsimp only;rw[Yi (show ¬byScan (.ref b) c=true by unfold byScan;exact Bool.false_ne_true)];refine Zx ?_;unfold setSearch setSearchFrom;refine Zx (wpAny_setState_of l m hf ?_);dsimp only;have hng:¬g.gaveWay=true:=by unfold SetTable.gaveWay;rw[k.odd];decide
 rw[Yi hng];have hh:∀i:Nat,(c[i]?.map (λe:Int×Value=>e.1)).getD 0≠hq p:=λi=>by
  cases e:c[i]? with
  |none=>exact λz=>FZ sp z.symm
  |some q=>
   obtain⟨p',hp',e'⟩:=hel q (mem_of_getElem? (by rw[getElem?_toList];exact e));show q.1≠_;rw[e'];exact EL (sL p' hp') sp λz=>hn (z ▸ hp')
 have key:∀(f:Nat→Int) (r:Option SetTable.Met),g.probe f (hq p) (g.probeStart (hq p))=r→(∀i,f i=(c[i]?.map (λe:Int×Value=>e.1)).getD 0)→∃j,r=some (.empty j none):=λf r e0 e=>by
  obtain⟨j,ej⟩:=uf sp hdm (ha:=f) (λi=>by rw[e];exact hh i) (by rw[hpl];exact k) (by omega);exact⟨j,by rw[←e0];exact ej⟩
 rw[getD_none];split
 rotate_left
 ·rename_i hno;obtain⟨j,ej⟩:=key _ _ rfl λi=>rfl;exact(hno _ ej).elim
 rename_i met e0;obtain⟨j,ej⟩:=key _ _ e0 λi=>rfl;cases ej;dsimp only;refine Zp ?_;dsimp only;refine Zx (wpAny_setState_of l m hf ?_);dsimp only;have hnd:SetTable.has #[] j=false:=by unfold SetTable.has;simp
 have e1:g.put j=({g with place:=SetTable.insertAt g.place (SetTable.below g.place j) j,dummies:= #[]},SetTable.below g.place j):=by
  unfold SetTable.put;rw[hdm,hnd];rfl
 rw[e1];dsimp only;have hes:∀e∈(SetTable.insertAt c (SetTable.below g.place j) (hq p,Value.ref b)).toList,∃q∈L ++ [p],e.1=hq q:=λe he=>by
  have:=(SetTable.insertAt_perm c (SetTable.below g.place j) (hq p,Value.ref b)).mem_iff.mp he;rw[Array.toList_push]at this
  rcases mem_append.mp this with z|z
  ·obtain⟨q,hqL,e0⟩:=hel e z;exact⟨q,mem_append_left _ hqL,e0⟩
  ·rw[mem_singleton]at z;subst z;exact⟨p,mem_append_right _ (mem_singleton.mpr rfl),rfl⟩
 have hsz:(SetTable.insertAt c (SetTable.below g.place j) (hq p,Value.ref b)).size=c.size+1:=by
  have:=(SetTable.insertAt_perm c (SetTable.below g.place j) (hq p,Value.ref b)).length_eq;rw[length_toList,length_toList,size_push]at this;exact this
 have hps:(SetTable.insertAt g.place (SetTable.below g.place j) j).size=c.size+1:=by
  have:=(SetTable.insertAt_perm g.place (SetTable.below g.place j) j).length_eq;rw[length_toList,length_toList,size_push,hpl]at this;exact this
 have sL1:∀q∈L ++ [p],sI q:=λq hq'=>by
  rcases mem_append.mp hq' with z|z
  ·exact sL q z
  ·rw[mem_singleton.mp z];exact sp
 have hL1:(L ++ [p]).length=c.size+1:=by rw[length_append,hlen];rfl
 have last:∀x:Bool,wpAny (model prog w) A (do
   storeSet a (SetTable.insertAt c (SetTable.below g.place j) (hq p,Value.ref b)) (if x=true then {g with place:=SetTable.insertAt g.place (SetTable.below g.place j) j,dummies:= #[]} else {g with place:=SetTable.insertAt g.place (SetTable.below g.place j) j,dummies:= #[],plain:=false})
   if (!false&&(if x=true then ({g with place:=SetTable.insertAt g.place (SetTable.below g.place j) j,dummies:= #[]}:SetTable) else {g with place:=SetTable.insertAt g.place (SetTable.below g.place j) j,dummies:= #[],plain:=false}).tooFull)=true then do
    setRelay a (SetTable.grown (c.size+1))
    pure true
   else pure true) Q E s:=λx=>by
  cases x
  ·exact ra l hex m hsz rfl hps k (by omega) hes hL1 sL1 h
  ·exact ra l hex m hsz rfl hps k (by omega) hes hL1 sL1 h
 split
 ·exact Zx (xY ho hc hd λv=>last v)
 ·exact Zx (Zp (last true))
end
set_option maxHeartbeats 4000000
def IsPair (h:Y5)(v:Zc)(p:Yp):Prop:=∃b o t u n,v= .ref b∧h.get? b=some o∧o.cls= .type "tuple" ∧o.data= .seq #[.int p.1 t,.int p.2 u] n
section
variable{prog:Zv}{w:Zn}{A:Zl}{s:Shared}
def C7 {p:Yp}:tupleKeyHash (bK prog w) [.inl (p.1:Int),.inl (p.2:Int)]=hq p:=rfl
def zp {R:Yt}{I S:Zz}{fp wr:Zt}{G:Array GenState→Array GenState→Prop}{n:Nat}{P:Nat→Value→Prop}{St:Nat→Shared→Prop}(W:WalksS prog w A.in1 I fp wr G n P St)(hSf:S∉fp)(hu:A.in1.units<cLine){h0:Y5} {ps:Nat→Nat×Nat} (hn:n≤25) (sm:∀i,i<n→sI (ps i)) (dif:∀i j,i<j→j<n→ps i≠ps j) (hS0:h0.get? S=none) (hw0:∀b∈wr,h0.get? b=none) (hv:∀i v,i<n→P i v→IsPair h0 v (ps i)) :
  ∀(k i:Nat) (s:Shared),n-i=k→i≤n→St i s→(∀b o,h0.get? b=some o→s.heap.get? b=some o)→SetP s.heap S ((List.range i).map ps)→
   (∀s',Moved (S::wr) G s s'→SetP s'.heap S ((List.range n).map ps)→R (.ok (.ret .none)) s')→
   codeAny (model prog w) A (.builtin "set.update.loop" ⟨[.ref S,.ref I],[]⟩) R s:=by
 have nw:S∉wr:=λz=>hSf (W.sub _ z);have sub:∀b∈wr,b∈S::wr:=λb z=>.tail _ z;have out:∀{b:Zz} {o:Obj},h0.get? b=some o→b∉S::wr:=λ{b o} e z=>by
  rcases mem_cons.mp z with z|z
  ·rw[z,hS0]at e;cases e
  ·rw[hw0 b z]at e;cases e
 have stay:∀{s s':Z3} {L:List (Nat×Nat)},Moved wr G s s'→SetP s.heap S L→SetP s'.heap S L:=λm hS=>by
  obtain⟨o,es,ep,t,ho,rest⟩:=hS;exact⟨o,es,ep,t,m.heap S _ nw ho,rest⟩
 intro k
 induction k with
 |zero=>
  intro i s hk hi st kp hS hR;obtain rfl:i=n:=by omega
  refine codeAny_builtin PyProof.Rows.F.entry_set_update_loop ?_;rw[Around.under_plainId PyProof.Rows.F.plain_set_update_loop _];show wpAny _ A.in1 (pyNext (.ref I) >>= _) _ _ s;refine Zx (W.done s _ _ st λs' m=>?_);show wpAny _ A.in1 (ret Value.none) _ _ s';exact Zp (hR s' (m.mono sub) (stay m hS))
 |succ k ih=>
  intro i s hk hi st kp hS hR;have lt:i<n:=by omega
  refine codeAny_builtin PyProof.Rows.F.entry_set_update_loop ?_;rw[Around.under_plainId PyProof.Rows.F.plain_set_update_loop _];show wpAny _ A.in1 (pyNext (.ref I) >>= _) _ _ s;refine Zx (W.item i s _ _ lt st λv s1 pv st1 m=>?_);obtain⟨b,o,t,u,c,rfl,ho,hc,hd⟩:=hv i v lt pv;have kp1:∀b o,h0.get? b=some o→s1.heap.get? b=some o:=λb o e=>m.heap b o (λz=>out e (sub b z)) (kp b o e);have hS1:=stay m hS;show wpAny _ A.in1 (holding [Value.ref b] (setAdd S (.ref b)) >>= _) _ _ s1;refine Zx (wpAny_holding ?_);unfold setAdd;refine wpAny_holding (Zx (wpAny_pyHash_tuple (knd:=bK prog w) (ks:=[.inl ((ps i).1:Int),.inl ((ps i).2:Int)]) hu ⟨o,_,c,kp1 b o ho,hc,hd,.cons (iX _ _ _ _) (.cons (iX _ _ _ _) .nil)⟩ ?_));rw[C7];have nin:ps i∉(List.range i).map ps:=λz=>by
   obtain⟨j,hj,e⟩:=mem_map.mp z;exact dif j i (mem_range.mp hj) lt e
  refine xm (s:={s1 with toks:=s1.toks+(2+1)}) hS1 (sm i lt) nin (by rw[length_map,length_range];omega) (λq z=>?_) (kp1 b o ho) hc hd λh' sb hS2=>?_
  ·obtain⟨j,hj,rfl⟩:=mem_map.mp z;exact sm j (by have:=mem_range.mp hj;omega)
  have hS3:SetP h' S ((List.range (i+1)).map ps):=by rw[List.range_succ,map_append];exact hS2
  have ne:∀{b:Zz} {o:Obj},h0.get? b=some o→b≠S:=λe z=>out e (z ▸ .head _);refine Zp ⟨plainId_quiet PyProof.Rows.F.plain_set_update_loop _,ih (i+1) _ (by omega) lt (W.frame _ s1 _ _ st1 (le_add_right _ _) λb hb o e=>?_) (λb o e=>?_) hS3 λs2 m2 hS4=>?_⟩
  ·rw[sb.2 b (λz:b=S=>hSf (by rw[←z];exact hb))];exact e
  ·show h'.get? b=some o;rw[sb.2 b (ne e)];exact kp1 b o e
  ·refine hR s2 (Moved.trans W.gtrans ((m.mono sub).then_heap (le_add_right _ _) λb o hb e=>?_) m2) hS4;rw[sb.2 b (λz:b=S=>hb (by rw[z];exact mem_cons_self))];exact e
end
set_option maxHeartbeats 4000000
section
variable{prog:Zv}{w:Zn}{A:Zl}{E:Z5}{s:Shared}
def zn {h:Y5}{led:Bool}(e:h.get? a=some {cls:=.type "set",dict:=none,data:=.set #[] 0 (.fresh 0 0 led)}):SetP h a []:=
 ⟨_,#[],0,_,e,⟨rfl,rfl,rfl⟩,rfl,rfl,rfl,.inl ⟨rfl,zero_le _⟩,rfl,λe he=>by simp at he⟩
def vN {its:Ym}{ps:Y8}{Q:Z5}(hh:A.handled=none)(hu:A.units+8<cLine)(hl:s.heap.IsList l its)(hz:its.size=ps.length)(hn:ps.length≤25)(hv:∀i v,its[i]?=some v→IsPair s.heap v (ps.getD i (0,0))) (sm:∀p∈ps,sI p) (nd:ps.Nodup)(h:∀(h':Y5) (tk:Nat),SetP h' s.heap.objs.size ps→(∀b o,s.heap.get? b=some o→h'.get? b=some o)→Q (.ref s.heap.objs.size) {s with heap:=h',toks:=tk}) :
  wpAny (model prog w) A (call (.type "set") [.ref l]) Q E s:=by
 obtain⟨c,tl,mro⟩:=F.called_set.mro;have made:=F.called_set.made;have sb0:=F.called_set.sub;refine wpAny_call (codeAny_of_tree ?_);show wpAny _ _ (callAny (.type "set") _) _ _ _;refine Zp ⟨Code.quiet_builtin _ (by decide +kernel),codeAny_builtin F.entry_type_call ?_⟩;rw[Around.under_plain (weight_type_call_type "set" [.ref l] []) rfl];have k1:=F.called_set.notType;have k2:=F.called_set.canCreate;have k3:=F.typeCall_set_1 (.ref l)
 repeat (any_goals (first|assumption|wp_step))
 refine codeAny_mono (code_set_new_1 (.ref l) (E:=E) (Q₁:=λr s₁=>∃n:Bool,r= .ref s.heap.objs.size∧s₁={s with heap:=s.heap.push {cls:=.type "set",dict:=none,data:=.set #[] 0 (.fresh 0 0 n)}}) λn=>⟨n,rfl,rfl⟩) λr s₁ hr=>?_
 cases r with
 |error e=>exact hr
 |ok fl=>
  cases fl with
  |ret obj=>
   obtain⟨n,rfl,rfl⟩:=hr;generalize hp1:s.heap.push {cls:=.type "set",dict:=none,data:=.set #[] 0 (.fresh 0 0 n)}=hp;have gS:hp.get? s.heap.objs.size=some {cls:=.type "set",dict:=none,data:=.set #[] 0 (.fresh 0 0 n)}:=by rw[←hp1];exact Heap.get?_push_size _ rfl
   have gK:∀b o,s.heap.get? b=some o→hp.get? b=some o:=λb o e=>by rw[←hp1];exact Heap.get?_push_of_some _ e
   have x:hp.objs.size=s.heap.objs.size+1:=by rw[←hp1,Heap.size_push]
   have tS:Shared.TypeIs {s with heap:=hp} (.ref s.heap.objs.size) "set" :=⟨_,gS,rfl⟩
   have i1:=F.called_set.init.lookup;have i2:=F.called_set.init.bind (.ref s.heap.objs.size)
   repeat (any_goals (first|assumption|wp_step))
   refine codeAny_mono (codeAny_call_builtin (R:=wants (λr s₂=>r= .none∧∃h' tk,s₂={s with heap:=h',toks:=tk}∧SetP h' s.heap.objs.size ps∧(∀b o,s.heap.get? b=some o→h'.get? b=some o)) E) F.called_set.init.plain F.entry_set_init (check_set_init_1 tS ?_)) λr₂ s₂ k=>?_
   ·obtain⟨ol,hol,hcl,nl,hdl⟩:=hl;obtain⟨ocl,odi,oda,osl⟩:=ol;simp only at hcl hdl;subst hcl;subst hdl;have hol1:=gK _ _ hol;have z1:=F.sub_list_set;have z2:=F.sub_list_frozenset;have z3:(Value.type "list"==Value.type "dict")=false:=by decide
    have hl1:hp.IsList l its:=⟨_,hol1,rfl,nl,rfl⟩;unfold Builtin.«set.__init__» noKeywords Builtin.Frozenset.updateFrom;generalize hPI:pyIter=PI
    wp_walk
    subst hPI;refine wpAny_pyIter_list hl1 ?_;refine Zx (wpAny_runValue ?_);have lS:l<s.heap.objs.size:=Ys hol;have hh3:A.in1.in1.in1.handled=none:=by simp[hh]
    have neI:l≠hp.objs.size:=by rw[x];exact ne_of_lt (lt_succ_of_lt lS)
    have nS:s.heap.objs.size∉[hp.objs.size,l]:=by
     rw[x];simp only[mem_cons,not_mem_nil,or_false,not_or];exact⟨ne_of_lt (lt_succ_self _),ne_of_gt lS⟩
    have t:∀{a:Addr},s.heap.objs.size≤a→s.heap.get? a=none:=λ{a} e=>by
     cases q:s.heap.get? a with
     |none=>rfl
     |some o=>exact absurd (Ys q) (not_lt.mpr e)
    refine zp (h0:=s.heap) (ps:=λi=>ps.getD i (0,0)) ((Walks.list hh3 _ l neI its).toS) nS (by show A.units+1+1+1<cLine;omega) (by omega) (λi hi=>sm _ ?_) (λi j hij hj e=>?_) (t (le_refl _)) (λb hb=>t ?_) (λi v hi e=>hv i v e) (its.size-0) 0 _ (by omega) (zero_le _)
     ⟨⟨_,Heap.get?_push_size _ rfl,rfl,rfl⟩,(hl1.push _)⟩ (λb o e=>Heap.get?_push_of_some _ (gK b o e)) (zn (Heap.get?_push_of_some _ gS)) ?hR
    ·rw[hz]at hi;rw[getD_eq_getElem?_getD,d_ hi];exact getElem_mem hi
    ·rw[hz]at hj;have hi:i<ps.length:=by omega
     simp only[getD_eq_getElem?_getD,d_ hi,d_ hj,getD_some]at e;have:=(getElem_inj nd).mp e;omega
    ·rw[mem_singleton.mp hb,x];omega
    case hR=>
     intro s' m u;obtain⟨h',g',d',tk',os'⟩:=s';have eg:g'=s.gens:=m.gens;have ed:d'=s.drawn:=m.drawn;have eo:os'=s.os:=m.os;subst eg;subst ed;subst eo;show wpAny _ _ _ _ _ _;refine Zp ?_;show wpAny _ _ (ret Value.none) _ _ _;have eps:(List.range its.size).map (λi=>ps.getD i (0,0))=ps:=by
      rw[hz];apply ext_getElem (by simp);intro i h1 h2;simp only[getElem_map,getElem_range,getD_eq_getElem?_getD,d_ h2,getD_some]
     rw[eps]at u;refine Zp ⟨rfl,h',tk',rfl,u,λb o e=>?_⟩;have b1:=Ys e;exact m.heap b o (by rw[x];simp only[mem_cons,not_mem_nil,or_false,not_or];exact⟨ne_of_lt b1,ne_of_lt (lt_succ_of_lt b1)⟩) (Heap.get?_push_of_some _ (gK b o e))
   ·cases r₂ with
    |error e=>exact k
    |ok fl₂=>
     cases fl₂ with
     |ret r=>
      obtain⟨rfl,h',tk,rfl,u,hk'⟩:=k
      repeat (any_goals (first|assumption|wp_step))
      exact h _ _ u hk'
     |_=>exact k.elim
  |_=>exact hr.elim
end
set_option maxHeartbeats 4000000
def SetO (q:Zz)(n:Nat):HO:=.ext λh=>∃L,SetP h q L∧L.length=n
def Cp:bootBuiltins "set" =some (.type "set"):=by first|rfl|decide +kernel|kernel_rfl
def SetP.keeps {h1 h2:Y5}{L:Y8}(h:SetP h1 a L)(k:∀o,h1.get? a=some o→h2.get? a=some o):SetP h2 a L:=by
 obtain⟨o,es,ep,t,ho,rest⟩:=h;exact⟨o,es,ep,t,k o ho,rest⟩
def D1 (p:Yp):D:=.tup [.int p.1,.int p.2]
def D2:List D→Option (List (Nat×Nat))
 | []=>some []
 |.tup [.int (.ofNat i),.int (.ofNat j)]::ds=>(D2 ds).map ((i,j)::·)
 |_=>none
theorem vp:∀ps:List (Nat×Nat),D2 (ps.map D1)=some ps
 | []=>rfl
 |p::ps=>by
  show (D2 (ps.map D1)).map _=_;rw[vp ps];rfl
def Bl:∀{ds:Zy} {ps:List (Nat×Nat)},D2 ds=some ps→ds=ps.map D1:=by
 intro ds
 induction ds with
 |nil=>intro ps h;cases h;rfl
 |cons d ds ih=>
  intro ps h;unfold D2 at h;split at h
  ·rename_i e;cases e
  ·rename_i e;cases e;cases q:D2 ds with
   |none=>rw[q]at h;cases h
   |some qs=>rw[q]at h;cases h;rw[ih q];rfl
  ·cases h
def AR (ps:Y8):Bool:=decide ps.Nodup&&decide (ps.length≤25)&&ps.all λp=>decide (p.1<5)&&decide (p.2<5)
def okPs_iff {ps:Y8}:AR ps=true↔ps.Nodup∧ps.length≤25∧∀p∈ps,sI p:=by
 unfold AR sI;simp only[and_eq_true,decide_eq_true_eq,all_eq_true,and_assoc]
def ie:List D→Res D
 | [.lst ds]=>match D2 ds with
  |some ps=>if AR ps then .ok (.int ps.length) else .bad
  |none=>.bad
 |_=>.bad
def m9 {ps:Y8}(nd:ps.Nodup)(hl:ps.length≤25)(sm:∀p∈ps,sI p):ie [.lst (ps.map D1)]= .ok (.int ps.length):=by
 unfold ie;dsimp only;rw[vp];dsimp only;rw[Yj (okPs_iff.mpr ⟨nd,hl,sm⟩)]
section
variable{X:Cx}{E:XK}
def D7 (K:Z8)(xs:Zu)(H:Hp)(Q:VK):Prop:=∃(a:Zz) (vs:Zu) (ps:List (Nat×Nat)),xs=[V.ref a]∧f_ K H a vs∧vs.length=ps.length∧ps.Nodup∧ps.length≤25∧(∀p∈ps,sI p)∧
 (∀(i:Nat) (p:Nat×Nat),ps[i]?=some p→∃b,vs[i]?=some (V.ref b)∧lT K H b [.int p.1,.int p.2])∧∀q,H q=none→Q (.ref q) (bc H q (SetO q ps.length))
def vO {j:Nat}(hc:X.calm=true)(hr:Room j X.A):dZ X (.type "set") (D7 X.K):=by
 intro pins s σ H xs us Q I r h;obtain⟨a,vs,ps,rfl,sq,hl,nd,h25,sm,el,q⟩:=h;obtain⟨u,rfl,ru⟩:=i8 r;cases (show u= .ref a from ru);obtain⟨its,r',pl,hz⟩:=I.list sq;have hlen:=r'.length;refine vN (ps:=ps) (I.ok.hd hc) (by have:=hr.units;omega) pl.isList (by rw[size_toArray];omega) h25 (λi v e=>?_) sm nd λh' tk hS kp=>?_
 ·rw[List.getElem?_toArray]at e;have hi:i<its.length:=(d8 e).1;have hi2:i<ps.length:=by omega
  obtain⟨b,e1,sT⟩:=el i ps[i] (d_ hi2);obtain⟨jts,rj,⟨o,ho,hc,n,hd⟩,_⟩:=I.tuple sT;obtain⟨u1,eu,ru1⟩:=r'.get e1;rw[e]at eu;cases eu;obtain⟨y1,y2,rfl,z1,z2⟩:=zG rj;obtain⟨t1,rfl⟩:=z1;obtain⟨t2,rfl⟩:=z2;have ep:ps.getD i (0,0)=ps[i]:=by rw[getD_eq_getElem?_getD,d_ hi2];rfl
  rw[ep];exact⟨b,o,t1,t2,n,ru1,ho,hc,hd⟩
 ·exact⟨.ref s.heap.objs.size,_,I.laid (o:=SetO s.heap.objs.size ps.length) kp (le_refl _) (show _∧_∧_ from ⟨⟨ps,hS,rfl⟩,(let ⟨o,_,_,_,e,_⟩:=hS;⟨o,e⟩),λh1 h2 ⟨L,f,z⟩ k=>⟨L,f.keeps k,z⟩⟩),rfl,q _ (I.hok.fresh (le_refl _))⟩
def D6 (xs:Zu)(H:Hp)(Q:VK):Prop:=∃a n,xs=[V.ref a]∧H a=some (SetO a n)∧n≤25∧Q (.int n) H
def vL:dZ X (.builtin "len") D6:=by
 intro pins s σ H xs us Q I r h;obtain⟨a,n,rfl,ha,hn,q⟩:=h;obtain⟨u,rfl,ru⟩:=i8 r;cases (show u= .ref a from ru);obtain⟨⟨L,⟨o,es,ep,t,ho,hex,hd,hdm,hpl,hfew,hlen,_⟩,hL⟩,_⟩:=I.hok a _ ha;have e:es.size=n:=hlen.trans hL;exact call_len_set ho hex hd (SetP.fits hdm hpl hfew) (by rw[e];omega) ⟨.int n,H,I.tok _,⟨_,by rw[e]⟩,q⟩
def Ab {K:Z8}:zO K E (λxs H Q=>D7 K xs H λv H2=>D6 [v] H2 Q) ie:=by
 intro G H vs ds Q hs rl ok k;have main:∀o:List (Nat×Nat),ds=[.lst (o.map D1)]→AR o=true→D7 K vs H λv H2=>D6 [v] H2 Q:=λo e hk=>by
  subst e;obtain⟨nd,h25,sm⟩:=okPs_iff.mp hk;obtain⟨v,r,rfl,rx,r0⟩:=rl.inv;rw[r0.inv0];rw[rep_lst]at rx;obtain⟨p,xs,rfl,sq,rx⟩:=rx;refine⟨p,xs,o,rfl,hs.seq sq.sq,by rw[←rx.length,length_map],nd,h25,sm,λi q e=>?_,λl hl=>⟨l,o.length,rfl,ao,h25,?_⟩⟩
  ·obtain⟨w,ew,rw1⟩:=rx.get (i:=i) (d:=D1 q) (by rw[getElem?_map,e];rfl);unfold D1 at rw1;rw[rep_tup]at rw1;obtain⟨b,ys,rfl,tq,ry⟩:=rw1;have:ys=[V.int q.1,V.int q.2]:=RepL.ints (ns:=[(q.1:Int),(q.2:Int)]) ry;exact⟨b,ew,this ▸ hs.seqT tq⟩
  ·exact k (.int o.length) (.int o.length) G (bc H l (SetO l o.length)) (m9 nd h25 sm) ((Ext.refl hs).hnew hl _) (rep_int.mpr rfl)
 unfold ie at ok;split at ok
 ·split at ok
  ·rename_i o e;split at ok
   ·rename_i hk;exact main o (by rw[Bl e]) hk
   ·exact ok.elim
  ·exact ok.elim
 ·exact ok.elim
def A1 {p pos p' pos':Yn}{f:Z7}{j:Nat}(hm:X.mg "len" =none)(hm':X.mg "set" =none)(hr:Room j X.A)(h:PD X E e f)(hc:X.calm=true:=by rfl)(hg:Gl X "len" :=by rfl)(hg':Gl X "set" :=by rfl)(he:zQ2 X e []:=by rfl)(he':starEach [Expr.Call (.Name "set" p') [e] [] pos'] X.env=(false,eval (Expr.Call (.Name "set" p') [e] [] pos') X.env)::starEach [] X.env:=by rfl) :
  PD X E (.Call (.Name "len" p) [.Call (.Name "set" p') [e] [] pos'] [] pos) (λρ=>(f ρ).bind λa=>ie [a]):=by
 have h1:=cS (pos:=pos') (p:=p') (vO hc hr) hg' hm' Cp (ii (aa h ae he)) (by decide) (by decide) he rfl;have h2:=ny (pos:=pos) (p:=p) vL hg hm PySem.boot_len (cf h1 ef he') (by decide) (by decide) he' rfl;exact qC ▸ ua (fs:=λρ=>(f ρ).bind λd=>(Res.ok []:Res (List D)).bind λds=>.ok (d::ds)) h2 Ab
end
end L2
set_option maxHeartbeats 4000000
namespace K04
open PySem L2
def top (i:Nat):Stmt:=PySem.Challenge.pw_haltline_k04_whole_least_tables.main.body.getD i (.Pass ⟨0,0,0,0⟩)
structure Txt (K:Z8)(mg:Z4)(CL:Zz):Prop where
 b_len:mg "len" =none
 b_list:mg "list" =none
 b_range:mg "range" =none
 b_min:mg "min" =none
 b_max:mg "max" =none
 b_tuple:mg "tuple" =none
 b_sorted:mg "sorted" =none
 b_enumerate:mg "enumerate" =none
 b_zip:mg "zip" =none
 b_isinstance:mg "isinstance" =none
 b_int:mg "int" =none
 b_bool:mg "bool" =none
 b_set:mg "set" =none
 mS:∃t,mg "MOST_STRETCHES" =some (.int 5 t)
 mR:∃t,mg "MOST_RUN" =some (.int 20 t)
 mC:∃t,mg "MOST_CLEAR" =some (.int 5 t)
 mT:∃t,mg "MOST_TRAINS" =some (.int 5 t)
 mY:∃t,mg "MOST_READY" =some (.int 60 t)
 mgL:mg "Line" =some (.ref CL)
 cl:Cls K CL
 nM:NoAttr K CL "minutes"
 nG:NoAttr K CL "gap"
section
variable{P:Zv}{w:Zn}{K:Z8}{mg:Z4}{base:Y5}{CL:Addr}
seal L2.PD L2.lP L2.s9 L2.PDW L2.Ch L2.PN L2.PZ L2.lR L2.uD L2.FL L2.FN
abbrev iw:Stmt:=top 12
abbrev gM:List Str:=["runs","clear","run"]
@[irreducible] def eI (K:Z8)(CL:Zz):DS→Out:=(ax (fL (fA (hG (kI 1) (c1 (ab 0) aY) (kI 5) s_ s_)) bad1 nxt)
  (ax (cK (sL (ab 0)) (aP 2) (fL (fA (hG (kI 1) (ab 2) (kI 20) s_ s_)) bad1 nxt))
  (fL (fA (hG (kI 0) (ab 1) (kI 5) s_ s_)) bad1 nxt)))
def bw (K:Z8)(CL:Zz):List D→Res D:=iR 2 gM (eI K CL)
def sc_check_line:FnScope gM ["runs","clear"] (ai iw):=ll
def g0 (T:Txt K mg CL)(S:Sta K mg "check_line" iw ["runs","clear"]):Cal P w K mg base "check_line" 1 ["runs","clear"] (freshSp K 0 (bw K CL)):=by
 refine S.cal (k:=0) (r:=0) (F:=eI K CL) sc_check_line [] (by decide) rfl λf cdv A outer s H E hr=>?_;unfold eI;exact(ag (bn (bz (eY iD iD af (aV T.b_len (dv 0)) (se T.mS))) (ak cL) aW)
   (ag (bX (j:=2) Za rfl sc_check_line.nd rfl (by first|exact Or.inl rfl|exact Or.inr rfl) rfl (qW (bH (dv 0)))
    (ak (bn (bz (eY iD iD af (dv 2) (se T.mR))) (ak cL) aW)))
   (ak (bn (bz (eY iD iD af (dv 1) (se T.mC))) (ak cL) aW))))
abbrev uk:Stmt:=jh (top 11) 0
abbrev ul:Stmt:=jh (top 11) 1
abbrev qR:Stmt:=jh (top 11) 2
def j_ (CL:Zz):List D→Res D
 | [d]=>(j3 CL "minutes" d).bind λx=>cq [x]
 |_=>.bad
def jM (CL:Zz):List D→Res D
 | [d]=>j3 CL "gap" d
 |_=>.bad
def js (K:Z8)(CL:Zz):List D→Res D
 | [.lst l,.int c]=>(bw K CL [.lst l,.int c]).bind λ_=>.ok (.ins CL ["minutes","gap"] [.tup l,.int c])
 |_=>.bad
def yo:Cf CL (js K CL):=by
 intro ds d h;unfold js at h;split at h
 ·rename_i l c;cases q:bw K CL [.lst l,.int c] with
  |ok x=>rw[q]at h;cases h;exact⟨_,_,rfl⟩
  |exc x=>rw[q]at h;cases h
  |bad=>rw[q]at h;cases h
 ·cases h
def pb {E:XK}{H:Hp}{ds:Zy}(h:OkR E H (js K CL ds)):∃l c,ds=[.lst l,.int c]:=by
 unfold js at h;split at h
 ·exact⟨_,_,rfl⟩
 ·exact h.elim
def AB (v u:V):ik "gap" u (ik "minutes" v [])=([("minutes",v),("gap",u)]:List (Str×V)):=by
 show (if ("minutes" :Str)= "gap" then [(("minutes" :Str),u)] else (("minutes" :Str),v)::ik "gap" u [])=([("minutes",v),("gap",u)]:List (Str×V))
 rw[Yi (by decide +kernel)];rfl
def Bw:FnScope ["self","runs","clear"] ["self","runs","clear"] (ai uk):=⟨rfl,rfl,rfl,by decide +kernel,rfl,by decide +kernel,by decide +kernel⟩
def AW {fd:Y9}(F:Fun K "__init__" "Line.__init__" uk f fd)(T:Txt K mg CL)(g0:Cal P w K mg base "check_line" 1 ["runs","clear"] (freshSp K 0 (bw K CL))):FnOk P w K mg base (CXF P w) 2 f fd ["self","runs","clear"] (qo K CL (js K CL)):=by
 refine F.okF Bw (λvs H Q E h=>?_) (λcdv A outer s H vs Q E hr h=>?_)
 ·obtain⟨p,dx,rest,ds,G,rfl,_,_,_,rl,ho,_⟩:=h;obtain⟨l,c,rfl⟩:=pb ho;have:=rl.length;simp only[length_cons,length_nil]at this ⊢;omega
 ·obtain⟨p,dx,rest,ds,G,rfl,hp,hs,gp,rl,ho,k⟩:=h;obtain⟨l,c,rfl⟩:=pb ho
  ·obtain⟨v1,r1,rfl,p1,rl⟩:=rl.inv;obtain⟨v2,r2,rfl,p2,rl⟩:=rl.inv;cases rl.inv0;have ho':OkR E H ((bw K CL [.lst l,.int c]).bind λ_=>.ok (D.ins CL ["minutes","gap"] [.tup l,.int c])):=ho;refine⟨_,sv (eQ (dP (E:=E) (aI g0 hr (aa (dv 1) (aa (dv 2) ae)))))
    (sv (yY (pv 0) (dP (E:=E) (yF T.b_tuple (dv 1))) rfl) (vq (yY (pv 0) (pv 2) rfl))),?_⟩
   have ro:Ro K G (fN ["self","runs","clear"] [.ref p,v1,v2]) [none,some (.lst l),some (.int c)]:=Ro.skip (Ro.cons p1 (Ro.cons p2 Ro.nil));refine⟨G,_,hs,ro,ho'.fst,λd ed v G1 H1 x1 rp1=>?_⟩;refine⟨G1,_,x1.gh,ro.mono x1.gg,trivial,λd2 ed2 u G2 H2 x2 rp2=>?_⟩;have ed3:d2= .tup l:=by cases ed2;rfl
   subst ed3;have x:=x1.trans x2;have h2p:H2 p=some (.ins CL dx []):=x.hh _ _ hp;have g2p:G2 p=none:=by
    cases q:G2 p with
    |none=>rfl
    |some o=>
     rcases x.nw p o q with z|z|⟨ks,z⟩
     ·rw[gp]at z;cases z
     ·rw[hp]at z;cases z
     ·have h3:=x.gh p o q;rw[h2p]at h3;cases h3;cases z
   refine⟨_,rfl,p,CL,dx,[],rfl,h2p,T.cl,T.nM,(by show 0<1000;decide),_,rfl,_,rfl,p,CL,dx,_,rfl,ao,T.cl,T.nG,(by show 1<1000;decide),?_⟩;refine k ["minutes","gap"] [.tup l,.int c] ?_ [("minutes",u),("gap",v2)] G2 _ rfl (.cons rp2 (.cons (p2.mono x.gg) .nil)) (by rw[ao,AB]) (λb o e hb=>?_) x.gg (λb o e=>?_) x.nw g2p
   ·show (bw K CL [.lst l,.int c]).bind _=_;have:bw K CL [.lst l,.int c]= .ok d:=ed;rw[this];rfl
   ·rw[aj hb,aj hb];exact x.hh b o e
   ·have hb:b≠p:=λz=>by subst z;rw[g2p]at e;cases e
    rw[aj hb,aj hb];exact x.gh b o e
def Bx:FnScope ["self"] ["self"] (ai ul):=⟨rfl,rfl,rfl,by decide +kernel,rfl,by decide +kernel,by decide +kernel⟩
def AY {fd:Y9}(F:Fun K "runs" "Line.runs" ul f fd)(T:Txt K mg CL):FnOk P w K mg base (CXF P w) 1 f fd ["self"] (pureSp K (j_ CL)):=by
 refine F.pure Bx (λds h=>?_) (λcdv A outer s H E hr=>?_)
 ·unfold j_ at h;split at h
  ·rfl
  ·exact absurd rfl h
 ·refine⟨_,vo (yU (lc g_ uI rfl T.b_list gX (aa (yz (dv 0) T.cl T.nM) ae))),?_⟩;intro ds h
  match ds,h with
  | [d],h=>
   show ee ((((j3 CL "minutes" d).bind _).bind _).out _)=(j3 CL "minutes" d).bind _;cases j3 CL "minutes" d with
   |ok x=>
    show ee ((cq [x]).out Out.rt)=cq [x];cases cq [x] <;> rfl
   |_=>rfl
  | [],h=>exact absurd rfl h
  |_::_::_,h=>exact absurd rfl h
def zk:FnScope ["self"] ["self"] (ai qR):=⟨rfl,rfl,rfl,by decide +kernel,rfl,by decide +kernel,by decide +kernel⟩
def yx {fd:Y9}(F:Fun K "clear" "Line.clear" qR f fd)(T:Txt K mg CL):FnOk P w K mg base (CXF P w) 1 f fd ["self"] (pureSp K (jM CL)):=by
 refine F.pure zk (λds h=>?_) (λcdv A outer s H E hr=>?_)
 ·unfold jM at h;split at h
  ·rfl
  ·exact absurd rfl h
 ·refine⟨_,vo (yU (yz (dv 0) T.cl T.nG)),?_⟩;intro ds h
  match ds,h with
  | [d],h=>
   show ee ((j3 CL "gap" d).out _)=j3 CL "gap" d;cases j3 CL "gap" d <;> rfl
  | [],h=>exact absurd rfl h
  |_::_::_,h=>exact absurd rfl h
abbrev iq:Stmt:=top 29
abbrev gI:List Str:=["script","k","many","cell","stir"]
@[irreducible] def eC (K:Z8)(CL:Zz):DS→Out:=(ax (aQ 3 (kI 7))
  (ax (fL (ck (ac (c1 (ab 0) aY) (kI 0) AG)) (aQ 3 (ac (ab 0) (ac (ab 1) (c1 (ab 0) aY) la) aJ)) nxt)
  (ax (aQ 4 (ac (ac (ac (ac (ab 3) (kI 48271) fy) (ac (ac (ab 1) (kI 1) aO) (kI 7919) fy) aO) (c1 (ab 0) aY) aO) (kI 2147483647) la))
  (ax (aQ 4 (ac (ac (ac (ac (ab 4) (ab 4) fy) (ac (ab 1) (kI 16807) fy) aO) (kI 11) aO) (kI 2147483647) la))
  (bI (ac (ac (ac (ac (ab 4) (kI 48271) fy) (kI 2147483647) la) (kI 16) uR) (ab 2) la))))))
def ar (K:Z8)(CL:Zz):List D→Res D:=iR 3 gI (eC K CL)
def sc__law_drawn:FnScope gI ["script","k","many"] (ai iq):=ll
def aE (T:Txt K mg CL)(S:Sta K mg "_law_drawn" iq ["script","k","many"]):Cal P w K mg base "_law_drawn" 1 ["script","k","many"] (freshSp K 0 (ar K CL)):=by
 refine S.cal (k:=0) (r:=0) (F:=eC K CL) sc__law_drawn [] (by decide) rfl λf cdv A outer s H E hr=>?_;unfold eC;exact(ag (az (i:=3) sc__law_drawn.nd rfl (by first|exact Or.inl rfl|exact Or.inr rfl) (aN (PN.of af)))
   (ag (bn (aD uJ (aV T.b_len (dv 0)) af (bd _)) (ak (az (i:=3) sc__law_drawn.nd rfl (by first|exact Or.inl rfl|exact Or.inr rfl) (aN (PN.of (ay (dv 0) (aq iM (dv 1) (aV T.b_len (dv 0)))))))) aW)
   (ag (az (i:=4) sc__law_drawn.nd rfl (by first|exact Or.inl rfl|exact Or.inr rfl) (aN (PN.of (aq iM (aq aA (aq aA (aq cB (dv 3) af) (aq cB (aq aA (dv 1) af) af)) (aV T.b_len (dv 0))) af))))
   (ag (az (i:=4) sc__law_drawn.nd rfl (by first|exact Or.inl rfl|exact Or.inr rfl) (aN (PN.of (aq iM (aq aA (aq aA (aq cB (dv 4) (dv 4)) (aq cB (dv 1) af)) af) af))))
   (ak (aT (aN (PN.of (aq iM (aq Ad (aq iM (aq cB (dv 4) af) af) af) (dv 2))))))))))
abbrev iu:Stmt:=top 30
abbrev gL:List Str:=["found"]
@[irreducible] def eG (K:Z8)(CL:Zz):DS→Out:=(bI (Cl (λρ=>((ab 0) ρ).bind (fV K (cV (.ty "int")))) (Dt (λρ=>((ab 0) ρ).bind (fV K (cV (.ty "bool")))))))
def bR (K:Z8)(CL:Zz):List D→Res D:=iR 1 gL (eG K CL)
def oo:FnScope gL ["found"] (ai iu):=ll
def cA (T:Txt K mg CL)(S:Sta K mg "_law_whole" iu ["found"]):Cal P w K mg base "_law_whole" 1 ["found"] (freshSp K 0 (bR K CL)):=by
 refine S.cal (k:=0) (r:=0) (F:=eG K CL) oo [] (by decide) rfl λf cdv A outer s H E hr=>?_;unfold eG;exact(ak (aT (aN (PN.of (DG (nr T.b_isinstance (dv 0) (qG rfl T.b_int Cn rfl)) (DJ (DI (nr T.b_isinstance (dv 0) (qG rfl T.b_bool zX rfl)))))))))
abbrev jQ:Stmt:=top 31
abbrev jv:List Str:=["found","due","k"]
@[irreducible] def gE (K:Z8)(CL:Zz):DS→Out:=(ax (fL (tf (fA (ck (λρ=>((ab 0) ρ).bind (fV K (cV (.ty "list")))))) (ck (ac (c1 (ab 0) aY) (c1 (ab 1) aY) lK))) (bI (kB false)) nxt)
  (ax (cK (sR1 (pC (c1 (ab 1) aY) pN)) (aP 2) (fL (tf (fA (ck (bq (pC (ac (ab 0) (ab 2) aJ) pN) (bR K CL)))) (ck (ac (ac (ab 0) (ab 2) aJ) (ac (ab 1) (ab 2) aJ) lK))) (bI (kB false)) nxt))
  (bI (kB true))))
def dL (K:Z8)(CL:Zz):List D→Res D:=iR 2 jv (gE K CL)
def sc__law_row:FnScope jv ["found","due"] (ai jQ):=ll
def jB (T:Txt K mg CL)(S:Sta K mg "_law_row" jQ ["found","due"])(cA:Cal P w K mg base "_law_whole" 1 ["found"] (freshSp K 0 (bR K CL))):Cal P w K mg base "_law_row" 2 ["found","due"] (freshSp K 0 (dL K CL)):=by
 refine S.cal (k:=1) (r:=0) (F:=gE K CL) sc__law_row [] (by decide) rfl λf cdv A outer s H E hr=>?_;unfold gE;exact(ag (bn (PDW.pt (dn (bz (cP (nr T.b_isinstance (dv 0) (si T.b_list gX)))) (eP (aD (gc hr.units) (aV T.b_len (dv 0)) (aV T.b_len (dv 1)) (bd _))))) (ak (aT (aN (PN.of dC)))) aW)
   (ag (bX (j:=2) Za rfl sc__law_row.nd rfl (by first|exact Or.inl rfl|exact Or.inr rfl) rfl (cX rfl T.b_range (aa (aV T.b_len (dv 1)) ae))
    (ak (bn (PDW.pt (dn (bz (cP (aI cA hr (aa (ay (dv 0) (dv 2)) ae)))) (eP (aD (gc hr.units) (ay (dv 0) (dv 2)) (ay (dv 1) (dv 2)) (bd _))))) (ak (aT (aN (PN.of dC)))) aW)))
   (ak (aT (aN (PN.of dC))))))
abbrev i5:Stmt:=top 32
abbrev iJ:List Str:=["found","due","k"]
@[irreducible] def fI (K:Z8)(CL:Zz):DS→Out:=(ax (fL (tf (fA (ck (λρ=>((ab 0) ρ).bind (fV K (cV (.ty "list")))))) (ck (ac (c1 (ab 0) aY) (c1 (ab 1) aY) lK))) (bI (kB false)) nxt)
  (ax (cK (sR1 (pC (c1 (ab 1) aY) pN)) (aP 2) (fL (fA (ck (bq (pC (ac (ab 0) (ab 2) aJ) (pC (ac (ab 1) (ab 2) aJ) pN)) (dL K CL)))) (bI (kB false)) nxt))
  (bI (kB true))))
def d6 (K:Z8)(CL:Zz):List D→Res D:=iR 2 iJ (fI K CL)
def sc__law_rows:FnScope iJ ["found","due"] (ai i5):=ll
def iK (T:Txt K mg CL)(S:Sta K mg "_law_rows" i5 ["found","due"])(jB:Cal P w K mg base "_law_row" 2 ["found","due"] (freshSp K 0 (dL K CL))):Cal P w K mg base "_law_rows" 3 ["found","due"] (freshSp K 0 (d6 K CL)):=by
 refine S.cal (k:=2) (r:=0) (F:=fI K CL) sc__law_rows [] (by decide) rfl λf cdv A outer s H E hr=>?_;unfold fI;exact(ag (bn (PDW.pt (dn (bz (cP (nr T.b_isinstance (dv 0) (si T.b_list gX)))) (eP (aD (gc hr.units) (aV T.b_len (dv 0)) (aV T.b_len (dv 1)) (bd _))))) (ak (aT (aN (PN.of dC)))) aW)
   (ag (bX (j:=2) Za rfl sc__law_rows.nd rfl (by first|exact Or.inl rfl|exact Or.inr rfl) rfl (cX rfl T.b_range (aa (aV T.b_len (dv 1)) ae))
    (ak (bn (bz (cP (aI jB hr (aa (ay (dv 0) (dv 2)) (aa (ay (dv 1) (dv 2)) ae))))) (ak (aT (aN (PN.of dC)))) aW)))
   (ak (aT (aN (PN.of dC))))))
abbrev dw:Stmt:=top 33
abbrev de:List Str:=["script","base","many","runs"]
@[irreducible] def c_ (K:Z8)(CL:Zz):DS→Out:=(ax (aQ 2 (ac (kI 1) (bq (pC (ab 0) (pC (ab 1) (pC (kI 5) pN))) (ar K CL)) aO))
  (ax (aQ 3 (aR (sR1 (pC (ab 2) pN)) [none,some 0,some 1] (aP 0) yes (ac (kI 1) (bq (pC (ab 1) (pC (ac (ac (ab 2) (kI 2) aO) (ab 0) aO) (pC (ac (dl (pC (kI 4) (pC (kI 20) pN))) (bq (pC (ab 1) (pC (ac (ab 2) (kI 1) aO) (pC (kI 2) pN))) (ar K CL)) aJ) pN))) (ar K CL)) aO)))
  (bI (cE (pC (ab 3) (pC (bq (pC (ab 0) (pC (ac (ab 1) (kI 8) aO) (pC (kI 6) pN))) (ar K CL)) pN))))))
def cx (K:Z8)(CL:Zz):List D→Res D:=iR 2 de (c_ K CL)
def sc__law_line_by:FnScope de ["script","base"] (ai dw):=ll
def ff (T:Txt K mg CL)(S:Sta K mg "_law_line_by" dw ["script","base"])(aE:Cal P w K mg base "_law_drawn" 1 ["script","k","many"] (freshSp K 0 (ar K CL))):Cal P w K mg base "_law_line_by" 2 ["script","base"] (freshSp K 0 (cx K CL)):=by
 refine S.cal (k:=1) (r:=0) (F:=c_ K CL) sc__law_line_by [] (by decide) rfl λf cdv A outer s H E hr=>?_;unfold c_;exact(ag (az (i:=2) sc__law_line_by.nd rfl (by first|exact Or.inl rfl|exact Or.inr rfl) (aN (PN.of (aq aA af (aI aE hr (aa (dv 0) (aa (dv 1) (aa af ae))))))))
   (ag (B8 (yX sc__law_line_by.nd (i:=3) rfl rfl rfl (a9 (N:=["k","script","base"]) (caps:=[none,some 0,some 1]) (ai dw) de rfl rfl (by decide +kernel)) (j:=0) rfl rfl (by first|exact Or.inl rfl|exact Or.inr rfl) (dQ rfl T.b_range (aa (dv 2) ae)) (λ_ _ _ _=>bu) (λ_ _ _ _=>(PN.of (aq aA af (aI aE hr (aa (dv 1) (aa (aq aA (aq aA (dv 2) af) (dv 0)) (aa (ay (lg (aa af (aa af ae))) (aI aE hr (aa (dv 1) (aa (aq aA (dv 2) af) (aa af ae))) dm)) ae))) dm))))) rfl)
   (ak (aT (aN (PN.of (cF (aa (dv 3) (aa (aI aE hr (aa (dv 0) (aa (aq aA (dv 1) af) (aa af ae)))) ae)))))))))
abbrev dR:Stmt:=top 34
abbrev bZ:List Str:=["script","base","stretches","most","trains","k","start","goal"]
abbrev aX:List Nat:=[0,0,0,0,1,0,0,0]
@[irreducible] def bB (K:Z8)(CL:Zz):DS→Out:=(ax (aQ 4 (bS aX (dl pN)))
  (ax (cK (sR1 (pC (ac (kI 1) (bq (pC (ab 0) (pC (ab 1) (pC (ab 3) pN))) (ar K CL)) aO) pN)) (aP 5) (ax (aQ 6 (bS aX (bq (pC (ab 0) (pC (ac (ac (ab 1) (kI 1) aO) (ac (kI 5) (ab 5) fy) aO) (pC (ac (ab 2) (kI 1) aO) pN))) (ar K CL))))
  (ax (aQ 7 (bS aX (ac (ac (ac (ab 6) (kI 1) aO) (bq (pC (ab 0) (pC (ac (ac (ab 1) (kI 2) aO) (ac (kI 5) (ab 5) fy) aO) (pC (ab 2) pN))) (ar K CL)) aO) (ac (ab 2) (kI 1) aO) la)))
  (ax (fL (ck (ac (bq (pC (ab 0) (pC (ac (ac (ab 1) (kI 3) aO) (ac (kI 5) (ab 5) fy) aO) (pC (kI 3) pN))) (ar K CL)) (kI 1) Cy)) (ax (aQ 6 (bS aX (ac (bq (pC (ab 0) (pC (ac (ac (ab 1) (kI 4) aO) (ac (kI 5) (ab 5) fy) aO) (pC (kI 2) pN))) (ar K CL)) (ab 2) fy)))
  (aQ 7 (bS aX (ac (ab 2) (ab 6) lX)))) nxt)
  (jz 4 (bS aX (cE (pC (ab 6) (pC (ab 7) (pC (bq (pC (ab 0) (pC (ac (ac (ab 1) (kI 5) aO) (ac (kI 5) (ab 5) fy) aO) (pC (ac (dl (pC (kI 1) (pC (kI 9) (pC (kI 61) pN)))) (bq (pC (ab 0) (pC (ac (ab 1) (kI 40) aO) (pC (kI 3) pN))) (ar K CL)) aJ) pN))) (ar K CL)) pN))))))))))
  (bI (ab 4))))
def bE (K:Z8)(CL:Zz):List D→Res D:=iR 4 bZ (bB K CL)
def sc__law_trains_by:FnScope bZ ["script","base","stretches","most"] (ai dR):=ll
def dG (T:Txt K mg CL)(S:Sta K mg "_law_trains_by" dR ["script","base","stretches","most"])(aE:Cal P w K mg base "_law_drawn" 1 ["script","k","many"] (freshSp K 0 (ar K CL))):Cal P w K mg base "_law_trains_by" 2 ["script","base","stretches","most"] (freshSp K 1 (bE K CL)):=by
 refine S.cal (k:=1) (r:=1) (F:=bB K CL) sc__law_trains_by aX (by decide) rfl λf cdv A outer s H E hr=>?_;unfold bB;exact(ag (az (i:=4) sc__law_trains_by.nd rfl (by first|exact Or.inl rfl|exact Or.inr rfl) (au (jO ae)))
   (ag (bX (j:=5) Za rfl sc__law_trains_by.nd rfl (by first|exact Or.inl rfl|exact Or.inr rfl) rfl (cX rfl T.b_range (aa (aq aA af (aI aE hr (aa (dv 0) (aa (dv 1) (aa (dv 3) ae))))) ae))
    (ag (az (i:=6) sc__law_trains_by.nd rfl (by first|exact Or.inl rfl|exact Or.inr rfl) (au (PN.of (aI aE hr (aa (dv 0) (aa (aq aA (aq aA (dv 1) af) (aq cB af (dv 5))) (aa (aq aA (dv 2) af) ae)))))))
   (ag (az (i:=7) sc__law_trains_by.nd rfl (by first|exact Or.inl rfl|exact Or.inr rfl) (au (PN.of (aq iM (aq aA (aq aA (dv 6) af) (aI aE hr (aa (dv 0) (aa (aq aA (aq aA (dv 1) af) (aq cB af (dv 5))) (aa (dv 2) ae))))) (aq aA (dv 2) af)))))
   (ag (bn (aD (xw hr.units) (aI aE hr (aa (dv 0) (aa (aq aA (aq aA (dv 1) af) (aq cB af (dv 5))) (aa af ae)))) af (bd _)) (ag (az (i:=6) sc__law_trains_by.nd rfl (by first|exact Or.inl rfl|exact Or.inr rfl) (au (PN.of (aq cB (aI aE hr (aa (dv 0) (aa (aq aA (aq aA (dv 1) af) (aq cB af (dv 5))) (aa af ae)))) (dv 2)))))
   (ak (az (i:=7) sc__law_trains_by.nd rfl (by first|exact Or.inl rfl|exact Or.inr rfl) (au (PN.of (aq kQ (dv 2) (dv 6))))))) aW)
   (ak (jj (j:=4) (n:=0) rfl rfl (by first|exact Or.inl rfl|exact Or.inr (Or.inl rfl)|exact Or.inr (Or.inr rfl)) (au (PN.of (cF (aa (dv 6) (aa (dv 7) (aa (aI aE hr (aa (dv 0) (aa (aq aA (aq aA (dv 1) af) (aq cB af (dv 5))) (aa (ay (lg (aa af (aa af (aa af ae)))) (aI aE hr (aa (dv 0) (aa (aq aA (dv 1) af) (aa af ae))))) ae)))) ae))))))))))))
   (ak (jk (i:=4) rfl rfl (by first|exact Or.inl rfl|exact Or.inr (Or.inl rfl)|exact Or.inr (Or.inr rfl))))))
abbrev fF:Stmt:=top 35
abbrev e7:List Str:=["train"]
@[irreducible] def gF (K:Z8)(CL:Zz):DS→Out:=(ax (fL (ck (ac (ac (ab 0) (kI 0) aJ) (ac (ab 0) (kI 1) aJ) ym)) (bI (aR (sR2 (pC (ac (ab 0) (kI 0) aJ) (pC (ac (ab 0) (kI 1) aJ) pN))) [none] (aP 0) yes (ab 0))) nxt)
  (bI (ac (aR (sR2 (pC (ac (ab 0) (kI 1) aJ) (pC (ac (ab 0) (kI 0) aJ) pN))) [none] (aP 0) yes (ab 0)) (nG (kI 1)) sB)))
def aL (K:Z8)(CL:Zz):List D→Res D:=iR 1 e7 (gF K CL)
def sG:FnScope e7 ["train"] (ai fF):=ll
def bo (T:Txt K mg CL)(S:Sta K mg "_law_way" fF ["train"]):Cal P w K mg base "_law_way" 1 ["train"] (freshSp K 0 (aL K CL)):=by
 refine S.cal (k:=0) (r:=0) (F:=gF K CL) sG [] (by decide) rfl λf cdv A outer s H E hr=>?_;unfold gF;exact(ag (bn (aD mJ (ay (dv 0) af) (ay (dv 0) af) (bd _)) (ak (aT (aN (PN.of (PN.pd (bL (j:=0) rfl (a9 (N:=["k"]) (caps:=[none]) (ai fF) e7 rfl rfl (by decide +kernel)) rfl rfl (by first|exact Or.inl rfl|exact Or.inr rfl) (nz rfl T.b_range (aa (ay (dv 0) af) (aa (ay (dv 0) af) ae))) (λ_ _ _ _=>bu) (λ_ _ _ _=>(PN.of (dv 0))))))))) aW)
   (ak (aT (aN (PN.of (PN.pd (D0 (PN.pd (bL (j:=0) rfl (a9 (N:=["k"]) (caps:=[none]) (ai fF) e7 rfl rfl (by decide +kernel)) rfl rfl (by first|exact Or.inl rfl|exact Or.inr rfl) (nz rfl T.b_range (aa (ay (dv 0) af) (aa (ay (dv 0) af) ae))) (λ_ _ _ _=>bu) (λ_ _ _ _=>(PN.of (dv 0))))) (yD af))))))))
abbrev eT:Stmt:=top 36
abbrev eK:List Str:=["stretches","trains"]
@[irreducible] def eE (K:Z8)(CL:Zz):DS→Out:=(bI (aR (sR1 (pC (ab 0) pN)) [none,some 1] (aP 0) yes (aR (sR1 (pC (c1 (ab 1) aY) pN)) [none,some 0,some 1] (aP 0) (ck (ac (ab 1) (bq (pC (ac (ab 2) (ab 0) aJ) pN) (aL K CL)) (jn false))) (ab 0))))
def cc (K:Z8)(CL:Zz):List D→Res D:=iR 2 eK (eE K CL)
def on:FnScope eK ["stretches","trains"] (ai eT):=ll
def gZ (T:Txt K mg CL)(S:Sta K mg "_law_users" eT ["stretches","trains"])(bo:Cal P w K mg base "_law_way" 1 ["train"] (freshSp K 0 (aL K CL))):Cal P w K mg base "_law_users" 2 ["stretches","trains"] (freshSp K 0 (cc K CL)):=by
 refine S.cal (k:=1) (r:=0) (F:=eE K CL) on [] (by decide) rfl λf cdv A outer s H E hr=>?_;unfold eE;exact(ak (aT (aN (PN.of (PN.pd (bL (j:=0) rfl (a9 (N:=["stretch","trains"]) (caps:=[none,some 1]) (ai eT) eK rfl rfl (by decide +kernel)) rfl rfl (by first|exact Or.inl rfl|exact Or.inr rfl) (dQ rfl T.b_range (aa (dv 0) ae)) (λ_ _ _ _=>bu) (λ_ _ _ _=>(PN.of (PN.pd (bL (j:=0) rfl (mH (N:=["k","stretch","trains"]) (caps:=[none,some 0,some 1]) (by decide +kernel)) rfl rfl (by first|exact Or.inl rfl|exact Or.inr rfl) (dQ rfl T.b_range (aa (aV T.b_len (dv 1)) ae)) (λ_ _ _ _=>gA (aD (xy hr.units) (dv 1) (aI bo hr (aa (ay (dv 2) (dv 0)) ae) dm) (by rfl))) (λ_ _ _ _=>(PN.of (dv 0)))))))))))))
abbrev bg:Stmt:=top 37
abbrev a8:List Str:=["script","base","runs","gap","trains","mode","orders","stretch","left","row","ranks"]
abbrev aC:List Nat:=[0,0,0,0,0,0,2,0,1,1,0]
@[irreducible] def bY (K:Z8)(CL:Zz):DS→Out:=(ax (aQ 5 (bS aC (bq (pC (ab 0) (pC (ab 1) (pC (kI 3) pN))) (ar K CL))))
  (ax (fL (ck (ac (ab 5) (kI 0) Cy)) (ax (aQ 6 (bS aC (dl pN)))
  (ax (cK (sR1 (pC (c1 (ab 2) aY) pN)) (aP 7) (ax (aQ 8 (bS aC (bq (ye (ac (bq (pC (c1 (ab 2) aY) (pC (ab 4) pN)) (cc K CL)) (ab 7) aJ)) cq)))
  (ax (aQ 9 (bS aC (dl pN)))
  (ax (b8 (ck (ac (c1 (ab 8) aY) (kI 0) AG)) (gU 9 8 (bq (pC (ab 0) (pC (ac (ac (ac (ab 1) (kI 1) aO) (ac (kI 6) (ab 7) fy) aO) (c1 (ab 9) aY) aO) (pC (c1 (ab 8) aY) pN))) (ar K CL))) 6)
  (mw 6 9)))))
  (bI (ab 6)))) nxt)
  (ax (aQ 10 (bS aC (aR (sE (pC (ab 4) pN)) [none,none,some 5] (gW 0 1) yes (cE (pC (ac (ac (ab 1) (kI 2) aJ) (ac (ab 2) (kI 1) lX) fy) (pC (ab 0) pN))))))
  (ax (aQ 10 (bS aC (aR (sR1 (pC (c1 (ab 4) aY) pN)) [none,some 0,some 10,some 1] (aP 0) yes (cE (pC (ac (ac (ac (ab 2) (ab 0) aJ) (kI 0) aJ) (bq (pC (ab 1) (pC (ac (ac (ab 3) (kI 40) aO) (ab 0) aO) (pC (kI 9) pN))) (ar K CL)) aO) (pC (ab 0) pN))))))
  (ax (aQ 9 (bS aC (aR (sL (c1 (ab 10) iA)) [none] (aP 0) yes (ac (ab 0) (kI 1) aJ))))
  (bI (jS 2 (aR (sR1 (pC (c1 (ab 2) aY) pN)) [none,some 9,some 4] (aP 0) yes (aR (sL (ab 1)) [none,some 0,some 2] (aP 0) (ck (ac (ab 1) (bq (pC (ac (ab 2) (ab 0) aJ) pN) (aL K CL)) (jn false))) (ab 0))))))))))
def a_ (K:Z8)(CL:Zz):List D→Res D:=iR 5 a8 (bY K CL)
def sc__law_orders_by:FnScope a8 ["script","base","runs","gap","trains"] (ai bg):=ll
def dF (T:Txt K mg CL)(S:Sta K mg "_law_orders_by" bg ["script","base","runs","gap","trains"])(aE:Cal P w K mg base "_law_drawn" 1 ["script","k","many"] (freshSp K 0 (ar K CL)))(gZ:Cal P w K mg base "_law_users" 2 ["stretches","trains"] (freshSp K 0 (cc K CL)))(bo:Cal P w K mg base "_law_way" 1 ["train"] (freshSp K 0 (aL K CL))):Cal P w K mg base "_law_orders_by" 3 ["script","base","runs","gap","trains"] (freshSp K 2 (a_ K CL)):=by
 refine S.cal (k:=2) (r:=2) (F:=bY K CL) sc__law_orders_by aC (by decide) rfl λf cdv A outer s H E hr=>?_;unfold bY;exact(ag (az (i:=5) sc__law_orders_by.nd rfl (by first|exact Or.inl rfl|exact Or.inr rfl) (au (PN.of (aI aE hr (aa (dv 0) (aa (dv 1) (aa af ae)))))))
   (ag (bn (aD (xw hr.units) (dv 5) af (bd _)) (ag (az (i:=6) sc__law_orders_by.nd rfl (by first|exact Or.inl rfl|exact Or.inr rfl) (au (Bi qL)))
   (ag (bX (j:=7) Za rfl sc__law_orders_by.nd rfl (by first|exact Or.inl rfl|exact Or.inr rfl) rfl (cX rfl T.b_range (aa (aV T.b_len (dv 2)) ae))
    (ag (az (i:=8) sc__law_orders_by.nd rfl (by first|exact Or.inl rfl|exact Or.inr rfl) (au (vm (ay (aI gZ hr (aa (aV T.b_len (dv 2)) (aa (dv 4) ae))) (dv 7)) rfl T.b_list)))
   (ag (az (i:=9) sc__law_orders_by.nd rfl (by first|exact Or.inl rfl|exact Or.inr rfl) (au (jO ae)))
   (ag (nA 6 Za (aD uJ (aV T.b_len (dv 8)) af (bd _)) (ak (wJ (j:=9) (i:=8) (by decide) rfl rfl rfl rfl (by first|exact Or.inl rfl|exact Or.inr (Or.inl rfl)|exact Or.inr (Or.inr rfl)) (by first|exact Or.inl rfl|exact Or.inr (Or.inl rfl)|exact Or.inr (Or.inr rfl)) (aI aE hr (aa (dv 0) (aa (aq aA (aq aA (aq aA (dv 1) af) (aq cB af (dv 7))) (aV T.b_len (dv 9))) (aa (aV T.b_len (dv 8)) ae)))))))
   (ak (yO (n:=1) (j:=6) (i:=9) (by decide) rfl rfl rfl rfl (by first|exact Or.inl rfl|exact Or.inr (Or.inl rfl)|exact Or.inr (Or.inr rfl)) (by first|exact Or.inl rfl|exact Or.inr (Or.inl rfl)|exact Or.inr (Or.inr rfl))))))))
   (ak (jk (i:=6) rfl rfl (by first|exact Or.inl rfl|exact Or.inr (Or.inl rfl)|exact Or.inr (Or.inr rfl)))))) aW)
   (ag (az (i:=10) sc__law_orders_by.nd rfl (by first|exact Or.inl rfl|exact Or.inr rfl) (au (PN.of (PN.pd (sr (j:=0) (l:=1) rfl (a9 (N:=["k","train","mode"]) (caps:=[none,none,some 5]) (ai bg) a8 rfl rfl (by decide +kernel)) rfl rfl rfl rfl (by first|exact Or.inl rfl|exact Or.inr rfl) (by first|exact Or.inl rfl|exact Or.inr rfl) (gC rfl T.b_enumerate (aa (dv 4) ae)) (λ_ _ _ _=>bu) (λ_ _ _ _=>(PN.of (cF (aa (aq cB (ay (dv 1) af) (aq kQ (dv 2) af)) (aa (dv 0) ae))))))))))
   (ag (az (i:=10) sc__law_orders_by.nd rfl (by first|exact Or.inl rfl|exact Or.inr rfl) (au (PN.of (PN.pd (bL (j:=0) rfl (a9 (N:=["k","script","ranks","base"]) (caps:=[none,some 0,some 10,some 1]) (ai bg) a8 rfl rfl (by decide +kernel)) rfl rfl (by first|exact Or.inl rfl|exact Or.inr rfl) (dQ rfl T.b_range (aa (aV T.b_len (dv 4)) ae)) (λ_ _ _ _=>bu) (λ_ _ _ _=>(PN.of (cF (aa (aq aA (ay (ay (dv 2) (dv 0)) af) (aI aE hr (aa (dv 1) (aa (aq aA (aq aA (dv 3) af) (dv 0)) (aa af ae))) dm)) (aa (dv 0) ae))))))))))
   (ag (az (i:=9) sc__law_orders_by.nd rfl (by first|exact Or.inl rfl|exact Or.inr rfl) (au (bL (j:=0) rfl (a9 (N:=["pair"]) (caps:=[none]) (ai bg) a8 rfl rfl (by decide +kernel)) rfl rfl (by first|exact Or.inl rfl|exact Or.inr rfl) (bH (PN.pd (yT T.b_sorted (dv 10)))) (λ_ _ _ _=>bu) (λ_ _ _ _=>(PN.of (ay (dv 0) af))))))
   (ak (aT (dY (bL (j:=0) rfl (a9 (N:=["stretch","row","trains"]) (caps:=[none,some 9,some 4]) (ai bg) a8 rfl rfl (by decide +kernel)) rfl rfl (by first|exact Or.inl rfl|exact Or.inr rfl) (dQ rfl T.b_range (aa (aV T.b_len (dv 2)) ae)) (λ_ _ _ _=>bu) (λ_ _ _ _=>(bL (j:=0) rfl (mH (N:=["k","stretch","trains"]) (caps:=[none,some 0,some 2]) (by decide +kernel)) rfl rfl (by first|exact Or.inl rfl|exact Or.inr rfl) (bH (dv 1)) (λ_ _ _ _=>gA (aD (xy hr.units) (dv 1) (aI bo hr (aa (ay (dv 2) (dv 0)) ae) dm) (by rfl))) (λ_ _ _ _=>(PN.of (dv 0))))))))))))))
abbrev ir:Stmt:=top 38
abbrev gJ:List Str:=["trains","orders","visit","mode","at","found","row","place"]
abbrev bb:List Nat:=[0,0,0,0,0,1,0,0]
@[irreducible] def eF (K:Z8)(CL:Zz):DS→Out:=(ax (aQ 3 (bS bb (bq (pC (ac (ab 0) (ac (ab 2) (kI 0) aJ) aJ) pN) (aL K CL))))
  (ax (aQ 4 (bS bb (ac (ab 3) (ac (ab 2) (kI 1) aJ) jH)))
  (ax (aQ 5 (bS bb (dl pN)))
  (ax (fL (ck (ac (ab 4) (kI 0) AG)) (jz 5 (bS bb (cE (pC (ac (ab 2) (kI 0) aJ) (pC (ac (ab 3) (ac (ab 4) (kI 1) lX) aJ) pN))))) nxt)
  (ax (aQ 6 (bS bb (ac (ab 1) (ac (ab 2) (kI 1) aJ) aJ)))
  (ax (aQ 7 (bS bb (ac (ab 6) (ac (ab 2) (kI 0) aJ) jH)))
  (ax (fL (ck (ac (ab 7) (kI 0) AG)) (jz 5 (bS bb (cE (pC (ac (ab 6) (ac (ab 7) (kI 1) lX) aJ) (pC (ac (ab 2) (kI 1) aJ) pN))))) nxt)
  (bI (ab 5)))))))))
def bv (K:Z8)(CL:Zz):List D→Res D:=iR 3 gJ (eF K CL)
def sc__law_waits:FnScope gJ ["trains","orders","visit"] (ai ir):=ll
def dk (T:Txt K mg CL)(S:Sta K mg "_law_waits" ir ["trains","orders","visit"])(bo:Cal P w K mg base "_law_way" 1 ["train"] (freshSp K 0 (aL K CL))):Cal P w K mg base "_law_waits" 2 ["trains","orders","visit"] (freshSp K 1 (bv K CL)):=by
 refine S.cal (k:=1) (r:=1) (F:=eF K CL) sc__law_waits bb (by decide) rfl λf cdv A outer s H E hr=>?_;unfold eF;exact(ag (az (i:=3) sc__law_waits.nd rfl (by first|exact Or.inl rfl|exact Or.inr rfl) (au (PN.of (aI bo hr (aa (ay (dv 0) (ay (dv 2) af)) ae)))))
   (ag (az (i:=4) sc__law_waits.nd rfl (by first|exact Or.inl rfl|exact Or.inr rfl) (au (PN.of (nq hr.units (dv 3) (ay (dv 2) af) (r9 dN Dv qq)))))
   (ag (az (i:=5) sc__law_waits.nd rfl (by first|exact Or.inl rfl|exact Or.inr rfl) (au (jO ae)))
   (ag (bn (aD uJ (dv 4) af (bd _)) (ak (jj (j:=5) (n:=0) rfl rfl (by first|exact Or.inl rfl|exact Or.inr (Or.inl rfl)|exact Or.inr (Or.inr rfl)) (au (PN.of (cF (aa (ay (dv 2) af) (aa (ay (dv 3) (aq kQ (dv 4) af)) ae))))))) aW)
   (ag (az (i:=6) sc__law_waits.nd rfl (by first|exact Or.inl rfl|exact Or.inr rfl) (au (PN.of (ay (dv 1) (ay (dv 2) af)))))
   (ag (az (i:=7) sc__law_waits.nd rfl (by first|exact Or.inl rfl|exact Or.inr rfl) (au (PN.of (nq hr.units (dv 6) (ay (dv 2) af) (r9 dN Dv qq)))))
   (ag (bn (aD uJ (dv 7) af (bd _)) (ak (jj (j:=5) (n:=0) rfl rfl (by first|exact Or.inl rfl|exact Or.inr (Or.inl rfl)|exact Or.inr (Or.inr rfl)) (au (PN.of (cF (aa (ay (dv 6) (aq kQ (dv 7) af)) (aa (ay (dv 2) af) ae))))))) aW)
   (ak (jk (i:=5) rfl rfl (by first|exact Or.inl rfl|exact Or.inr (Or.inl rfl)|exact Or.inr (Or.inr rfl)))))))))))
abbrev eS:Stmt:=top 39
abbrev eJ:List Str:=["runs","gap","trains","orders","enters","k","stretch","lap","turned","visit","other","soonest"]
abbrev aw:List Nat:=[0,0,0,0,1,0,0,0,0,0,0,0]
@[irreducible] def eD (K:Z8)(CL:Zz):DS→Out:=(ax (aQ 4 (bS aw (λ_=>Res.ok (.dct [] []))))
  (ax (cK (sR1 (pC (c1 (ab 2) aY) pN)) (aP 5) (cK (we aw (sL (bq (pC (ac (ab 2) (ab 5) aJ) pN) (aL K CL)))) (aP 6) (fK 4 (cE (pC (ab 5) (pC (ab 6) pN))) (bS aw (ac (ac (ab 2) (ab 5) aJ) (kI 2) aJ)))))
  (ax (cK (sR1 (pC (ac (c1 (ab 4) qy) (kI 1) aO) pN)) (aP 7) (ax (aQ 8 (bS aw (kB false)))
  (ax (cK (sL (jS 1 (bq (ye (ab 4)) dJ))) (aP 9) (cK (we aw (sL (bq (pC (ab 2) (pC (ab 3) (pC (ab 9) pN))) (bv K CL)))) (aP 10) (ax (aQ 11 (jS 0 (ac (ac (ab 4) (ab 10) bm) (ac (ab 0) (ac (ab 10) (kI 1) aJ) aJ) aO)))
  (ax (fL (ck (ac (ac (ab 10) (kI 0) aJ) (ac (ab 9) (kI 0) aJ) lK)) (aQ 11 (bS aw (ac (ab 11) (ab 1) aO))) nxt)
  (fL (ck (ac (ac (ab 4) (ab 9) bm) (ab 11) ym)) (ax (fK 4 (ab 9) (bS aw (ab 11)))
  (aQ 8 (bS aw (kB true)))) nxt)))))
  (fL (fA (ck (ab 8))) (bI (jS 2 (aR (sR1 (pC (c1 (ab 2) aY) pN)) [none,some 4,some 2] (aP 0) yes (aR (sL (bq (pC (ac (ab 2) (ab 0) aJ) pN) (aL K CL))) [none,some 1,some 0] (aP 0) yes (ac (ab 1) (cE (pC (ab 2) (pC (ab 0) pN))) bm))))) nxt))))
  (bI (bS aw (jS 1 (jS 0 kN)))))))
def bQ (K:Z8)(CL:Zz):List D→Res D:=iR 4 eJ (eD K CL)
def sc__law_least:FnScope eJ ["runs","gap","trains","orders"] (ai eS):=ll
def gY (T:Txt K mg CL)(S:Sta K mg "_law_least" eS ["runs","gap","trains","orders"])(dk:Cal P w K mg base "_law_waits" 2 ["trains","orders","visit"] (freshSp K 1 (bv K CL)))(bo:Cal P w K mg base "_law_way" 1 ["train"] (freshSp K 0 (aL K CL))):Cal P w K mg base "_law_least" 3 ["runs","gap","trains","orders"] (freshSp K 2 (bQ K CL)):=by
 refine S.cal (k:=2) (r:=2) (F:=eD K CL) sc__law_least aw (by decide) rfl λf cdv A outer s H E p=>?_;unfold eD;exact(ag (az (i:=4) sc__law_least.nd rfl (by first|exact Or.inl rfl|exact Or.inr rfl) (au qK))
   (ag (bX (j:=5) Za rfl sc__law_least.nd rfl (by first|exact Or.inl rfl|exact Or.inr rfl) rfl (cX rfl T.b_range (aa (aV T.b_len (dv 2)) ae))
    (ak (bX (j:=6) Za rfl sc__law_least.nd rfl (by first|exact Or.inl rfl|exact Or.inr rfl) rfl (eV (bH (aI bo p (aa (ay (dv 2) (dv 5)) ae))))
    (ak (me (j:=4) (n:=0) p.units rfl rfl (by first|exact Or.inl rfl|exact Or.inr (Or.inl rfl)|exact Or.inr (Or.inr rfl)) (cF (aa (dv 5) (aa (dv 6) ae))) (au (PN.of (ay (ay (dv 2) (dv 5)) af))))))))
   (ag (bX (j:=7) Za rfl sc__law_least.nd rfl (by first|exact Or.inl rfl|exact Or.inr rfl) rfl (cX rfl T.b_range (aa (aq aA (u_ T.b_len (dv 4)) af) ae))
    (ag (az (i:=8) sc__law_least.nd rfl (by first|exact Or.inl rfl|exact Or.inr rfl) (au (PN.of dC)))
   (ag (bX (j:=9) Za rfl sc__law_least.nd rfl (by first|exact Or.inl rfl|exact Or.inr rfl) rfl (BN (PZ.zero (dY (yQ T.b_list (dv 4)))))
    (ak (bX (j:=10) Za rfl sc__law_least.nd rfl (by first|exact Or.inl rfl|exact Or.inr rfl) rfl (eV (bH (aI dk p (aa (dv 2) (aa (dv 3) (aa (dv 9) ae))))))
    (ag (az (i:=11) sc__law_least.nd rfl (by first|exact Or.inl rfl|exact Or.inr rfl) (dY (PN.of (aq aA (ij p.units (dv 4) (dv 10)) (ay (dv 0) (ay (dv 10) af))))))
   (ag (bn (aD (gc p.units) (ay (dv 10) af) (ay (dv 9) af) (bd _)) (ak (az (i:=11) sc__law_least.nd rfl (by first|exact Or.inl rfl|exact Or.inr rfl) (au (PN.of (aq aA (dv 11) (dv 1)))))) aW)
   (ak (bn (aD mJ (ij p.units (dv 4) (dv 9)) (dv 11) (bd _)) (ag (me (j:=4) (n:=0) p.units rfl rfl (by first|exact Or.inl rfl|exact Or.inr (Or.inl rfl)|exact Or.inr (Or.inr rfl)) (dv 9) (au (PN.of (dv 11))))
   (ak (az (i:=8) sc__law_least.nd rfl (by first|exact Or.inl rfl|exact Or.inr rfl) (au (PN.of dC))))) aW)))))))
   (ak (bn (bz (cP (dv 8))) (ak (aT (dY (bL (j:=0) rfl (a9 (N:=["k","enters","trains"]) (caps:=[none,some 4,some 2]) (ai eS) eJ rfl rfl (by decide +kernel)) rfl rfl (by first|exact Or.inl rfl|exact Or.inr rfl) (dQ rfl T.b_range (aa (aV T.b_len (dv 2)) ae)) (λ_ _ _ _=>bu) (λ_ _ _ _=>(bL (j:=0) rfl (mH (N:=["stretch","enters","k"]) (caps:=[none,some 1,some 0]) (by decide +kernel)) rfl rfl (by first|exact Or.inl rfl|exact Or.inr rfl) (bH (aI bo p (aa (ay (dv 2) (dv 0)) ae) dm)) (λ_ _ _ _=>bu) (λ_ _ _ _=>(PN.of (ij p.units (dv 1) (cF (aa (dv 2) (aa (dv 0) ae)))))))))))) aW)))))
   (ak (aT (au (PN.up (PN.up (PN.of yE)))))))))
abbrev fD:Stmt:=top 40
abbrev eZ:List Str:=["found","trains","orders","visit","k"]
@[irreducible] def cZ (K:Z8)(CL:Zz):DS→Out:=(ax (fL (tf (fA (ck (λρ=>((ab 0) ρ).bind (fV K (cV (.ty "list")))))) (tf (ck (ac (c1 (ab 0) aY) (kI 2) ym)) (ck (ac (c1 (ab 0) ie) (c1 (ab 0) aY) ym)))) (bI (kB false)) nxt)
  (ax (cK (sL (ab 0)) (aP 3) (ax (fL (tf (fA (ck (λρ=>((ab 3) ρ).bind (fV K (cV (.ty "tuple")))))) (tf (ck (ac (c1 (ab 3) aY) (kI 2) lK)) (tf (fA (ck (bq (pC (ac (ab 3) (kI 0) aJ) pN) (bR K CL)))) (fA (ck (bq (pC (ac (ab 3) (kI 1) aJ) pN) (bR K CL))))))) (bI (kB false)) nxt)
  (fL (tf (ck (ac (ac (ab 3) (kI 0) aJ) (kI 0) ym)) (tf (ck (ac (ac (ab 3) (kI 0) aJ) (c1 (ab 1) aY) FY)) (ck (ac (ac (ab 3) (kI 1) aJ) (bq (pC (ac (ab 1) (ac (ab 3) (kI 0) aJ) aJ) pN) (aL K CL)) (jn true))))) (bI (kB false)) nxt)))
  (ax (cK (sR1 (pC (c1 (ab 0) aY) pN)) (aP 4) (fL (ck (ac (ac (ab 0) (ac (ac (ab 4) (kI 1) aO) (c1 (ab 0) aY) la) aJ) (bq (pC (ab 1) (pC (ab 2) (pC (ac (ab 0) (ab 4) aJ) pN))) (bv K CL)) (jn true))) (bI (kB false)) nxt))
  (bI (kB true)))))
def cw (K:Z8)(CL:Zz):List D→Res D:=iR 3 eZ (cZ K CL)
def sc__law_is_ring:FnScope eZ ["found","trains","orders"] (ai fD):=ll
def e_ (T:Txt K mg CL)(S:Sta K mg "_law_is_ring" fD ["found","trains","orders"])(dk:Cal P w K mg base "_law_waits" 2 ["trains","orders","visit"] (freshSp K 1 (bv K CL)))(bo:Cal P w K mg base "_law_way" 1 ["train"] (freshSp K 0 (aL K CL)))(cA:Cal P w K mg base "_law_whole" 1 ["found"] (freshSp K 0 (bR K CL))):Cal P w K mg base "_law_is_ring" 3 ["found","trains","orders"] (freshSp K 0 (cw K CL)):=by
 refine S.cal (k:=2) (r:=0) (F:=cZ K CL) sc__law_is_ring [] (by decide) rfl λf cdv A outer s H E hr=>?_;unfold cZ;exact(ag (bn (PDW.pt (dn (bz (cP (nr T.b_isinstance (dv 0) (si T.b_list gX)))) (dn (aD mJ (aV T.b_len (dv 0)) af (bd _)) (eP (aD mJ (A1 T.b_len T.b_set hr (dv 0)) (aV T.b_len (dv 0)) (bd _)))))) (ak (aT (aN (PN.of dC)))) aW)
   (ag (bX (j:=3) Za rfl sc__law_is_ring.nd rfl (by first|exact Or.inl rfl|exact Or.inr rfl) rfl (qW (bH (dv 0)))
    (ag (bn (PDW.pt (dn (bz (cP (nr T.b_isinstance (dv 3) (si T.b_tuple my)))) (dn (aD (gc hr.units) (aV T.b_len (dv 3)) af (bd _)) (dn (bz (cP (aI cA hr (aa (ay (dv 3) af) ae)))) (eP (bz (cP (aI cA hr (aa (ay (dv 3) af) ae))))))))) (ak (aT (aN (PN.of dC)))) aW)
   (ak (bn (PDW.pt (dn (aD mJ (ay (dv 3) af) af (bd _)) (dn (aD EA (ay (dv 3) af) (aV T.b_len (dv 1)) (bd _)) (eP (aD (gi hr.units) (ay (dv 3) af) (aI bo hr (aa (ay (dv 1) (ay (dv 3) af)) ae)) (by rfl)))))) (ak (aT (aN (PN.of dC)))) aW))))
   (ag (bX (j:=4) Za rfl sc__law_is_ring.nd rfl (by first|exact Or.inl rfl|exact Or.inr rfl) rfl (cX rfl T.b_range (aa (aV T.b_len (dv 0)) ae))
    (ak (bn (aD (gi hr.units) (ay (dv 0) (aq iM (aq aA (dv 4) af) (aV T.b_len (dv 0)))) (aI dk hr (aa (dv 1) (aa (dv 2) (aa (ay (dv 0) (dv 4)) ae)))) (by rfl)) (ak (aT (aN (PN.of dC)))) aW)))
   (ak (aT (aN (PN.of dC)))))))
abbrev f6:Stmt:=top 14
abbrev fO:List Str:=["line","train","last_halt","halt","ready"]
@[irreducible] def dU (K:Z8)(CL:Zz):DS→Out:=(ax (fL (ck (ac (c1 (ab 1) aY) (kI 3) lK)) bad1 nxt)
  (ax (aQ 2 (c1 (lJ CL "runs" (ab 0) (j_ CL)) aY))
  (ax (cK (sT (zN (ab 1) oN (oI (kI 2)))) (aP 3) (fL (fA (hG (kI 0) (ab 3) (ab 2) s_ s_)) bad1 nxt))
  (ax (fL (ck (ac (ac (ab 1) (kI 0) aJ) (ac (ab 1) (kI 1) aJ) Cy)) bad1 nxt)
  (ax (aQ 4 (ac (ab 1) (kI 2) aJ))
  (fL (fA (hG (kI 0) (ab 4) (kI 60) s_ s_)) bad1 nxt))))))
def cj (K:Z8)(CL:Zz):List D→Res D:=iR 2 fO (dU K CL)
def sc_check_train:FnScope fO ["line","train"] (ai f6):=ll
def fQ (T:Txt K mg CL)(S:Sta K mg "check_train" f6 ["line","train"])(c_runs:CalM P w K mg base CL "runs" 1 (j_ CL)):Cal P w K mg base "check_train" 2 ["line","train"] (freshSp K 0 (cj K CL)):=by
 refine S.cal (k:=1) (r:=0) (F:=dU K CL) sc_check_train [] (by decide) rfl λf cdv A outer s H E hr=>?_;unfold dU;exact(ag (bn (aD (gc hr.units) (aV T.b_len (dv 1)) af (bd _)) (ak cL) aW)
   (ag (az (i:=2) sc_check_train.nd rfl (by first|exact Or.inl rfl|exact Or.inr rfl) (aN (PN.of (aV T.b_len (yC c_runs hr (dv 0))))))
   (ag (bX (j:=3) Za rfl sc_check_train.nd rfl (by first|exact Or.inl rfl|exact Or.inr rfl) rfl (qW (A9 (nu (dv 1) kj (kl af))))
    (ak (bn (bz (eY iD iD af (dv 3) (dv 2))) (ak cL) aW)))
   (ag (bn (aD (xw hr.units) (ay (dv 1) af) (ay (dv 1) af) (bd _)) (ak cL) aW)
   (ag (az (i:=4) sc_check_train.nd rfl (by first|exact Or.inl rfl|exact Or.inr rfl) (aN (PN.of (ay (dv 1) af))))
   (ak (bn (bz (eY iD iD af (dv 4) (se T.mY))) (ak cL) aW)))))))
abbrev zj:Stmt:=top 13
abbrev xi:List Str:=["line","train","start","end"]
@[irreducible] def uC (K:Z8)(CL:Zz):DS→Out:=(ax (uQ (bq (pC (ab 0) (pC (ab 1) pN)) (cj K CL)))
  (ax (aQ 2 (ac (ab 1) (kI 0) aJ))
  (ax (aQ 3 (ac (ab 1) (kI 1) aJ))
  (ax (fL (ck (ac (ab 2) (ab 3) ym)) (bI (bq (pC (ab 2) (pC (ab 3) pN)) oZ)) nxt)
  (bI (bq (pC (ac (ab 2) (kI 1) lX) (pC (ac (ab 3) (kI 1) lX) (pC (nG (kI 1)) pN))) o_))))))
def rX (K:Z8)(CL:Zz):List D→Res D:=iR 2 xi (uC K CL)
def sc_way:FnScope xi ["line","train"] (ai zj):=ll
def xq (T:Txt K mg CL)(S:Sta K mg "way" zj ["line","train"])(fQ:Cal P w K mg base "check_train" 2 ["line","train"] (freshSp K 0 (cj K CL))):Cal P w K mg base "way" 3 ["line","train"] (freshSp K 0 (rX K CL)):=by
 refine S.cal (k:=2) (r:=0) (F:=uC K CL) sc_way [] (by decide) rfl λf cdv A outer s H E hr=>?_;unfold uC;exact(ag (vj (aI fQ hr (aa (dv 0) (aa (dv 1) ae))))
   (ag (az (i:=2) sc_way.nd rfl (by first|exact Or.inl rfl|exact Or.inr rfl) (aN (PN.of (ay (dv 1) af))))
   (ag (az (i:=3) sc_way.nd rfl (by first|exact Or.inl rfl|exact Or.inr rfl) (aN (PN.of (ay (dv 1) af))))
   (ag (bn (aD mJ (dv 2) (dv 3) (bd _)) (ak (aT (aN (PN.of (t9 rfl rfl T.b_list rfl T.b_range (aa (dv 2) (aa (dv 3) ae))))))) aW)
   (ak (aT (aN (PN.of (t_ rfl rfl T.b_list rfl T.b_range (aa (aq kQ (dv 2) af) (aa (aq kQ (dv 3) af) (aa (yD af) ae))))))))))))
abbrev qS:Stmt:=top 15
abbrev pP:List Str:=["line","trains"]
@[irreducible] def pO (K:Z8)(CL:Zz):DS→Out:=(ax (fL (fA (hG (kI 1) (c1 (ab 1) aY) (kI 5) s_ s_)) bad1 nxt)
  (bI (aR (sL (ab 1)) [none,some 0] (aP 0) yes (bq (pC (ab 1) (pC (ab 0) pN)) (rX K CL)))))
def k8 (K:Z8)(CL:Zz):List D→Res D:=iR 2 pP (pO K CL)
def By:FnScope pP ["line","trains"] (ai qS):=ll
def tu (T:Txt K mg CL)(S:Sta K mg "ways" qS ["line","trains"])(xq:Cal P w K mg base "way" 3 ["line","train"] (freshSp K 0 (rX K CL))):Cal P w K mg base "ways" 4 ["line","trains"] (freshSp K 0 (k8 K CL)):=by
 refine S.cal (k:=3) (r:=0) (F:=pO K CL) By [] (by decide) rfl λf cdv A outer s H E hr=>?_;unfold pO;exact(ag (bn (bz (eY iD iD af (aV T.b_len (dv 1)) (se T.mT))) (ak cL) aW)
   (ak (aT (aN (PN.of (PN.pd (bL (j:=0) rfl (a9 (N:=["train","line"]) (caps:=[none,some 0]) (ai qS) pP rfl rfl (by decide +kernel)) rfl rfl (by first|exact Or.inl rfl|exact Or.inr rfl) (bH (dv 1)) (λ_ _ _ _=>bu) (λ_ _ _ _=>(PN.of (aI xq hr (aa (dv 1) (aa (dv 0) ae)) dm))))))))))
abbrev dz:Stmt:=top 18
abbrev df:List Str:=["stretches","paths","orders","stretch","order","going"]
@[irreducible] def da (K:Z8)(CL:Zz):DS→Out:=(ax (fL (ck (ac (c1 (ab 2) aY) (ab 0) lK)) bad1 nxt)
  (cK (sE (pC (ab 2) pN)) (gW 3 4) (ax (aQ 5 (aR (sE (pC (ab 1) pN)) [none,none,some 3] (gW 0 1) (ck (ac (ab 2) (ab 1) (jn false))) (ab 0)))
  (fL (ck (ac (c1 (ab 4) lq) (ab 5) lK)) bad1 nxt))))
def b0 (K:Z8)(CL:Zz):List D→Res D:=iR 3 df (da K CL)
def sc_check_orders:FnScope df ["stretches","paths","orders"] (ai dz):=ll
def fg (T:Txt K mg CL)(S:Sta K mg "check_orders" dz ["stretches","paths","orders"]):Cal P w K mg base "check_orders" 1 ["stretches","paths","orders"] (freshSp K 0 (b0 K CL)):=by
 refine S.cal (k:=0) (r:=0) (F:=da K CL) sc_check_orders [] (by decide) rfl λf cdv A outer s H E hr=>?_;unfold da;exact(ag (bn (aD (gc hr.units) (aV T.b_len (dv 2)) (dv 0) (bd _)) (ak cL) aW)
   (ak (km (j:=3) (k:=4) Za rfl sc_check_orders.nd rfl rfl (by first|exact Or.inl rfl|exact Or.inr rfl) (by first|exact Or.inl rfl|exact Or.inr rfl) rfl rfl (qW (gC rfl T.b_enumerate (aa (dv 2) ae)))
    (ag (B8 (yW sc_check_orders.nd (i:=5) rfl rfl rfl (a9 (N:=["train","path","stretch"]) (caps:=[none,none,some 3]) (ai dz) df rfl rfl (by decide +kernel)) (j:=0) (l:=1) rfl rfl rfl rfl (by first|exact Or.inl rfl|exact Or.inr rfl) (by first|exact Or.inl rfl|exact Or.inr rfl) (gC rfl T.b_enumerate (aa (dv 1) ae)) (λ_ _ _ _=>gA (aD (xy hr.units) (dv 2) (dv 1) (by rfl))) (λ_ _ _ _=>(PN.of (dv 0)))) rfl)
   (ak (bn (aD (gc hr.units) (yS T.b_sorted (dv 4)) (dv 5) (bd _)) (ak cL) aW))))))
abbrev jR:Stmt:=top 17
abbrev jw:List Str:=["line","paths","orders","runs","gap","waits","train","path","stretch","ahead","behind","order"]
abbrev bf:List Nat:=[0,0,0,0,0,2,0,0,0,0,0,0]
@[irreducible] def gH (K:Z8)(CL:Zz):DS→Out:=(ax (aQ 3 (bS bf (lJ CL "runs" (ab 0) (j_ CL))))
  (ax (aQ 4 (bS bf (lJ CL "clear" (ab 0) (jM CL))))
  (ax (uQ (bq (pC (c1 (ab 3) aY) (pC (ab 1) (pC (ab 2) pN))) (b0 K CL)))
  (ax (aQ 5 (bS bf (λ_=>Res.ok (.dct [] []))))
  (ax (cK (we bf (sE (pC (ab 1) pN))) (gW 6 7) (ax (cK (we bf (sL (ab 7))) (aP 8) (fK 5 (cE (pC (ab 6) (pC (ab 8) pN))) (bS bf (dl pN))))
  (cK (we bf (sZ (pC (ab 7) (pC (zN (ab 7) (oI (kI 1)) oN) pN)))) (gW 9 10) (lU 5 1 (zV 5 0 (nY 5) (cE (pC (ab 6) (pC (ab 10) pN)))) (bS bf (cE (pC (cE (pC (ab 6) (pC (ab 9) pN))) (pC (ac (ab 3) (ab 9) aJ) pN))))))))
  (ax (cK (we bf (sE (pC (ab 2) pN))) (gW 8 11) (cK (we bf (sZ (pC (ab 11) (pC (zN (ab 11) (oI (kI 1)) oN) pN)))) (gW 9 10) (lU 5 1 (zV 5 0 (nY 5) (cE (pC (ab 10) (pC (ab 8) pN)))) (bS bf (cE (pC (cE (pC (ab 9) (pC (ab 8) pN))) (pC (ac (ac (ab 3) (ab 8) aJ) (ab 4) aO) pN)))))))
  (bI (ab 5))))))))
def fw (K:Z8)(CL:Zz):List D→Res D:=iR 3 jw (gH K CL)
def sc_waits_of:FnScope jw ["line","paths","orders"] (ai jR):=ll
def jD (T:Txt K mg CL)(S:Sta K mg "waits_of" jR ["line","paths","orders"])(fg:Cal P w K mg base "check_orders" 1 ["stretches","paths","orders"] (freshSp K 0 (b0 K CL)))(c_runs:CalM P w K mg base CL "runs" 1 (j_ CL))(c_clear:CalM P w K mg base CL "clear" 1 (jM CL)):Cal P w K mg base "waits_of" 2 ["line","paths","orders"] (freshSp K 2 (fw K CL)):=by
 refine S.cal (k:=1) (r:=2) (F:=gH K CL) sc_waits_of bf (by decide) rfl λf cdv A outer s H E hr=>?_;unfold gH;exact(ag (az (i:=3) sc_waits_of.nd rfl (by first|exact Or.inl rfl|exact Or.inr rfl) (au (PN.of (yC c_runs hr (dv 0)))))
   (ag (az (i:=4) sc_waits_of.nd rfl (by first|exact Or.inl rfl|exact Or.inr rfl) (au (PN.of (yC c_clear hr (dv 0)))))
   (ag (vj (aI fg hr (aa (aV T.b_len (dv 3)) (aa (dv 1) (aa (dv 2) ae)))))
   (ag (az (i:=5) sc_waits_of.nd rfl (by first|exact Or.inl rfl|exact Or.inr rfl) (au qK))
   (ag (km (j:=6) (k:=7) Za rfl sc_waits_of.nd rfl rfl (by first|exact Or.inl rfl|exact Or.inr rfl) (by first|exact Or.inl rfl|exact Or.inr rfl) rfl rfl (eV (gC rfl T.b_enumerate (aa (dv 1) ae)))
    (ag (bX (j:=8) Za rfl sc_waits_of.nd rfl (by first|exact Or.inl rfl|exact Or.inr rfl) rfl (eV (bH (dv 7)))
    (ak (me (j:=5) (n:=1) hr.units rfl rfl (by first|exact Or.inl rfl|exact Or.inr (Or.inl rfl)|exact Or.inr (Or.inr rfl)) (cF (aa (dv 6) (aa (dv 8) ae))) (au (jO ae)))))
   (ak (km (j:=9) (k:=10) Za rfl sc_waits_of.nd rfl rfl (by first|exact Or.inl rfl|exact Or.inr rfl) (by first|exact Or.inl rfl|exact Or.inr rfl) rfl rfl (eV (vf rfl T.b_zip (aa (dv 7) (aa (nu (dv 7) (kl af) kj) ae))))
    (ak (qJ (n:=1) (m:=0) rfl (BP (n:=0) (m:=1) hr.units rfl (kL (j:=5) rfl (by first|exact Or.inl rfl|exact Or.inr (Or.inl rfl)|exact Or.inr (Or.inr rfl))) (cF (aa (dv 6) (aa (dv 10) ae)))) (au (PN.of (cF (aa (cF (aa (dv 6) (aa (dv 9) ae))) (aa (ay (dv 3) (dv 9)) ae))))) (u8 (qB (ke (qB (ke dN (ke dN r_))) (ke (r9 dN dN qq) r_))))))))))
   (ag (km (j:=8) (k:=11) Za rfl sc_waits_of.nd rfl rfl (by first|exact Or.inl rfl|exact Or.inr rfl) (by first|exact Or.inl rfl|exact Or.inr rfl) rfl rfl (eV (gC rfl T.b_enumerate (aa (dv 2) ae)))
    (ak (km (j:=9) (k:=10) Za rfl sc_waits_of.nd rfl rfl (by first|exact Or.inl rfl|exact Or.inr rfl) (by first|exact Or.inl rfl|exact Or.inr rfl) rfl rfl (eV (vf rfl T.b_zip (aa (dv 11) (aa (nu (dv 11) (kl af) kj) ae))))
    (ak (qJ (n:=1) (m:=0) rfl (BP (n:=0) (m:=1) hr.units rfl (kL (j:=5) rfl (by first|exact Or.inl rfl|exact Or.inr (Or.inl rfl)|exact Or.inr (Or.inr rfl))) (cF (aa (dv 10) (aa (dv 8) ae)))) (au (PN.of (cF (aa (cF (aa (dv 9) (aa (dv 8) ae))) (aa (aq aA (ay (dv 3) (dv 8)) (dv 4)) ae))))) (u8 (qB (ke (qB (ke dN (ke dN r_))) (ke (r9 (r9 dN dN qq) dN zS) r_)))))))))
   (ak (jk (i:=5) rfl rfl (by first|exact Or.inl rfl|exact Or.inr (Or.inl rfl)|exact Or.inr (Or.inr rfl))))))))))
abbrev jl:Stmt:=top 21
abbrev jb:List Str:=["waits","turn","visit"]
@[irreducible] def i_ (K:Z8)(CL:Zz):DS→Out:=(bI (aR (sL (ac (ab 0) (ab 2) bm)) [none,some 1] (aP 0) (ck (ac (ac (ab 0) (kI 0) aJ) (ab 1) (jn true))) (ac (ab 0) (kI 0) aJ)))
def cD (K:Z8)(CL:Zz):List D→Res D:=iR 3 jb (i_ K CL)
def um:FnScope jb ["waits","turn","visit"] (ai jl):=ll
def gb (T:Txt K mg CL)(S:Sta K mg "held_by" jl ["waits","turn","visit"]):Cal P w K mg base "held_by" 1 ["waits","turn","visit"] (freshSp K 1 (cD K CL)):=by
 refine S.cal (k:=0) (r:=1) (F:=i_ K CL) um [] (by decide) rfl λf cdv A outer s H E hr=>?_;unfold i_;exact(ak (aT (aN (bL (j:=0) rfl (a9 (N:=["wait","turn"]) (caps:=[none,some 1]) (ai jl) jb rfl rfl (by decide +kernel)) rfl rfl (by first|exact Or.inl rfl|exact Or.inr rfl) (bH (ij hr.units (dv 0) (dv 2))) (λ_ _ _ _=>gA (aD (gi hr.units) (ay (dv 0) af) (dv 1) (by rfl))) (λ_ _ _ _=>(PN.of (ay (dv 0) af)))))))
abbrev mj:Stmt:=top 20
abbrev lZ:List Str:=["waits","turn"]
@[irreducible] def lY (K:Z8)(CL:Zz):DS→Out:=(bI (aR (sD (ab 0)) [none,some 1,some 0] (aP 0) (zT (ck (ac (ab 0) (ab 1) (jn true))) (fA (tR (bq (pC (ab 2) (pC (ab 1) (pC (ab 0) pN))) (cD K CL))))) (ab 0)))
def fM (K:Z8)(CL:Zz):List D→Res D:=iR 2 lZ (lY K CL)
def zl:FnScope lZ ["waits","turn"] (ai mj):=ll
def l0 (T:Txt K mg CL)(S:Sta K mg "freed" mj ["waits","turn"])(gb:Cal P w K mg base "held_by" 1 ["waits","turn","visit"] (freshSp K 1 (cD K CL))):Cal P w K mg base "freed" 2 ["waits","turn"] (freshSp K 1 (fM K CL)):=by
 refine S.cal (k:=1) (r:=1) (F:=lY K CL) zl [] (by decide) rfl λf cdv A outer s H E hr=>?_;unfold lY;exact(ak (aT (aN (bL (j:=0) rfl (a9 (N:=["visit","turn","waits"]) (caps:=[none,some 1,some 0]) (ai mj) lZ rfl rfl (by decide +kernel)) rfl rfl (by first|exact Or.inl rfl|exact Or.inr rfl) (sk (dv 0)) (λ_ _ _ _=>gA (PDW.pt (A5 (aD (gi hr.units) (dv 0) (dv 1) (by rfl)) (yH (bz (vb (aI gb hr (aa (dv 2) (aa (dv 1) (aa (dv 0) ae))) dm))))))) (λ_ _ _ _=>(PN.of (dv 0)))))))
abbrev lj:Stmt:=top 19
abbrev kJ:List Str:=["waits","turn","free"]
abbrev fx:List Nat:=[0,1,0]
@[irreducible] def ja (K:Z8)(CL:Zz):DS→Out:=(ax (aQ 1 (bS fx (dl pN)))
  (ax (aQ 2 (jS 1 (bq (pC (ab 0) (pC (ab 1) pN)) (fM K CL))))
  (ax (b8 (tR (ab 2)) (ax (qj 1 0 (nY 1) (bS fx (ab 2)))
  (aQ 2 (jS 1 (bq (pC (ab 0) (pC (ab 1) pN)) (fM K CL))))) 40)
  (bI (ab 1)))))
def gs (K:Z8)(CL:Zz):List D→Res D:=iR 1 kJ (ja K CL)
def sc_in_turn:FnScope kJ ["waits"] (ai lj):=ll
def kM (T:Txt K mg CL)(S:Sta K mg "in_turn" lj ["waits"])(l0:Cal P w K mg base "freed" 2 ["waits","turn"] (freshSp K 1 (fM K CL))):Cal P w K mg base "in_turn" 3 ["waits"] (freshSp K 1 (gs K CL)):=by
 refine S.cal (k:=2) (r:=1) (F:=ja K CL) sc_in_turn fx (by decide) rfl λf cdv A outer s H E hr=>?_;unfold ja;exact(ag (az (i:=1) sc_in_turn.nd rfl (by first|exact Or.inl rfl|exact Or.inr rfl) (au (jO ae)))
   (ag (az (i:=2) sc_in_turn.nd rfl (by first|exact Or.inl rfl|exact Or.inr rfl) (PZ.zero (dY (ko (n:=1) l0 hr (aa (dv 0) (aa (dv 1) ae))))))
   (ag (nA 40 Za (vb (dv 2)) (ag (Bd (n:=0) rfl (kL (j:=1) rfl (by first|exact Or.inl rfl|exact Or.inr (Or.inl rfl)|exact Or.inr (Or.inr rfl))) (au (PN.of (dv 2))) (u8 dN))
   (ak (az (i:=2) sc_in_turn.nd rfl (by first|exact Or.inl rfl|exact Or.inr rfl) (PZ.zero (dY (ko (n:=1) l0 hr (aa (dv 0) (aa (dv 1) ae)))))))))
   (ak (jk (i:=1) rfl rfl (by first|exact Or.inl rfl|exact Or.inr (Or.inl rfl)|exact Or.inr (Or.inr rfl)))))))
abbrev jm:Stmt:=top 22
abbrev kK:List Str:=["waits","turn","visit","walked"]
abbrev ce:List Nat:=[0,0,0,1]
@[irreducible] def f9 (K:Z8)(CL:Zz):DS→Out:=(ax (aQ 2 (bS ce (ac (aR (sD (ab 0)) [none,some 1] (aP 0) (ck (ac (ab 0) (ab 1) (jn true))) (ab 0)) (kI 0) aJ)))
  (ax (aQ 3 (bS ce (dl pN)))
  (ax (b8 (ck (ac (ab 2) (ab 3) (jn true))) (ax (jz 3 (bS ce (ab 2)))
  (aQ 2 (bS ce (ac (bq (pC (ab 0) (pC (ab 1) (pC (ab 2) pN))) (cD K CL)) (kI 0) aJ)))) 41)
  (bI (jS 1 (Gg (ab 3) (oI (ac (ab 3) (ab 2) jH)) oN))))))
def gw (K:Z8)(CL:Zz):List D→Res D:=iR 2 kK (f9 K CL)
def sc_ring_of:FnScope kK ["waits","turn"] (ai jm):=ll
def kO (T:Txt K mg CL)(S:Sta K mg "ring_of" jm ["waits","turn"])(gb:Cal P w K mg base "held_by" 1 ["waits","turn","visit"] (freshSp K 1 (cD K CL))):Cal P w K mg base "ring_of" 2 ["waits","turn"] (freshSp K 1 (gw K CL)):=by
 refine S.cal (k:=1) (r:=1) (F:=f9 K CL) sc_ring_of ce (by decide) rfl λf cdv A outer s H E hr=>?_;unfold f9;exact(ag (az (i:=2) sc_ring_of.nd rfl (by first|exact Or.inl rfl|exact Or.inr rfl) (au (PN.of (ay (PN.pd (bL (j:=0) rfl (a9 (N:=["stuck","turn"]) (caps:=[none,some 1]) (ai jm) kK rfl rfl (by decide +kernel)) rfl rfl (by first|exact Or.inl rfl|exact Or.inr rfl) (sk (dv 0)) (λ_ _ _ _=>gA (aD (gi hr.units) (dv 0) (dv 1) (by rfl))) (λ_ _ _ _=>(PN.of (dv 0))))) af))))
   (ag (az (i:=3) sc_ring_of.nd rfl (by first|exact Or.inl rfl|exact Or.inr rfl) (au (jO ae)))
   (ag (nA 41 Za (aD (gi hr.units) (dv 2) (dv 3) (by rfl)) (ag (jj (j:=3) (n:=0) rfl rfl (by first|exact Or.inl rfl|exact Or.inr (Or.inl rfl)|exact Or.inr (Or.inr rfl)) (au (PN.of (dv 2))))
   (ak (az (i:=2) sc_ring_of.nd rfl (by first|exact Or.inl rfl|exact Or.inr rfl) (au (PN.of (ay (aI gb hr (aa (dv 0) (aa (dv 1) (aa (dv 2) ae)))) af)))))))
   (ak (aT (dY (yR (dv 3) (kl (nq hr.units (dv 3) (dv 2) dN)) kj)))))))
abbrev dA:Stmt:=top 25
abbrev dg:List Str:=["trains","waits","turn","enters","visit","ready"]
abbrev cO:List Nat:=[0,0,0,1,0,0]
@[irreducible] def dc (K:Z8)(CL:Zz):DS→Out:=(ax (aQ 3 (bS cO (λ_=>Res.ok (.dct [] []))))
  (ax (cK (we cO (sL (ab 2))) (aP 4) (ax (aQ 5 (bS cO (ac (ac (ab 0) (ac (ab 4) (kI 0) aJ) aJ) (kI 2) aJ)))
  (fK 3 (ab 4) (jS 0 (c1 (ac (dl (pC (ab 5) pN)) (aR (sL (ac (ab 1) (ab 4) bm)) [none,some 3] (aP 0) yes (ac (ac (ab 1) (ac (ab 0) (kI 0) aJ) bm) (ac (ab 0) (kI 1) aJ) aO)) aO) qz)))))
  (bI (ab 3))))
def cy (K:Z8)(CL:Zz):List D→Res D:=iR 3 dg (dc K CL)
def sc_least_enters:FnScope dg ["trains","waits","turn"] (ai dA):=ll
def fj (T:Txt K mg CL)(S:Sta K mg "least_enters" dA ["trains","waits","turn"]):Cal P w K mg base "least_enters" 1 ["trains","waits","turn"] (freshSp K 1 (cy K CL)):=by
 refine S.cal (k:=0) (r:=1) (F:=dc K CL) sc_least_enters cO (by decide) rfl λf cdv A outer s H E hr=>?_;unfold dc;exact(ag (az (i:=3) sc_least_enters.nd rfl (by first|exact Or.inl rfl|exact Or.inr rfl) (au qK))
   (ag (bX (j:=4) Za rfl sc_least_enters.nd rfl (by first|exact Or.inl rfl|exact Or.inr rfl) rfl (eV (bH (dv 2)))
    (ag (az (i:=5) sc_least_enters.nd rfl (by first|exact Or.inl rfl|exact Or.inr rfl) (au (PN.of (ay (ay (dv 0) (ay (dv 4) af)) af))))
   (ak (me (j:=3) (n:=0) hr.units rfl rfl (by first|exact Or.inl rfl|exact Or.inr (Or.inl rfl)|exact Or.inr (Or.inr rfl)) (dv 4) (dY (PN.of (A4 T.b_max (aq aA (lg (aa (dv 5) ae)) (PN.pd (bL (j:=0) rfl (a9 (N:=["wait","enters"]) (caps:=[none,some 3]) (ai dA) dg rfl rfl (by decide +kernel)) rfl rfl (by first|exact Or.inl rfl|exact Or.inr rfl) (bH (ij hr.units (dv 1) (dv 4))) (λ_ _ _ _=>bu) (λ_ _ _ _=>(PN.of (aq aA (ij hr.units (dv 1) (ay (dv 0) af)) (ay (dv 0) af))))))))))))))
   (ak (jk (i:=3) rfl rfl (by first|exact Or.inl rfl|exact Or.inr (Or.inl rfl)|exact Or.inr (Or.inr rfl))))))
abbrev kz:Stmt:=top 27
abbrev jU:List Str:=["train","path","enters"]
@[irreducible] def jT (K:Z8)(CL:Zz):DS→Out:=(bI (aR (sL (ab 1)) [none,some 2,some 0] (aP 0) yes (ac (ab 1) (cE (pC (ab 2) (pC (ab 0) pN))) bm)))
def gy (K:Z8)(CL:Zz):List D→Res D:=iR 3 jU (jT K CL)
def wR:FnScope jU ["train","path","enters"] (ai kz):=ll
def mz (T:Txt K mg CL)(S:Sta K mg "row_of" kz ["train","path","enters"]):Cal P w K mg base "row_of" 1 ["train","path","enters"] (freshSp K 1 (gy K CL)):=by
 refine S.cal (k:=0) (r:=1) (F:=jT K CL) wR [] (by decide) rfl λf cdv A outer s H E hr=>?_;unfold jT;exact(ak (aT (aN (bL (j:=0) rfl (a9 (N:=["stretch","enters","train"]) (caps:=[none,some 2,some 0]) (ai kz) jU rfl rfl (by decide +kernel)) rfl rfl (by first|exact Or.inl rfl|exact Or.inr rfl) (bH (dv 1)) (λ_ _ _ _=>bu) (λ_ _ _ _=>(PN.of (ij hr.units (dv 1) (cF (aa (dv 2) (aa (dv 0) ae))))))))))
abbrev iz:Stmt:=top 26
abbrev gN:List Str:=["paths","enters"]
@[irreducible] def gG (K:Z8)(CL:Zz):DS→Out:=(bI (aR (sE (pC (ab 0) pN)) [none,none,some 1] (gW 0 1) yes (bq (pC (ab 0) (pC (ab 1) (pC (ab 2) pN))) (gy K CL))))
def fv (K:Z8)(CL:Zz):List D→Res D:=iR 2 gN (gG K CL)
def sH:FnScope gN ["paths","enters"] (ai iz):=ll
def jC (T:Txt K mg CL)(S:Sta K mg "table_of" iz ["paths","enters"])(mz:Cal P w K mg base "row_of" 1 ["train","path","enters"] (freshSp K 1 (gy K CL))):Cal P w K mg base "table_of" 2 ["paths","enters"] (freshSp K 2 (fv K CL)):=by
 refine S.cal (k:=1) (r:=2) (F:=gG K CL) sH [] (by decide) rfl λf cdv A outer s H E hr=>?_;unfold gG;exact(ak (aT (aN (sr (j:=0) (l:=1) rfl (a9 (N:=["train","path","enters"]) (caps:=[none,none,some 1]) (ai iz) gN rfl rfl (by decide +kernel)) rfl rfl rfl rfl (by first|exact Or.inl rfl|exact Or.inr rfl) (by first|exact Or.inl rfl|exact Or.inr rfl) (gC rfl T.b_enumerate (aa (dv 0) ae)) (λ_ _ _ _=>bu) (λ_ _ _ _=>(ko (n:=1) mz hr (aa (dv 0) (aa (dv 1) (aa (dv 2) ae))) dm))))))
abbrev f7:Stmt:=top 24
abbrev fP:List Str:=["line","trains","orders","paths","waits","turn"]
@[irreducible] def cI (K:Z8)(CL:Zz):DS→Out:=(ax (aQ 3 (bq (pC (ab 0) (pC (ab 1) pN)) (k8 K CL)))
  (ax (aQ 4 (FD (bq (pC (ab 0) (pC (ab 3) (pC (ab 2) pN))) (fw K CL))))
  (ax (aQ 5 (bq (pC (ab 4) pN) (gs K CL)))
  (ax (fL (ck (ac (c1 (ab 5) aY) (c1 (ab 4) qy) ym)) (bI (jS 2 (cE (pC (jS 0 (kS (Str.ofString "ring"))) (pC (bq (pC (ab 4) (pC (ab 5) pN)) (gw K CL)) pN))))) nxt)
  (bI (cE (pC (jS 1 (jS 0 (kS (Str.ofString "table")))) (pC (bq (pC (ab 3) (pC (FD (bq (pC (ab 1) (pC (ab 4) (pC (ab 5) pN))) (cy K CL))) pN)) (fv K CL)) pN))))))))
def bi (K:Z8)(CL:Zz):List D→Res D:=iR 3 fP (cI K CL)
def sc_least_table:FnScope fP ["line","trains","orders"] (ai f7):=ll
def fR (T:Txt K mg CL)(S:Sta K mg "least_table" f7 ["line","trains","orders"])(kM:Cal P w K mg base "in_turn" 3 ["waits"] (freshSp K 1 (gs K CL)))(fj:Cal P w K mg base "least_enters" 1 ["trains","waits","turn"] (freshSp K 1 (cy K CL)))(kO:Cal P w K mg base "ring_of" 2 ["waits","turn"] (freshSp K 1 (gw K CL)))(jC:Cal P w K mg base "table_of" 2 ["paths","enters"] (freshSp K 2 (fv K CL)))(jD:Cal P w K mg base "waits_of" 2 ["line","paths","orders"] (freshSp K 2 (fw K CL)))(tu:Cal P w K mg base "ways" 4 ["line","trains"] (freshSp K 0 (k8 K CL))):Cal P w K mg base "least_table" 5 ["line","trains","orders"] (freshSp K 3 (bi K CL)):=by
 refine S.cal (k:=4) (r:=3) (F:=cI K CL) sc_least_table [] (by decide) rfl λf cdv A outer s H E hr=>?_;unfold cI;exact(ag (az (i:=3) sc_least_table.nd rfl (by first|exact Or.inl rfl|exact Or.inr rfl) (aN (PN.of (aI tu hr (aa (dv 0) (aa (dv 1) ae))))))
   (ag (az (i:=4) sc_least_table.nd rfl (by first|exact Or.inl rfl|exact Or.inr rfl) (aN (PN.of (PN.pdF (ko (n:=2) jD hr (aa (dv 0) (aa (dv 3) (aa (dv 2) ae))))))))
   (ag (az (i:=5) sc_least_table.nd rfl (by first|exact Or.inl rfl|exact Or.inr rfl) (aN (PN.of (aI kM hr (aa (dv 4) ae)))))
   (ag (bn (aD mJ (aV T.b_len (dv 5)) (u_ T.b_len (dv 4)) (bd _)) (ak (aT (aN (PN.up (vn (n:=0) (kr (PN.up (PN.of qF)) (kr (ko (n:=1) kO hr (aa (dv 4) (aa (dv 5) ae))) qL))))))) aW)
   (ak (aT (aN (vn (n:=1) (kr (PN.up (PN.up (PN.of qF))) (kr (ko (n:=2) jC hr (aa (dv 3) (aa (PN.pdF (ko (n:=1) fj hr (aa (dv 1) (aa (dv 4) (aa (dv 5) ae))))) ae))) qL))))))))))
abbrev ky:Stmt:=top 41
abbrev qZ:List Str:=["script","made","trains","orders","due","handed","runs","line","lap","found","row"]
abbrev cz:List Nat:=[0,0,0,0,0,0,1,0,0,3,0]
@[irreducible] def uB (K:Z8)(CL:Zz):DS→Out:=(ax (aQ 1 (bS cz (bq (pC (ab 0) (pC (kI 0) pN)) (cx K CL))))
  (ax (aQ 2 (bS cz (bq (pC (ab 0) (pC (kI 20) (pC (c1 (ac (ab 1) (kI 0) aJ) aY) (pC (kI 5) pN)))) (bE K CL))))
  (ax (aQ 3 (bS cz (bq (pC (ab 0) (pC (kI 100) (pC (ac (ab 1) (kI 0) aJ) (pC (ac (ab 1) (kI 1) aJ) (pC (ab 2) pN))))) (a_ K CL))))
  (ax (aQ 4 (bS cz (bq (pC (ac (ab 1) (kI 0) aJ) (pC (ac (ab 1) (kI 1) aJ) (pC (ab 2) (pC (ab 3) pN)))) (bQ K CL))))
  (ax (aQ 5 (bS cz (dl (pC (c1 (ab 2) cq) (pC (aR (sL (ab 3)) [none] (aP 0) yes (c1 (ab 0) cq)) pN)))))
  (ax (aQ 6 (bS cz (bq (ye (ac (ab 1) (kI 0) aJ)) cq)))
  (ax (aQ 7 (jS 0 (bq (pC (ab 6) (pC (ac (ab 1) (kI 1) aJ) pN)) (js K CL))))
  (ax (uo 6 (kI 0) (jS 0 (ac (ac (ac (ab 6) (kI 0) aJ) (kI 20) la) (kI 1) aO)))
  (ax (ui 6 0 (nY 6))
  (ax (cK (sR1 (pC (kI 2) pN)) (aP 8) (ax (aQ 9 (bS cz (bq (pC (ab 7) (pC (ac (ab 5) (kI 0) aJ) (pC (ac (ab 5) (kI 1) aJ) pN))) (bi K CL))))
  (ax (fL (tf (ck (ac (ab 5) (dl (pC (ab 2) (pC (ab 3) pN))) lK)) (tf (fA (ck (λρ=>((ab 9) ρ).bind (fV K (cV (.ty "tuple")))))) (ck (ac (c1 (ab 9) aY) (kI 2) lK)))) (bI (bS cz (kB false))) nxt)
  (ax (fL (ck (ac (ab 4) kN C9)) (fL (tf (ck (ac (ac (ab 9) (kI 0) aJ) (kS (Str.ofString "ring")) lK)) (fA (ck (bq (pC (ac (ab 9) (kI 1) aJ) (pC (ab 2) (pC (ab 3) pN))) (cw K CL))))) (bI (bS cz (kB false))) nxt) (ax (fL (tf (ck (ac (ac (ab 9) (kI 0) aJ) (kS (Str.ofString "table")) lK)) (fA (ck (bq (pC (ac (ab 9) (kI 1) aJ) (pC (ab 4) pN)) (d6 K CL))))) (bI (bS cz (kB false))) nxt)
  (ax (iU 9 10 1 9 (pS 9 0 (nY 9) (kI 1)))
  (fL (ck (ac (ac (ab 9) (kI 1) aJ) (aR (sL (ab 4)) [none] (aP 0) yes (ac (ab 0) (dl (pC (kI 9) pN)) aO)) lK)) (bI (bS cz (kB false))) nxt))))
  (lU 9 1 (pS 9 0 (nY 9) (kI 1)) (bS cz (dl (pC (kI 9) pN))))))))
  (bI (bS cz (kB true)))))))))))))
def yp (K:Z8)(CL:Zz):List D→Res D:=iR 1 qZ (uB K CL)
def sc_law:FnScope qZ ["script"] (ai ky):=ll
def Ex {fd:Y9}(T:Txt K mg CL)(Fn:Fun K "law" "law" ky f fd)(e_:Cal P w K mg base "_law_is_ring" 3 ["found","trains","orders"] (freshSp K 0 (cw K CL)))(gY:Cal P w K mg base "_law_least" 3 ["runs","gap","trains","orders"] (freshSp K 2 (bQ K CL)))(ff:Cal P w K mg base "_law_line_by" 2 ["script","base"] (freshSp K 0 (cx K CL)))(dF:Cal P w K mg base "_law_orders_by" 3 ["script","base","runs","gap","trains"] (freshSp K 2 (a_ K CL)))(iK:Cal P w K mg base "_law_rows" 3 ["found","due"] (freshSp K 0 (d6 K CL)))(dG:Cal P w K mg base "_law_trains_by" 2 ["script","base","stretches","most"] (freshSp K 1 (bE K CL)))(fR:Cal P w K mg base "least_table" 5 ["line","trains","orders"] (freshSp K 3 (bi K CL)))(c_Line:CalI P w K mg base "Line" CL 2 ["self","runs","clear"] (js K CL)):FnOk P w K mg base (CXF P w) 6 f fd ["script"] (freshSp K 0 (yp K CL)):=by
 refine Fn.freshM (k:=5) (r:=0) (F:=uB K CL) sc_law cz (by decide) rfl λcdv A outer s H E p=>?_;unfold uB;exact(ag (az (i:=1) sc_law.nd rfl (by first|exact Or.inl rfl|exact Or.inr rfl) (au (PN.of (aI ff p (aa (dv 0) (aa af ae))))))
   (ag (az (i:=2) sc_law.nd rfl (by first|exact Or.inl rfl|exact Or.inr rfl) (au (PN.of (aI dG p (aa (dv 0) (aa af (aa (aV T.b_len (ay (dv 1) af)) (aa af ae))))))))
   (ag (az (i:=3) sc_law.nd rfl (by first|exact Or.inl rfl|exact Or.inr rfl) (au (PN.of (aI dF p (aa (dv 0) (aa af (aa (ay (dv 1) af) (aa (ay (dv 1) af) (aa (dv 2) ae)))))))))
   (ag (az (i:=4) sc_law.nd rfl (by first|exact Or.inl rfl|exact Or.inr rfl) (au (PN.of (aI gY p (aa (ay (dv 1) af) (aa (ay (dv 1) af) (aa (dv 2) (aa (dv 3) ae))))))))
   (ag (az (i:=5) sc_law.nd rfl (by first|exact Or.inl rfl|exact Or.inr rfl) (au (PN.of (lg (aa (va T.b_list (dv 2)) (aa (PN.pd (bL (j:=0) rfl (a9 (N:=["row"]) (caps:=[none]) (ai ky) qZ rfl rfl (by decide +kernel)) rfl rfl (by first|exact Or.inl rfl|exact Or.inr rfl) (bH (dv 3)) (λ_ _ _ _=>bu) (λ_ _ _ _=>(PN.of (va T.b_list (dv 0)))))) ae))))))
   (ag (az (i:=6) sc_law.nd rfl (by first|exact Or.inl rfl|exact Or.inr rfl) (au (vm (ay (dv 1) af) rfl T.b_list)))
   (ag (az (i:=7) sc_law.nd rfl (by first|exact Or.inl rfl|exact Or.inr rfl) (dY (PN.of (Fh c_Line p (aa (dv 6) (aa (ay (dv 1) af) ae))))))
   (ag (Bg (j:=6) (n:=0) rfl rfl (by first|exact Or.inl rfl|exact Or.inr (Or.inl rfl)|exact Or.inr (Or.inr rfl)) af (dY (PN.of (aq aA (aq iM (ay (dv 6) af) af) af))))
   (ag (Be (n:=0) rfl (kL (j:=6) rfl (by first|exact Or.inl rfl|exact Or.inr (Or.inl rfl)|exact Or.inr (Or.inr rfl))))
   (ag (bX (j:=8) Za rfl sc_law.nd rfl (by first|exact Or.inl rfl|exact Or.inr rfl) rfl (cX rfl T.b_range (aa af ae))
    (ag (az (i:=9) sc_law.nd rfl (by first|exact Or.inl rfl|exact Or.inr rfl) (au (ko (n:=3) fR p (aa (dv 7) (aa (ay (dv 5) af) (aa (ay (dv 5) af) ae))))))
   (ag (bn (PDW.pt (dn (aD (gc p.units) (dv 5) (lg (aa (dv 2) (aa (dv 3) ae))) (bd _)) (dn (bz (cP (nr T.b_isinstance (dv 9) (si T.b_tuple my)))) (eP (aD (gc p.units) (aV T.b_len (dv 9)) af (bd _)))))) (ak (aT (au (PN.of dC)))) aW)
   (ag (bn (aD Cv (dv 4) yE (bd _)) (ak (bn (PDW.pt (dn (aD (gc p.units) (ay (dv 9) af) qF (bd _)) (eP (bz (cP (aI e_ p (aa (ay (dv 9) af) (aa (dv 2) (aa (dv 3) ae))))))))) (ak (aT (au (PN.of dC)))) aW)) (ag (bn (PDW.pt (dn (aD (gc p.units) (ay (dv 9) af) qF (bd _)) (eP (bz (cP (aI iK p (aa (ay (dv 9) af) (aa (dv 4) ae)))))))) (ak (aT (au (PN.of dC)))) aW)
   (ag (wK (j:=9) (n:=1) (m:=0) (jr:=10) Za rfl rfl (by decide) sc_law.nd rfl (by first|exact Or.inl rfl|exact Or.inr rfl) (by first|exact Or.inl rfl|exact Or.inr (Or.inl rfl)|exact Or.inr (Or.inr rfl)) (BQ (n:=0) (m:=2) rfl (kL (j:=9) rfl (by first|exact Or.inl rfl|exact Or.inr (Or.inl rfl)|exact Or.inr (Or.inr rfl))) af))
   (ak (bn (aD (gc p.units) (ay (dv 9) af) (PN.pd (bL (j:=0) rfl (a9 (N:=["row"]) (caps:=[none]) (ai ky) qZ rfl rfl (by decide +kernel)) rfl rfl (by first|exact Or.inl rfl|exact Or.inr rfl) (bH (dv 4)) (λ_ _ _ _=>bu) (λ_ _ _ _=>(PN.of (aq aA (dv 0) (lg (aa af ae))))))) (bd _)) (ak (aT (au (PN.of dC)))) aW)))))
   (ak (qJ (n:=1) (m:=1) rfl (BQ (n:=0) (m:=2) rfl (kL (j:=9) rfl (by first|exact Or.inl rfl|exact Or.inr (Or.inl rfl)|exact Or.inr (Or.inr rfl))) af) (au (jO (aa af ae))) (u8 (Dw (ke Dv r_)))))))))
   (ak (aT (au (PN.of dC))))))))))))))
end
end K04
set_option maxHeartbeats 1000000
namespace K04
open PySem L2
section
variable{K:Z8}{CL:Addr}
def cJ {ns:Z2}{k many:Int}(h0:0≤k)(h1:k<100000)(h2:0<many)(h3:many<100000):ar K CL [.scr ns,.int k,.int many]= .ok (.int (drawn ns k many)):=by
 unfold ar;refine(bO rfl).trans ?_;have e0:aH gI [D.scr ns,.int k,.int many]=[some (.scr ns),some (.int k),some (.int many),none,none]:=rfl;rw[e0];unfold eC;have st1:= @BF ns k;by_cases hz:ns.length=0
 ·have hd:decide (0<(ns.length:Int))=false:=Zh (by omega);have hc7:cellOf ns k=7:=Yj hz;have e1:(7*48271+(k+1)*7919+(ns.length:Int)) % 2147483647=nO ns k:=by unfold nO;rw[hc7]
  simp (disch:=omega) only[aM,qg,hd,j0,mO,uL,e1];rfl
 ·have hd:decide (0<(ns.length:Int))=true:=Zk (by omega);have hix:=z_ (k:=k) hz;have e1:(cellOf ns k*48271+(k+1)*7919+(ns.length:Int)) % 2147483647=nO ns k:=rfl;simp (disch:=omega) only[aM,qg,hd,j0,mO,uL,CO hix,e1];rfl
def Fj {k:Int}(h:0≤k∧k<2):∃v:Int,(v=4∨v=20)∧aJ (.lst [.int 4,.int 20]) (.int k)= .ok (.int v):=by
 rcases (show k=0∨k=1 by omega) with rfl|rfl
 ·exact⟨4,.inl rfl,uM⟩
 ·exact⟨20,.inr rfl,uN⟩
def Fk {k:Int}(h:0≤k∧k<3):∃v:Int,1≤v∧v≤61∧aJ (.lst [.int 1,.int 9,.int 61]) (.int k)= .ok (.int v):=by
 rcases (show k=0∨k=1∨k=2 by omega) with rfl|rfl|rfl
 ·exact⟨1,by omega,by omega,uM⟩
 ·exact⟨9,by omega,by omega,uN⟩
 ·exact⟨61,by omega,by omega,qf (jA (by decide) rfl)⟩
structure GoodLine (rs:Z2)(g:Int):Prop where
 one:1≤rs.length
 few:rs.length≤5
 run:∀r∈rs,1≤r∧r≤20
 gap:0≤g∧g≤5
def wy {ns:Z2}{base:Int}(h0:0≤base)(h1:base<1000):∃rs g,GoodLine rs g∧cx K CL [.scr ns,.int base]= .ok (.tup [.lst (rs.map D.int),.int g]):=by
 have b1:=eN (ns:=ns) (k:=base) (many:=5) (by omega);obtain⟨m,em⟩:∃m:Nat,1+drawn ns base 5=(m:Int):=⟨(1+drawn ns base 5).toNat,by omega⟩;obtain⟨v,hv,ev⟩:=Fj (eN (ns:=ns) (k:=base+1) (many:=2) (by omega));refine⟨(List.range m).map λ(i:Nat)=>1+drawn ns (base+2+(i:Int)) v,drawn ns (base+8) 6,⟨by rw[length_map,length_range];omega,by rw[length_map,length_range];omega,λr hr=>?_,?_⟩,?_⟩
 ·obtain⟨i,_,rfl⟩:=mem_map.mp hr;have:=eN (ns:=ns) (k:=base+2+(i:Int)) (many:=v) (by omega);omega
 ·have:=eN (ns:=ns) (k:=base+8) (many:=6) (by omega);omega
 ·unfold cx;refine(bO rfl).trans ?_;have e0:aH de [D.scr ns,.int base]=[some (.scr ns),some (.int base),none,none]:=rfl;rw[e0];unfold c_;have d1:=cJ (K:=K) (CL:=CL) (ns:=ns) (k:=base) (many:=5) (by omega) (by omega) (by omega) (by omega);have d2:=cJ (K:=K) (CL:=CL) (ns:=ns) (k:=base+1) (many:=2) (by omega) (by omega) (by omega) (by omega);have d3:=cJ (K:=K) (CL:=CL) (ns:=ns) (k:=base+8) (many:=6) (by omega) (by omega) (by omega) (by omega);simp only[aM,d1,em];rw[br (xs:=List.range m) (c:=λ(i:Nat)=>D.int (i:Int)) (g:=λ(i:Nat)=>D.int (1+drawn ns (base+2+(i:Int)) v)) (by simp only[aM,cm (show m<1000000 by omega)]) (by rw[length_range];omega) (λi hi=>⟨_,rfl,?_⟩)]
  ·simp only[aM,d3,map_map];rfl
  ·have hi:=mem_range.mp hi;have d4:=cJ (K:=K) (CL:=CL) (ns:=ns) (k:=base+2+(i:Int)) (many:=v) (by omega) (by omega) (by omega) (by omega);have ec:d9 [none,some 0,some 1] [some (D.scr ns),some (D.int base),some (D.int (m:Int)),none]=[none,some (.scr ns),some (.int base)]:=rfl;rw[ec];simp only[aM,d2,ev,d4]
end
set_option maxHeartbeats 1000000
section
variable{K:Z8}{CL:Addr}
abbrev Tr:=Nat×Nat×Int
def bj (t:Tr):D:=.tup [.int t.1,.int t.2.1,.int t.2.2]
structure Good (n:Nat)(t:Tr):Prop where
 a:t.1≤n
 b:t.2.1≤n
 ne:t.1≠t.2.1
 r:0≤t.2.2∧t.2.2≤60
def aK (t:Tr):List Nat:=if t.1<t.2.1 then (List.range (t.2.1-t.1)).map (t.1 + ·) else ((List.range (t.1-t.2.1)).map (t.2.1 + ·)).reverse
def am (l:Z0):List D:=l.map λ(i:Nat)=>D.int (i:Int)
def iB {n:Nat}{t:Tr}(g:Good n t):∀s∈aK t,s<n:=by
 intro s hs;have:=g.a;have:=g.b;unfold aK at hs;split at hs
 ·obtain⟨i,hi,rfl⟩:=mem_map.mp hs;have:=mem_range.mp hi;omega
 ·obtain⟨i,hi,rfl⟩:=mem_map.mp (List.mem_reverse.mp hs);have:=mem_range.mp hi;omega
def fH {t:Tr}:(aK t).Nodup:=by
 have go:∀a n:Nat,((List.range n).map (a + ·)).Nodup:=λa n=>by
  refine List.Pairwise.map _ (λx y h=>?_) (nodup_range (n:=n));intro z;exact h (by omega)
 unfold aK;split
 ·exact go _ _
 ·exact(List.pairwise_reverse.mpr ((go _ _).imp λh z=>h z.symm))
def dB {n:Nat}{t:Tr}(g:Good n t):(aK t).length≤n:=by
 have:=g.a;have:=g.b;unfold aK;split
 ·rw[length_map,length_range];omega
 ·rw[length_reverse,length_map,length_range];omega
def kx {a b:Nat}:nJ (a:Int) ((b:Int)-(a:Int)).toNat=am ((List.range (b-a)).map (a + ·)):=by
 unfold nJ am;have e:((b:Int)-(a:Int)).toNat=b-a:=by omega
 rw[e,map_map];refine map_congr_left λi _=>?_;show D.int ((a:Int)+(i:Int))=D.int (((a+i:Nat)):Int);congr 1
def sC {a b:Nat}(h:b<a):qQ ((a:Int)-1) (((a:Int)-1)-((b:Int)-1)).toNat=am ((List.range (a-b)).map (b + ·)).reverse:=by
 have e:(((a:Int)-1)-((b:Int)-1)).toNat=a-b:=by omega
 unfold qQ am;rw[e];apply ext_getElem
 ·simp
 ·intro i h1 h2;simp only[length_map,length_range,length_reverse]at h1 h2;simp only[getElem_map,getElem_range,List.getElem_reverse,length_map,length_range];congr 1;omega
def gn {n:Nat}{t:Tr}(g:Good n t)(hn:n≤1000):aL K CL [bj t]= .ok (.lst (am (aK t))):=by
 have ha:=g.a;have hb:=g.b;obtain⟨a,b,r⟩:=t;unfold aL;refine(bO rfl).trans ?_;have e0:aH e7 [bj (a,b,r)]=[some (.tup [.int a,.int b,.int r])]:=rfl;rw[e0];unfold gF;have cp:∀x y:Nat,x≤1000→y≤1000→∀ρ:DS,(sR2 (pC (kI x) (pC (kI y) pN))) ρ= .ok (am ((List.range (y-x)).map (x + ·))):=λx y hx hy ρ=>by
  simp only[aM,qh (show -1000000≤(x:Int) by omega) (show (x:Int)<1000000 by omega) (show -1000000≤(y:Int) by omega) (show (y:Int)<1000000 by omega),kx]
 simp only[aM];dsimp only at ha hb;by_cases hab:a<b
 ·have e1:decide ((a:Int)<(b:Int))=true:=Zk (by omega);simp only[aM,e1];rw[br (xs:=(List.range (b-a)).map (a + ·)) (c:=λ(i:Nat)=>D.int (i:Int)) (g:=λ(i:Nat)=>D.int (i:Int)) (by
   simp only[aM,qh (show -1000000≤(a:Int) by omega) (show (a:Int)<1000000 by omega) (show -1000000≤(b:Int) by omega) (show (b:Int)<1000000 by omega),kx];rfl) (by rw[length_map,length_range];omega) (λi hi=>⟨_,rfl,rfl⟩)]
  simp only[aM];unfold aK;rw[Yj (show (a,b,r).1<(a,b,r).2.1 from hab)];rfl
 ·have e1:decide ((a:Int)<(b:Int))=false:=Zh (by omega);simp only[aM,e1];rw[br (xs:=(List.range (a-b)).map (b + ·)) (c:=λ(i:Nat)=>D.int (i:Int)) (g:=λ(i:Nat)=>D.int (i:Int)) (by
   simp only[aM,qh (show -1000000≤(b:Int) by omega) (show (b:Int)<1000000 by omega) (show -1000000≤(a:Int) by omega) (show (a:Int)<1000000 by omega),kx];rfl) (by rw[length_map,length_range];omega) (λi hi=>⟨_,rfl,rfl⟩)]
  simp only[aM];have e2:∀l:List D,sB (.lst l) (.int (-1))= .ok (.lst l.reverse):=λl=>by unfold sB;rfl
  simp only[aM,e2];unfold aK am;rw[Yi (show ¬(a,b,r).1<(a,b,r).2.1 from hab),List.map_reverse]
def Dp {n s d:Nat}(hs:s≤n)(hd:d<n):(s+1+d) % (n+1)≠s:=by
 by_cases h:s+1+d<n+1
 ·rw[Nat.mod_eq_of_lt h];omega
 ·have:(s+1+d) % (n+1)=s+1+d-(n+1):=by
   rw[Nat.mod_eq_sub_mod (by omega),Nat.mod_eq_of_lt (by omega)]
  omega
def kb {base:Int}{i:Nat}(c:Int)(h0:0≤base)(h1:base<1000)(hi:i<5)(hc:0≤c∧c≤40):0≤base+c+5*(i:Int)∧base+c+5*(i:Int)<2000:=by omega
def sO {ns:Z2}{base most:Int}{n:Nat}(h0:0≤base)(h1:base<1000)(hn:1≤n)(hn5:n≤5)(hm:1≤most)(hm5:most≤5) :
  ∃ts:List Tr,(ts.length:Int)=1+drawn ns base most∧(∀t∈ts,Good n t)∧bE K CL [.scr ns,.int base,.int n,.int most]= .ok (.lst (ts.map bj)):=by
 have b1:=eN (ns:=ns) (k:=base) (many:=most) (by omega);obtain⟨m,em⟩:∃m:Nat,1+drawn ns base most=(m:Int):=⟨(1+drawn ns base most).toNat,by omega⟩;have dr:∀k many:Int,0≤k→k<2000→0<many→many<1000→∃a:Nat,(a:Int)=drawn ns k many∧(a:Int)<many∧ar K CL [.scr ns,.int k,.int many]= .ok (.int (a:Int)):=λk many k0 k1 m0 m1=>by
  have:=eN (ns:=ns) (k:=k) (many:=many) m0;refine⟨(drawn ns k many).toNat,by omega,by omega,?_⟩;rw[Int.toNat_of_nonneg this.1];exact cJ k0 (by omega) m0 (by omega)
 suffices goal:∃d,bE K CL [.scr ns,.int base,.int n,.int most]= .ok d∧∃ts:List Tr,d= .lst (ts.map bj)∧ts.length=m∧∀t∈ts,Good n t by
  obtain⟨_,e,ts,rfl,hl,hg⟩:=goal;exact⟨ts,by omega,hg,e⟩
 have n1:0<(n:Int)+1:=by omega
 have n2:(n:Int)+1<1000:=by omega
 have n3:0<(n:Int):=by omega
 have n4:(n:Int)<1000:=by omega
 have b40:0≤base+40∧base+40<2000:=by omega
 unfold bE;rw [show iR 4 bZ (bB K CL) [D.scr ns,D.int base,D.int n,D.int most]=ee (bB K CL (aH bZ [D.scr ns,D.int base,D.int n,D.int most])) from bO rfl];have e0:aH bZ [D.scr ns,.int base,.int n,.int most]=[some (.scr ns),some (.int base),some (.int n),some (.int most),none,none,none,none]:=rfl;rw [e0];unfold bB;have d1:=cJ (K:=K) (CL:=CL) (ns:=ns) (k:=base) (many:=most) (by omega) (by omega) (by omega) (by omega);simp only [aM,d1,em,cm (show m < 1000000 by omega)];refine wc (λrem ρ=>∃ ts:List Tr,ts.length+rem.length=m∧(∀ t∈ts,Good n t)∧∃ o5 o6 o7,ρ=[some (.scr ns),some (.int base),some (.int n),some (.int most),some (.lst (ts.map bj)),o5,o6,o7]∧∀ d∈rem,∃ i:Nat,i < m∧d= .int i)
  ⟨[],by simp,λ_ h=>(by cases h),none,none,none,rfl,λd hd=>?_⟩ (λd ds ρ ⟨ts,hl,hg,o5,o6,o7,e,hd⟩=>?_) (λQ ⟨ts,hl,hg,o5,o6,o7,e,_⟩=>?_)
 ·obtain⟨i,hi,rfl⟩:=mem_map.mp hd;exact⟨i,mem_range.mp hi,rfl⟩
 ·subst e;obtain⟨i,hi,rfl⟩:=hd d (mem_cons_self ..);rw[length_cons]at hl;have q:i<5:=by omega
  obtain⟨s,_,hs,es⟩:=dr (base+1+5*(i:Int)) ((n:Int)+1) (kb 1 h0 h1 q (by decide)).1 (kb 1 h0 h1 q (by decide)).2 n1 n2;obtain⟨x,_,hx,ex⟩:=dr (base+2+5*(i:Int)) (n:Int) (kb 2 h0 h1 q (by decide)).1 (kb 2 h0 h1 q (by decide)).2 n3 n4;obtain⟨c,_,hc,ec⟩:=dr (base+3+5*(i:Int)) 3 (kb 3 h0 h1 q (by decide)).1 (kb 3 h0 h1 q (by decide)).2 (by decide) (by decide);obtain⟨y,_,hy,ey⟩:=dr (base+4+5*(i:Int)) 2 (kb 4 h0 h1 q (by decide)).1 (kb 4 h0 h1 q (by decide)).2 (by decide) (by decide);obtain⟨z,_,hz,ez⟩:=dr (base+40) 3 b40.1 b40.2 (by decide) (by decide);obtain⟨v,v0,v1,ev⟩:=Fk (k:=(z:Int)) ⟨Int.natCast_nonneg z,hz⟩;obtain⟨r,_,hr,er⟩:=dr (base+5+5*(i:Int)) v (kb 5 h0 h1 q (by decide)).1 (kb 5 h0 h1 q (by decide)).2 v0 (Int.lt_of_le_of_lt v1 (by decide));have r60:0≤(r:Int)∧(r:Int)≤60:=⟨Int.natCast_nonneg r,by omega⟩;have sn:s≤n:=by omega
  have xn:x<n:=by omega
  have eg:((s:Int)+1+(x:Int)) % ((n:Int)+1)=(((s+1+x) % (n+1):Nat):Int):=by push_cast;rfl
  have g1:Good n (s,(s+1+x) % (n+1),(r:Int)):=⟨sn,Nat.le_of_lt_succ (Nat.mod_lt (s+1+x) (Nat.succ_pos n)),λh=>Dp sn xn h.symm,r60⟩;have step:∀(a b:Nat) (o:Option D),Good n (a,b,(r:Int))→∃Q,jz 4 (bS aX (cE (pC (ab 6) (pC (ab 7) (pC (bq (pC (ab 0) (pC (ac (ac (ab 1) (kI 5) aO) (ac (kI 5) (ab 5) fy) aO) (pC (ac (dl (pC (kI 1) (pC (kI 9) (pC (kI 61) pN)))) (bq (pC (ab 0) (pC (ac (ab 1) (kI 40) aO) (pC (kI 3) pN))) (ar K CL)) aJ) pN))) (ar K CL)) pN)))))
    [some (.scr ns),some (.int base),some (.int n),some (.int most),some (.lst (ts.map bj)),some (.int i),some (.int a),some (.int b)]= .nx Q∧Q=[some (.scr ns),some (.int base),some (.int n),some (.int most),some (.lst ((ts ++ [(a,b,(r:Int))]).map bj)),some (.int i),some (.int a),some (.int b)]:=λa b o g=>by
   refine⟨_,qd (l:=ts.map bj) (d:=bj (a,b,(r:Int))) rfl ?_ (by rw[length_map];omega),?_⟩
   ·simp (disch:=omega) only[aM,jZ,ez,ev,er];rfl
   ·rw[map_append];rfl
  have hd':∀x∈ds,∃i:Nat,i<m∧x= .int i:=λx hx=>hd x (cN hx);have fin:∀(a b:Nat),Good n (a,b,(r:Int))→∃ts':List Tr,ts'.length+ds.length=m∧(∀t∈ts',Good n t)∧∃o5 o6 o7,[some (D.scr ns),some (.int base),some (.int n),some (.int most),some (.lst ((ts ++ [(a,b,(r:Int))]).map bj)),some (.int i),some (.int a),some (.int b)]=[some (.scr ns),some (.int base),some (.int n),some (.int most),some (.lst (ts'.map bj)),o5,o6,o7]∧∀d∈ds,∃i:Nat,i<m∧d= .int i:=λa b g=>
   ⟨ts ++ [(a,b,(r:Int))],by rw[length_append];simp;omega,λt ht=>by
    rcases mem_append.mp ht with h|h
    ·exact hg t h
    ·rw[mem_singleton.mp h];exact g,_,_,_,rfl,hd'⟩
  by_cases hc1:c=1
  ·have e1:((c:Int)==1)=true:=by rw[hc1];rfl
   have g2:Good n (y*n,n-y*n,(r:Int)):=by
    have:y=0∨y=1:=by omega
    rcases this with rfl|rfl
    ·exact⟨by simp,by simp,by simp;omega,r60⟩
    ·exact⟨by simp,by simp,by simp;omega,r60⟩
   have e2:(y:Int)*(n:Int)=((y*n:Nat):Int):=by push_cast;rfl
   have e3:(n:Int)-((y*n:Nat):Int)=((n-y*n:Nat):Int):=by have:=g2.a;dsimp only at this;omega
   obtain⟨Q,h1,h2⟩:=step (y*n) (n-y*n) none g2;refine⟨_,Q,rfl,?_,by rw[h2];exact fin _ _ g2⟩;simp (disch:=omega) only[aM,jZ,es,ex,ec,ey,eg,e1,j0,e2,e3,mO];exact h1
  ·have e1:((c:Int)==1)=false:=beq_eq_false_iff_ne.mpr (by omega);obtain⟨Q,h1,h2⟩:=step s ((s+1+x) % (n+1)) none g1;refine⟨_,Q,rfl,?_,by rw[h2];exact fin _ _ g1⟩;simp (disch:=omega) only[aM,jZ,es,ex,ec,eg,e1,mO];exact h1
 ·subst e;refine⟨_,rfl,ts,rfl,hl,hg⟩
end
set_option maxHeartbeats 1000000
section
variable{K:Z8}{CL:Addr}
def ba (CL:Zz)(rs:Z2)(g:Int):D:=.ins CL ["minutes","gap"] [.tup (rs.map D.int),.int g]
def pi {rs:Z2}{g:Int}:j_ CL [ba CL rs g]= .ok (.lst (rs.map D.int)):=by
 unfold j_ ba j3;dsimp only;rw[Yj rfl];rfl
def tE {rs:Z2}{g:Int}:jM CL [ba CL rs g]= .ok (.int g):=by
 unfold jM ba j3;dsimp only;rw[Yj rfl];have:rP ["minutes","gap"] [.tup (rs.map D.int),.int g] "gap" =some (.int g):=by
  unfold rP;rw[Yi (by decide +kernel)];unfold rP;rw[Yj rfl]
 rw[this]
def x8 {rs:Z2}{g:Int}(h:(["minutes","gap"]:List Str).contains m=false):lB CL m (ba CL rs g)=true:=by
 unfold lB ba;dsimp only;rw[h];simp
def Gx {rs:Z2}{g:Int}:lB CL "runs" (ba CL rs g)=true:=x8 (by decide +kernel)
def GF {rs:Z2}{g:Int}:lB CL "clear" (ba CL rs g)=true:=x8 (by decide +kernel)
def AH {rs:Z2}{g:Int}(h:GoodLine rs g):js K CL [.lst (rs.map D.int),.int g]= .ok (ba CL rs g):=by
 have e:bw K CL [.lst (rs.map D.int),.int g]= .ok .non:=by
  unfold bw;refine(bO rfl).trans ?_;have e0:aH gM [D.lst (rs.map D.int),.int g]=[some (.lst (rs.map D.int)),some (.int g),none]:=rfl;rw[e0];unfold eI;have h1:=h.one;have h2:=h.few;have h3:=h.gap;have q1:decide (1≤(rs.length:Int))=true:=Zk (by omega);have q2:decide ((rs.length:Int)≤5)=true:=Zk (by omega);simp only[aM,q1,q2];refine gk (λrem ρ=>(∀d∈rem,∃r:Int,(1≤r∧r≤20)∧d= .int r)∧∃o,ρ=[some (.lst (rs.map D.int)),some (.int g),o]) ⟨λd hd=>?_,none,rfl⟩ (λd ds ρ hZ184=>?_) (λρ' hZ185=>?_)
  ·obtain⟨r,hr,rfl⟩:=mem_map.mp hd;exact⟨r,h.run r hr,rfl⟩
  ·obtain⟨hd,o,e⟩:=hZ184;subst e;obtain⟨r,hr,rfl⟩:=hd d (mem_cons_self ..);refine⟨_,_,rfl,?_,λx hx=>hd x (cN hx),some (.int r),rfl⟩;have q3:decide (1≤r)=true:=Zk hr.1;have q4:decide (r≤20)=true:=Zk hr.2;simp only[aM,q3,q4]
  ·obtain⟨_,o,e⟩:=hZ185;subst e;have q3:decide (0≤g)=true:=Zk h3.1;have q4:decide (g≤5)=true:=Zk h3.2;simp only[aM,q3,q4]
 unfold js;dsimp only;rw[e,av];rfl
def n9 {rs:Z2}{g:Int}{t:Tr}(h:Good rs.length t):cj K CL [ba CL rs g,bj t]= .ok .non:=by
 obtain⟨a,b,r⟩:=t;have ha:=h.a;have hb:=h.b;have hr:=h.r;have hn:=h.ne;dsimp only at ha hb hr hn;unfold cj;refine(bO rfl).trans ?_;have e0:aH fO [ba CL rs g,bj (a,b,r)]=[some (ba CL rs g),some (.tup [.int a,.int b,.int r]),none,none,none]:=rfl;rw[e0];unfold dU;have e3:((3:Int)==3)=true:=rfl;simp only[aM,Gx,pi,e3];refine gk (λrem ρ=>(∀d∈rem,∃i:Nat,i≤rs.length∧d= .int i)∧∃o,ρ=[some (ba CL rs g),some (.tup [.int a,.int b,.int r]),some (.int rs.length),o,none]) ⟨λd hd=>?_,none,rfl⟩ (λd ds ρ hZ186=>?_) (λρ' hZ187=>?_)
 ·rcases mem_cons.mp hd with rfl|hd
  ·exact⟨a,ha,rfl⟩
  ·rw[mem_singleton.mp hd];exact⟨b,hb,rfl⟩
 ·obtain⟨hd,o,e⟩:=hZ186;subst e;obtain⟨i,hi,rfl⟩:=hd d (mem_cons_self ..);refine⟨_,_,rfl,?_,λx hx=>hd x (cN hx),some (.int i),rfl⟩;have q3:decide (0≤(i:Int))=true:=Zk (by omega);have q4:decide ((i:Int)≤(rs.length:Int))=true:=Zk (by omega);simp only[aM,q3,q4]
 ·obtain⟨_,o,e⟩:=hZ187;subst e;have q2:((a:Int)==(b:Int))=false:=beq_eq_false_iff_ne.mpr (by omega);have q3:decide (0≤r)=true:=Zk hr.1;have q4:decide (r≤60)=true:=Zk hr.2;simp only[aM,q2,q3,q4]
def Ek {rs:Z2}{g:Int}{t:Tr}(h:Good rs.length t)(hn:rs.length≤1000):rX K CL [ba CL rs g,bj t]= .ok (.lst (am (aK t))):=by
 have e1:=n9 (K:=K) (CL:=CL) (g:=g) h;obtain⟨a,b,r⟩:=t;have ha:=h.a;have hb:=h.b;have hne:=h.ne;dsimp only at ha hb hne;unfold rX;refine(bO rfl).trans ?_;have e0:aH xi [ba CL rs g,bj (a,b,r)]=[some (ba CL rs g),some (.tup [.int a,.int b,.int r]),none,none]:=rfl;rw[e0];unfold uC;have e1':cj K CL [ba CL rs g,.tup [.int a,.int b,.int r]]= .ok .non:=e1;simp only[aM,e1'];by_cases hab:a<b
 ·have q1:decide ((a:Int)<(b:Int))=true:=Zk (by omega);have q2:oZ [.int (a:Int),.int (b:Int)]= .ok (.lst (am ((List.range (b-a)).map (a + ·)))):=by
   unfold oZ;dsimp only;rw[Yj,kx];unfold iF;simp only[and_eq_true,decide_eq_true_eq];refine⟨⟨by omega,by omega⟩,cv (by omega)⟩
  simp only[aM,q1,q2];unfold aK;rw[Yj (show (a,b,r).1<(a,b,r).2.1 from hab)]
 ·have q1:decide ((a:Int)<(b:Int))=false:=Zh (by omega);have q2:o_ [.int ((a:Int)-1),.int ((b:Int)-1),.int (-1)]= .ok (.lst (am ((List.range (a-b)).map (b + ·)).reverse)):=by
   unfold o_;dsimp only;rw[Yj,sC (by omega)];unfold iF;simp only[and_eq_true,decide_eq_true_eq];refine⟨⟨⟨by omega,by omega⟩,cv (by omega)⟩,trivial⟩
  simp only[aM,q1,q2];unfold aK;rw[Yi (show ¬(a,b,r).1<(a,b,r).2.1 from hab)]
def BM {rs:Z2}{g:Int}{ts:List Tr}(h:∀t∈ts,Good rs.length t)(hn:rs.length≤1000)(h1:1≤ts.length)(h2:ts.length≤5):k8 K CL [ba CL rs g,.lst (ts.map bj)]= .ok (.lst (ts.map λt=>.lst (am (aK t)))):=by
 unfold k8;refine(bO rfl).trans ?_;have e0:aH pP [ba CL rs g,.lst (ts.map bj)]=[some (ba CL rs g),some (.lst (ts.map bj))]:=rfl;rw[e0];unfold pO;have q1:decide (1≤(ts.length:Int))=true:=Zk (by omega);have q2:decide ((ts.length:Int)≤5)=true:=Zk (by omega);simp only[aM,q1,q2];rw[br (xs:=ts) (c:=bj) (g:=λt=>.lst (am (aK t))) rfl (by omega) (λt ht=>⟨_,rfl,?_⟩)]
 ·simp only[aM]
 ·have ec:d9 [none,some 0] [some (ba CL rs g),some (.lst (ts.map bj))]=[none,some (ba CL rs g)]:=rfl;rw[ec];simp only[aM,Ek (K:=K) (CL:=CL) (g:=g) (h t ht) hn]
end
set_option maxHeartbeats 1000000
def xa (b:Int)(l:Z2):Int:=l.foldl max b
theorem iY:∀(l:Z2) (b:Int),(b≤xa b l∧∀e∈l,e≤xa b l)∧(xa b l=b∨xa b l∈l)
 | [],b=>⟨⟨Int.le_refl _,λ_ h=>by cases h⟩,.inl rfl⟩
 |a::l,b=>by
  obtain⟨⟨h1,h2⟩,h3⟩:=iY l (max b a);have e:xa b (a::l)=xa (max b a) l:=rfl;rw[e];refine⟨⟨by omega,λx hx=>?_⟩,?_⟩
  ·rcases mem_cons.mp hx with rfl|hx
   ·omega
   ·exact h2 x hx
  ·rcases h3 with h|h
   ·rcases (show max b a=b∨max b a=a by omega) with z|z
    ·exact .inl (h.trans z)
    ·exact .inr (by rw[h,z];exact mem_cons_self ..)
   ·exact .inr (cN h)
def Dq {b v:Int}{l:Z2}(h1:b≤v)(h2:∀e∈l,e≤v)(h3:v=b∨v∈l):xa b l=v:=by
 obtain⟨⟨a1,a2⟩,a3⟩:=iY l b;have l1:xa b l≤v:=by
  rcases a3 with z|z
  ·omega
  ·exact h2 _ z
 have l2:v≤xa b l:=by
  rcases h3 with z|z
  ·omega
  ·exact a2 _ z
 omega
abbrev Pl:=List (List Int)
abbrev Q:=Tr×Nat
def mem_zip {α:Type}{l:List α}{q:α×Nat}:q∈l.zipIdx↔l[q.2]?=some q.1:=by
 rw[List.mem_zipIdx_iff_getElem?]
def getD_mem {α:Type}{l:List α}{i:Nat}{d:α}(h:i<l.length):l.getD i d∈l:=by
 rw[getD_eq_getElem?_getD,d_ h];exact getElem_mem h
def qE {ts:List Tr}{f:Q→Bool}:(ts.zipIdx.filter f).Pairwise λa b=>a.2≠b.2:=by
 refine List.Pairwise.filter _ ?_;have:(ts.zipIdx.map Prod.snd).Nodup:=by rw[List.zipIdx_map_snd];exact List.nodup_range'
 exact pairwise_map.mp this
set_option maxHeartbeats 1000000
section
variable{K:Z8}{CL:Addr}
def aZ (r:Z2):D:=.lst (r.map D.int)
def bV (t:Tr):D:=.lst (am (aK t))
def qi {l:Zy}:Ee (.lst l)= .ok (!l.isEmpty):=id rfl
structure Ctx (rs:Z2)(g:Int)(ts:List Tr):Prop where
 ln:GoodLine rs g
 tr:∀t∈ts,Good rs.length t
 few:ts.length≤5
 one:1≤ts.length
def Ctx.good {rs:Z2}{g:Int}{ts:List Tr}{q:Q}(C:Ctx rs g ts)(hq:q∈ts.zipIdx):Good rs.length q.1:=C.tr _ (mem_of_getElem? (mem_zip.mp hq))
def vy {rs:Z2}{g:Int}(h:GoodLine rs g){s:Nat}(hs:s<rs.length):1≤rs.getD s 0∧rs.getD s 0≤20:=h.run _ (getD_mem hs)
def u4 {w:Z0}{i:Nat}{v:Nat}(h:w[i]?=some v):aJ (.lst (am w)) (.int (i:Int))= .ok (.int (v:Int)):=bT h
def eO {α:Type}{l:List α}{i:Nat}{d:α}(h:i<l.length):l[i]?=some (l.getD i d):=by
 rw[getD_eq_getElem?_getD,d_ h];rfl
end
set_option maxHeartbeats 1000000
section
variable{K:Z8}{CL:Addr}
end
set_option maxHeartbeats 1000000
def ze {r:Z2}:b_ 1 (aZ r)=true:=by
 unfold aZ;exact k7 λ_ _=>iN
abbrev Vt:=Nat×Nat
section
variable(vs:List Vt)(W:Vt→List (Vt×Int))(ready:Vt→Int)
def bU (turn:List Vt):List Vt:=vs.filter λv=> !turn.contains v&&((W v).all λu=>turn.contains u.1)
def bM:Nat→List Vt→List Vt
 |0,t=>t
 |n+1,t=>if bU vs W t=[] then t else bM n (t ++ bU vs W t)
structure Turn (t:List Vt):Prop where
 nd:t.Nodup
 sub:∀v∈t,v∈vs
 top:∀a v b,t=a ++ v::b→∀u∈W v,u.1∈a
def B2 (e:Vt→Int)(v:Vt):Vt→Int:=λx=>if x=v then xa (ready v) ((W v).map λu=>e u.1+u.2) else e x
def gq (t:List Vt):Vt→Int:=t.foldl (B2 W ready) (λ_=>0)
structure Sol (τ:Vt→Int):Prop where
 rd:∀v∈vs,ready v≤τ v
 wt:∀v∈vs,∀u∈W v,τ u.1+u.2≤τ v
end
def BB {α:Type}{P:List α→Prop}(h0:P [])(h1:∀t x,P t→P (t ++ [x]))(l:List α):P l:=by
 have h:∀r:List α,P r.reverse:=λr=>by
  induction r with
  |nil=>exact h0
  |cons x r ih=>rw[reverse_cons];exact h1 _ _ ih
 have:=h l.reverse;rwa[List.reverse_reverse]at this
theorem bt {α:Type}[DecidableEq α]:∀{t vs:List α},t.Nodup→(∀v∈t,v∈vs)→t.length≤vs.length
 | [],_,_,_=>zero_le _
 |a::t,vs,nd,h=>by
  obtain⟨n1,n2⟩:=nodup_cons.mp nd;have ha:=h a (mem_cons_self ..);have ih:=bt (vs:=vs.erase a) n2 λv hv=>(List.mem_erase_of_ne (λ(e:v=a)=>n1 (e ▸ hv))).mpr (h v (cN hv));rw[List.length_erase_of_mem ha]at ih;have:=List.length_pos_of_mem ha;rw[length_cons];omega
section
variable{vs:List Vt}{W:Vt→List (Vt×Int)}{ready:Vt→Int}
def mem_freed {t:List Vt}{v:Vt}:v∈bU vs W t↔v∈vs∧v∉t∧∀u∈W v,u.1∈t:=by
 unfold bU;rw[mem_filter,and_eq_true,all_eq_true];simp
def sP:Turn vs W [] where
 nd:=nodup_nil
 sub:=λv h=>nomatch h
 top:=λa v b e=>by cases a <;> cases e
def wV {α:Type}{t f a b:List α}{v:α}(e:t ++ f=a ++ v::b):(∃c,t=a ++ v::c)∨∃c,a=t ++ c∧f=c ++ v::b:=by
 rcases List.append_eq_append_iff.mp e with ⟨c,h1,h2⟩|⟨c,h1,h2⟩
 ·exact .inr ⟨c,h1,h2⟩
 ·cases c with
  |nil=>exact .inr ⟨[],by simpa using h1.symm,by simpa using h2.symm⟩
  |cons x c=>
   simp at h2;obtain⟨rfl,h3⟩:=h2;exact .inl ⟨c,h1⟩
def pI {t:List Vt}(hv:vs.Nodup)(h:Turn vs W t):Turn vs W (t ++ bU vs W t):=by
 refine⟨nodup_append.mpr ⟨h.nd,hv.filter _,λa ha b hb e=>?_⟩,λv m=>?_,λa v b e u hu=>?_⟩
 ·subst e;exact(mem_freed.mp hb).2.1 ha
 ·rcases mem_append.mp m with z|z
  ·exact h.sub v z
  ·exact(mem_freed.mp z).1
 ·rcases wV e with ⟨c,z⟩|⟨c,z1,z2⟩
  ·exact h.top a v c z u hu
  ·rw[z1];exact mem_append_left _ ((mem_freed.mp (by rw[z2];exact mem_append_right _ (mem_cons_self ..))).2.2 u hu)
theorem oQ (hv:vs.Nodup):∀(n:Nat) (t:List Vt),Turn vs W t→vs.length<n+t.length→Turn vs W (bM vs W n t)∧bU vs W (bM vs W n t)=[]
 |0,t,h,hl=>by have:=bt h.nd h.sub;omega
 |n+1,t,h,hl=>by
  unfold bM;by_cases e:bU vs W t=[]
  ·rw[Yj e];exact⟨h,e⟩
  ·rw[Yi e];refine oQ hv n _ (pI hv h) ?_;have:=List.length_pos_iff.mpr e;rw[length_append];omega
def Turn.pre {a b:List Vt}(h:Turn vs W (a ++ b)):Turn vs W a:=⟨(nodup_append.mp h.nd).1,λv m=>h.sub v (mem_append_left _ m),λx v y e u hu=>h.top x v (y ++ b) (by rw[e];simp) u hu⟩
def m6 {t:List Vt}{v:Vt}:gq W ready (t ++ [v])=B2 W ready (gq W ready t) v:=by unfold gq;rw[List.foldl_append];rfl
def qx:∀{t:List Vt},Turn vs W t→∀v∈t,gq W ready t v=xa (ready v) ((W v).map λu=>gq W ready t u.1+u.2):=by
 intro t
 induction t using BB with
 |h0=>intro _ v m;cases m
 |h1 t x ih=>
  intro h v m;have hx:x∉t:=λz=>(nodup_append.mp h.nd).2.2 x z x (List.mem_singleton_self x) rfl;have wx:∀u∈W x,u.1∈t:=λu hu=>h.top t x [] rfl u hu;have same:∀y∈t,B2 W ready (gq W ready t) x y=gq W ready t y:=λy hy=>by unfold B2;rw[Yi (λ(z:y=x)=>hx (z ▸ hy))]
  rw[m6];have key:∀y,(∀u∈W y,u.1∈t)→((W y).map λu=>B2 W ready (gq W ready t) x u.1+u.2)=(W y).map λu=>gq W ready t u.1+u.2:=λy hy=>map_congr_left λu hu=>by rw[same u.1 (hy u hu)]
  rcases mem_append.mp m with z|z
  ·rw[same v z,ih h.pre v z];obtain⟨a,b,e⟩:=List.append_of_mem z;rw[key v λu hu=>by rw[e];exact mem_append_left _ (h.pre.top a v b e u hu)]
  ·have e:=mem_singleton.mp z;subst e;rw[key v wx];unfold B2;rw[Yj rfl]
def Dl {t:List Vt}(h:Turn vs W t){v:Vt}(m:v∈t):ready v≤gq W ready t v:=by
 rw[qx h v m];exact(iY _ _).1.1
def Dm {t:List Vt}(h:Turn vs W t){v:Vt}(m:v∈t){u:Vt×Int}(hu:u∈W v):gq W ready t u.1+u.2≤gq W ready t v:=by
 rw[qx h v m];exact(iY _ _).1.2 _ (List.mem_map_of_mem hu)
def wv {t:List Vt}(h:Turn vs W t){v:Vt}(m:v∈t):gq W ready t v=ready v∨∃u∈W v,gq W ready t v=gq W ready t u.1+u.2:=by
 rcases (iY ((W v).map λu=>gq W ready t u.1+u.2) (ready v)).2 with z|z
 ·exact .inl ((qx h v m).trans z)
 ·obtain⟨u,hu,e⟩:=mem_map.mp z;exact .inr ⟨u,hu,(qx h v m).trans e.symm⟩
def rM {τ:Vt→Int}(s:Sol vs W ready τ)(h0:∀v∈vs,0≤ready v)(hw:∀v∈vs,∀u∈W v,1≤u.2∧u.1∈vs){t:List Vt}(he:bU vs W t=[]):∀v∈vs,v∈t:=by
 have go:∀n:Nat,∀v∈vs,(τ v).toNat≤n→v∈t:=by
  intro n
  induction n with
  |zero=>
   intro v r hn;apply Classical.byContradiction;intro nt;have:v∈bU vs W t:=mem_freed.mpr ⟨r,nt,λu hu=>by
    exfalso;have h1:=s.wt v r u hu;have h2:=hw v r u hu;have h3:=s.rd u.1 h2.2;have h4:=h0 u.1 h2.2;omega⟩
   rw[he]at this;cases this
  |succ n ih=>
   intro v r hn;apply Classical.byContradiction;intro nt;have:v∈bU vs W t:=mem_freed.mpr ⟨r,nt,λu hu=>by
    have h1:=s.wt v r u hu;have h2:=hw v r u hu;have h3:=s.rd u.1 h2.2;have h4:=h0 u.1 h2.2;exact ih u.1 h2.2 (by omega)⟩
   rw[he]at this;cases this
 exact λv r=>go _ v r (le_refl _)
def ut {t:List Vt}(he:bU vs W t=[]){v:Vt}(hv:v∈vs)(nt:v∉t):∃u∈W v,u.1∉t:=by
 apply Classical.byContradiction;intro z;have:v∈bU vs W t:=mem_freed.mpr ⟨hv,nt,λu hu=>by
  apply Classical.byContradiction;intro y;exact z ⟨u,hu,y⟩⟩
 rw[he]at this;cases this
end
set_option maxHeartbeats 1000000
def ah (ts:List Tr):List Vt:=ts.zipIdx.flatMap λq=>(aK q.1).map λs=>(q.2,s)
def mem_visits {ts:List Tr}{v:Vt}:v∈ah ts↔∃t,ts[v.1]?=some t∧v.2∈aK t:=by
 unfold ah;rw[mem_flatMap];constructor
 ·intro hZ36;obtain⟨q,hq,h⟩:=hZ36;obtain⟨s,hs,e⟩:=mem_map.mp h;subst e;exact⟨q.1,mem_zip.mp hq,hs⟩
 ·intro hZ37;obtain⟨t,ht,h⟩:=hZ37;exact⟨(t,v.1),mem_zip.mpr ht,mem_map.mpr ⟨v.2,h,rfl⟩⟩
def bx {ts:List Tr}:(ah ts).Nodup:=by
 unfold ah;have h1:ts.zipIdx.Pairwise λa b=>a.2≠b.2:=by
  have:=qE (ts:=ts) (f:=λ_=>true);rwa[List.filter_eq_self.mpr (λ_ _=>rfl)]at this
 rw[List.nodup_iff_pairwise_ne,List.pairwise_flatMap];refine⟨λq _=>?_,h1.imp λ{a b} hab x hx y hy e=>?_⟩
 ·rw[←List.nodup_iff_pairwise_ne];exact List.Pairwise.map _ (λa b (h:a≠b) e=>h (Prod.mk.inj e).2) (fH (t:=q.1))
 ·obtain⟨s,_,rfl⟩:=mem_map.mp hx;obtain⟨s',_,rfl⟩:=mem_map.mp hy;exact hab (Prod.mk.inj e).1
def wP (rs:Z2)(ts:List Tr)(v:Vt):List (Vt×Int):=match ts[v.1]? with
 |some t=>((aK t).zip (aK t).tail).filterMap λu=>if u.2=v.2 then some ((v.1,u.1),rs.getD u.1 0) else none
 |none=>[]
def wO (rs:Z2)(g:Int)(O:Zr)(v:Vt):List (Vt×Int):=((O.getD v.2 []).zip (O.getD v.2 []).tail).filterMap λu=>if u.2=v.1 then some ((u.1,v.2),rs.getD v.2 0+g) else none
def cW (rs:Z2)(g:Int)(ts:List Tr)(O:Zr)(v:Vt):List (Vt×Int):=wP rs ts v ++ wO rs g O v
def fZ (ts:List Tr)(v:Vt):Int:=match ts[v.1]? with|some t=>t.2.2|none=>0
def tY {rs:Z2}{ts:List Tr}{v:Vt}{t:Tr}(ht:ts[v.1]?=some t){u:Vt×Int}:u∈wP rs ts v↔∃a,(a,v.2)∈(aK t).zip (aK t).tail∧u=((v.1,a),rs.getD a 0):=by
 unfold wP;rw[ht];dsimp only;rw[mem_filterMap];constructor
 ·intro hZ38;obtain⟨x,hx,e⟩:=hZ38;by_cases z:x.2=v.2
  ·rw[Yj z]at e;cases e;exact⟨x.1,by rw[←z];exact hx,rfl⟩
  ·rw[Yi z]at e;cases e
 ·intro hZ39;obtain⟨a,ha,e⟩:=hZ39;exact⟨(a,v.2),ha,by rw[Yj rfl,e]⟩
def mem_wO {rs:Z2}{g:Int}{O:Zr}{v:Vt}{u:Vt×Int}:u∈wO rs g O v↔∃a,(a,v.1)∈(O.getD v.2 []).zip (O.getD v.2 []).tail∧u=((a,v.2),rs.getD v.2 0+g):=by
 unfold wO;rw[mem_filterMap];constructor
 ·intro hZ40;obtain⟨x,hx,e⟩:=hZ40;by_cases z:x.2=v.1
  ·rw[Yj z]at e;cases e;exact⟨x.1,by rw[←z];exact hx,rfl⟩
  ·rw[Yi z]at e;cases e
 ·intro hZ41;obtain⟨a,ha,e⟩:=hZ41;exact⟨(a,v.1),ha,by rw[Yj rfl,e]⟩
structure Ords (n:Nat)(ts:List Tr)(O:Zr):Prop where
 len:O.length=n
 nd:∀s,(O.getD s []).Nodup
 mem:∀s k,s<n→(k∈O.getD s []↔(k,s)∈ah ts)
def eX {α:Type}{l:List α}{u:α×α}(h:u∈l.zip l.tail):u.1∈l∧u.2∈l:=⟨(of_mem_zip h).1,List.mem_of_mem_tail (of_mem_zip h).2⟩
def qV {rs:Z2}{g:Int}{ts:List Tr}{O:Zr}(C:Ctx rs g ts)(H:Ords rs.length ts O):∀v∈ah ts,∀u∈cW rs g ts O v,1≤u.2∧u.1∈ah ts:=by
 intro v hv u hu;obtain⟨t,ht,hs⟩:=mem_visits.mp hv;have hg:Good rs.length t:=C.tr t (mem_of_getElem? ht)
 rcases mem_append.mp hu with z|z
 ·obtain⟨a,ha,e⟩:=(tY ht).mp z;subst e;have ha':=(eX ha).1;exact⟨(vy C.ln (iB hg a ha')).1,mem_visits.mpr ⟨t,ht,ha'⟩⟩
 ·obtain⟨a,ha,e⟩:=mem_wO.mp z;subst e;have hlt:=iB hg v.2 hs;have h1:=(vy C.ln hlt).1;have h2:=C.ln.gap.1;exact⟨by show 1≤rs.getD v.2 0+g;omega,(H.mem v.2 a hlt).mp (eX ha).1⟩
def F9 {w:Z0}{n:Nat}:plL n (am w)=true:=md w λ_ _=>eA
def je {a b:Nat}:b9 (.int (a:Int)) (.int (b:Int))=decide (a=b):=by
 unfold b9;by_cases h:a=b
 ·subst h;simp
 ·rw[Zh h];simp;omega
def Gw {w:Z0}{s:Nat}:jn false (.int (s:Int)) (.lst (am w))= .ok (.bl (decide (s∈w))):=by
 unfold jn;dsimp only;rw[Yj ⟨F9,eA⟩];congr 2;unfold am;rw[Yi Bool.false_ne_true,any_map];by_cases h:s∈w
 ·rw[Zk h,List.any_eq_true];exact⟨s,h,by show b9 _ _=true;rw[je];simp⟩
 ·rw[Zh h,List.any_eq_false];intro x hx;show ¬b9 _ _=true;rw[je];simp;exact λz=>h (z ▸ hx)
def ER {w:Z0}{s:Nat}(hl:w.length≤1000)(h:s∈w):∃i,w[i]?=some s∧jH (.lst (am w)) (.int (s:Int))= .ok (.int (i:Nat)):=by
 have e:rQ (am w) (.int (s:Int))=w.findIdx? λx=>decide (x=s):=by
  unfold rQ am;rw[List.findIdx?_map];congr 1;funext x;exact je
 cases q:w.findIdx? λx=>decide (x=s) with
 |none=>
  rw[List.findIdx?_eq_none_iff]at q;have:=q s h;simp at this
 |some i=>
  obtain⟨h1,h2,_⟩:=List.findIdx?_eq_some_iff_getElem.mp q;refine⟨i,by rw[d_ h1,Zj h2],?_⟩;unfold jH;dsimp only;rw[Yj ⟨F9,eA,by unfold am;rw[length_map];exact Zk (by omega)⟩,e,q]
def aF (O:Zr):D:=.lst (O.map λo=>.lst (am o))
def rA {l:Zy}:fG (some 1) none (.lst l)= .ok (.lst l.tail):=by
 show Res.ok (D.lst ((l.drop (HT.cG l.length 0 (some 1))).take (HT.cG l.length l.length none-HT.cG l.length 0 (some 1))))=_;have e1:HT.cG l.length 0 (some 1)=min 1 l.length:=HT.Bv l.length 0 1;have e2:HT.cG l.length l.length none=l.length:=rfl;rw[e1,e2];cases l with
 |nil=>rfl
 |cons a l=>
  have:min 1 (a::l).length=1:=by rw[length_cons];omega
  rw[this,length_cons];show Res.ok (D.lst (l.take (l.length+1-1)))=_;rw[Nat.add_sub_cancel,take_length];rfl
set_option maxHeartbeats 1000000
def fX (v:Vt):List bD:=[.inl (v.1:Int),.inl (v.2:Int)]
def vD (v:Vt):D:=.tup [.int (v.1:Int),.int (v.2:Int)]
def wD (u:Vt×Int):D:=.tup [vD u.1,.int u.2]
def lW (W:Vt→List (Vt×Int))(v:Vt):D:=.lst ((W v).map wD)
def dW (vs:List Vt)(W:Vt→List (Vt×Int)):D:=.dct (vs.map fX) (vs.map (lW W))
def fW (vs:List Vt)(W:Vt→List (Vt×Int)):D:=.fdc (vs.map fX) (vs.map (lW W))
def qr {a b:Vt}(h:fX a=fX b):a=b:=by
 unfold fX at h;injection h with h1 h2
 injection h1 with h1
 injection h2 with h2
 injection h2 with h2
 exact Prod.ext (by omega) (by omega)
def jL {v:Vt}:gl [.int (v.1:Int),.int (v.2:Int)]=some (fX v):=rfl
def yc {vs:List Vt}{v:Vt}(h:v∉vs):cu (vs.map fX) (fX v)=none:=by
 unfold cu;rw[List.findIdx?_eq_none_iff];intro k hk;obtain⟨u,hu,rfl⟩:=mem_map.mp hk;exact Zh λz=>h (qr z ▸ hu)
def oV {vs:List Vt}{v:Vt}(h:v∈vs):∃m,cu (vs.map fX) (fX v)=some m∧vs[m]?=some v:=by
 cases q:cu (vs.map fX) (fX v) with
 |none=>
  unfold cu at q;rw[List.findIdx?_eq_none_iff]at q;have:=q (fX v) (List.mem_map_of_mem h);simp at this
 |some m=>
  refine⟨m,rfl,?_⟩;unfold cu at q;obtain⟨h1,h2,_⟩:=List.findIdx?_eq_some_iff_getElem.mp q;rw[getElem_map]at h2;rw[length_map]at h1;rw[d_ h1,qr (Zj h2)]
theorem ux {f:Vt→D}:∀{vs:List Vt} {v:Vt},v∈vs→qU (vs.map fX) (vs.map f) (fX v)=some (f v)
 |a::vs,v,h=>by
  rw[map_cons,map_cons];unfold qU;by_cases e:a=v
  ·subst e;rw[Yj rfl]
  ·rw[Yi (λz=>e (qr z))]
   rcases mem_cons.mp h with z|z
   ·exact absurd z.symm e
   ·exact ux z
def tG {f:Vt→D}{vs:List Vt}{v:Vt}(h:v∈vs):bm (.fdc (vs.map fX) (vs.map f)) (vD v)= .ok (f v):=by
 show jX (vs.map fX) (vs.map f) [.int (v.1:Int),.int (v.2:Int)]=_;unfold jX;rw[jL];dsimp only;rw[ux h]
def pX {f:Vt→D}{vs:List Vt}{v:Vt}(h:v∈vs):bm (.dct (vs.map fX) (vs.map f)) (vD v)= .ok (f v):=by
 show jX (vs.map fX) (vs.map f) [.int (v.1:Int),.int (v.2:Int)]=_;unfold jX;rw[jL];dsimp only;rw[ux h]
def qN {f:Vt→D}{vs:List Vt}{v:Vt}(h:v∉vs):jP (vs.map fX) (vs.map f) (fX v) (f v)= .dct ((vs ++ [v]).map fX) ((vs ++ [v]).map f):=by
 unfold jP;rw[yc h];simp only[map_append,map_cons,map_nil]
def cY (E:List (Vt×Vt×Int))(v:Vt):List (Vt×Int):=E.filterMap λe=>if e.1=v then some e.2 else none
def mr {E F:List (Vt×Vt×Int)}{v:Vt}:cY (E ++ F) v=cY E v ++ cY F v:=List.filterMap_append ..
def uE {E:List (Vt×Vt×Int)}{v:Vt}(h:∀e∈E,e.1≠v):cY E v=[]:=by
 unfold cY;rw[filterMap_eq_nil_iff];intro e he;rw[Yi (h e he)]
def q_ {E:List (Vt×Vt×Int)}{v:Vt}:(cY E v).length≤E.length:=List.length_filterMap_le ..
def Cm {vs:List Vt}{E:List (Vt×Vt×Int)}{v:Vt}{u:Vt×Int}{m:Nat}(nd:vs.Nodup)(h:vs[m]?=some v):bJ [m] (dW vs (cY E)) (.lst ((cY E v).map wD ++ [wD u]))=dW vs (cY (E ++ [(v,u)])):=by
 have hk:(vs.map (lW (cY E)))[m]?=some (lW (cY E) v):=by rw[getElem?_map,h];rfl
 unfold bJ dW;simp only[bF,hk,eB,bJ];congr 1;refine ext_getElem? λi=>?_;rw[getElem?_set,getElem?_map];by_cases hi:m=i
 ·subst hi;have hl:m<(vs.map (lW (cY E))).length:=(d8 hk).1;rw[Yj rfl,Yj hl,getElem?_map,h];show some _=some (lW (cY (E ++ [(v,u)])) v);unfold lW;rw[mr];have:cY [(v,u)] v=[u]:=by unfold cY;rw[List.filterMap_cons_some (b:=u) (by rw[Yj rfl])];rfl
  rw[this,map_append];rfl
 ·rw[Yi hi,getElem?_map];cases q:vs[i]? with
  |none=>rfl
  |some x=>
   show some (lW _ x)=some (lW _ x);have hx:x≠v:=λz=>hi ((List.getElem?_inj (d8 h).1 nd).mp (by rw[h,q,z]));have:cY [(v,u)] x=[]:=uE λe he=>by rw[mem_singleton.mp he];exact λz=>hx z.symm
   unfold lW;rw[mr,this,append_nil]
def C5 {vs:List Vt}{W:Vt→List (Vt×Int)}{v:Vt}{m:Nat}(h:vs[m]?=some v):bW [m] (dW vs W)=some (.lst ((W v).map wD)):=by
 have hk:(vs.map (lW W))[m]?=some (lW W v):=by rw[getElem?_map,h];rfl
 unfold bW dW;simp only[bF,hk,bW];rfl
def qc (rs:Z2)(k:Nat)(us:Y8):List (Vt×Vt×Int):=us.map λu=>((k,u.2),(k,u.1),rs.getD u.1 0)
def uK (rs:Z2)(qs:List Q):List (Vt×Vt×Int):=qs.flatMap λq=>qc rs q.2 ((aK q.1).zip (aK q.1).tail)
def p_ (rs:Z2)(g:Int)(s:Nat)(us:Y8):List (Vt×Vt×Int):=us.map λu=>((u.2,s),(u.1,s),rs.getD s 0+g)
def zL (rs:Z2)(g:Int)(os:List (List Nat×Nat)):List (Vt×Vt×Int):=os.flatMap λo=>p_ rs g o.2 (o.1.zip o.1.tail)
def dS (qs:List Q):List Vt:=qs.flatMap λq=>(aK q.1).map λs=>(q.2,s)
def uA {α:Type}{l:List α}:l.zipIdx.Pairwise λa b=>a.2≠b.2:=by
 have:(l.zipIdx.map Prod.snd).Nodup:=by rw[List.zipIdx_map_snd];exact List.nodup_range'
 rw[List.nodup_iff_pairwise_ne,pairwise_map]at this;exact this
def oJ {α β:Type}{l:List α}{f:α×Nat→List β}{k:Nat}{x:α}(hx:l[k]?=some x)(h:∀q∈l.zipIdx,q.2≠k→f q=[]):l.zipIdx.flatMap f=f (x,k):=by
 obtain⟨a,b,e⟩:=List.append_of_mem (show (x,k)∈l.zipIdx from mem_zip.mpr hx);have pw:=uA (l:=l);rw[e]at pw h ⊢;obtain⟨_,p2,p3⟩:=List.pairwise_append.mp pw;have ha:a.flatMap f=[]:=List.flatMap_eq_nil_iff.mpr λq hq=>h q (mem_append_left _ hq) (p3 q hq (x,k) (mem_cons_self ..));have hb:b.flatMap f=[]:=List.flatMap_eq_nil_iff.mpr λq hq=>h q (mem_append_right _ (cN hq)) (λz=>(List.pairwise_cons.mp p2).1 q hq z.symm);rw[flatMap_append,flatMap_cons,ha,hb,nil_append,append_nil]
def uF {rs:Z2}{g:Int}{ts:List Tr}{O:Zr}{v:Vt}(hv:v∈ah ts)(hs:v.2<O.length):cY (uK rs ts.zipIdx ++ zL rs g O.zipIdx) v=cW rs g ts O v:=by
 obtain⟨t,ht,_⟩:=mem_visits.mp hv;rw[mr];unfold cW;congr 1
 ·unfold cY uK;rw[List.filterMap_flatMap,oJ ht]
  ·unfold wP qc;rw[ht];dsimp only;rw[filterMap_map];congr 1;funext u;show (if (v.1,u.2)=v then _ else _)=_
   by_cases z:u.2=v.2
   ·rw[Yj z,Yj (show (v.1,u.2)=v from Prod.ext rfl z)]
   ·have hz:¬(v.1,u.2)=v:=λy=>z (by have:=congrArg (λx:Vt=>x.2) y;exact this);rw[Yi z,Yi hz]
  ·intro q _ hq;unfold qc;rw[filterMap_map,filterMap_eq_nil_iff];intro u _;show (if (q.2,u.2)=v then _ else _)=_
   rw[Yi (show ¬(q.2,u.2)=v from λy=>hq (congrArg Prod.fst y))]
 ·unfold cY zL;rw[List.filterMap_flatMap,oJ (eO (d:=[]) hs)]
  ·unfold wO p_;rw[filterMap_map];congr 1;funext u;show (if (u.2,v.2)=v then _ else _)=_
   by_cases z:u.2=v.1
   ·rw[Yj z,Yj (show (u.2,v.2)=v from Prod.ext z rfl)]
   ·rw[Yi z,Yi (show ¬(u.2,v.2)=v from λy=>z (congrArg Prod.fst y))]
  ·intro q _ hq;unfold p_;rw[filterMap_map,filterMap_eq_nil_iff];intro u _;show (if (u.2,q.2)=v then _ else _)=_
   rw[Yi (show ¬(u.2,q.2)=v from λy=>hq (congrArg Prod.snd y))]
section
variable{K:Z8}{CL:Addr}
def fT (ts:List Tr)(s:Nat):List Nat:=(ts.zipIdx.filter λq=>decide (s∈aK q.1)).map λq=>q.2
def going_mem {ts:List Tr}{s k:Nat}:k∈fT ts s↔(k,s)∈ah ts:=by
 unfold fT;rw[mem_map,mem_visits];constructor
 ·intro hZ42;obtain⟨q,hq,rfl⟩:=hZ42;obtain⟨h1,h2⟩:=mem_filter.mp hq;exact⟨q.1,mem_zip.mp h1,Zj h2⟩
 ·intro hZ43;obtain⟨t,ht,h⟩:=hZ43;exact⟨(t,k),mem_filter.mpr ⟨mem_zip.mpr ht,Zk h⟩,rfl⟩
def going_lt {ts:List Tr}{s:Nat}:(fT ts s).Pairwise (· < ·):=by
 unfold fT;have h:(ts.zipIdx.map Prod.snd).Pairwise (· < ·):=by rw[List.zipIdx_map_snd];exact List.pairwise_lt_range'
 exact h.sublist (List.filter_sublist.map _)
def ur {n:Nat}{ts:List Tr}{O:Zr}(H:Ords n ts O){s:Nat}(hs:s<n)(h5:ts.length≤5):lq [.lst (am (O.getD s []))]= .ok (.lst (am (fT ts s))):=by
 have hl:(O.getD s []).length≤ts.length:=by
  have:=bt (vs:=List.range ts.length) (H.nd s) λk hk=>by
   obtain⟨t,ht,_⟩:=mem_visits.mp ((H.mem s k hs).mp hk);exact mem_range.mpr (d8 ht).1
  rwa[length_range]at this
 have e1:am (O.getD s [])=((O.getD s []).map λ(k:Nat)=>(k:Int)).map D.int:=by unfold am;rw[map_map];rfl
 have e2:am (fT ts s)=((fT ts s).map λ(k:Nat)=>(k:Int)).map D.int:=by unfold am;rw[map_map];rfl
 unfold lq;dsimp only;rw[e1,fJ];dsimp only;rw[Yj (by rw[length_map];omega),e2];congr 3;refine mx ((ls _).trans (List.Perm.map _ ?_)) (sK _) ?_
 ·exact(List.perm_ext_iff_of_nodup (H.nd s) (going_lt.imp λ{a b} h=>by omega)).mpr λk=>(H.mem s k hs).trans going_mem.symm
 ·rw[pairwise_map];exact going_lt.imp λ{a b} h=>by omega
def mE {n:Nat}{ts:List Tr}{O:Zr}(H:Ords n ts O)(hn:n≤1000)(h5:ts.length≤5)(hw:∀t∈ts,(aK t).length≤1000):b0 K CL [.int (n:Int),.lst (ts.map bV),aF O]= .ok .non:=by
 unfold b0;refine(bO rfl).trans ?_;have e0:aH df [.int (n:Int),.lst (ts.map bV),aF O]=[some (.int (n:Int)),some (.lst (ts.map bV)),some (aF O),none,none,none]:=rfl;rw[e0];unfold da aF;simp only[aM,jf,H.len];obtain⟨ρ',h1,_⟩:=mf (xs:=O.zipIdx) (c:=λq:List Nat×Nat=>D.tup [.int (q.2:Int),.lst (am q.1)]) (asg:=gW 3 4) (F:=ax (aQ 5 (aR (sE (pC (ab 1) pN)) [none,none,some 3] (gW 0 1) (ck (ac (ab 2) (ab 1) (jn false))) (ab 0))) (fL (ck (ac (c1 (ab 4) lq) (ab 5) lK)) bad1 nxt)) (P:=λ_=>True)
  (ρ:=[some (.int (n:Int)),some (.lst (ts.map bV)),some (.lst (O.map λo=>.lst (am o))),none,none,none])
  (λ_ ρ=>∃o3 o4 o5,ρ=[some (.int (n:Int)),some (.lst (ts.map bV)),some (.lst (O.map λo=>.lst (am o))),o3,o4,o5]) ⟨_,_,_,rfl⟩ (λpre q post exs ρ hZ188=>by
   obtain⟨o3,o4,o5,e⟩:=hZ188;subst e;refine⟨_,rfl,?_⟩;have hq:q∈O.zipIdx:=by rw[exs];simp
   have hz:=mem_zip.mp hq;have hs:q.2<n:=by rw[←H.len];exact(d8 hz).1
   have e1:O.getD q.2 []=q.1:=by rw[getD_eq_getElem?_getD,hz];rfl
   have srt:=ur H hs h5;rw[e1]at srt;have cg:aR (sE (pC (ab 1) pN)) [none,none,some 3] (gW 0 1) (ck (ac (ab 2) (ab 1) (jn false))) (ab 0) [some (.int (n:Int)),some (.lst (ts.map bV)),some (.lst (O.map λo=>.lst (am o))),some (.int (q.2:Int)),some (.lst (am q.1)),o5]= .ok (.lst (am (fT ts q.2))):=by
    rw[fq (xs:=ts.zipIdx) (c:=λu:Q=>D.tup [.int (u.2:Int),bV u.1]) (p:=λu=>decide (q.2∈aK u.1)) (g:=λu=>D.int (u.2:Int)) (by simp only[aM,jf]) (by rw[length_zipIdx];omega) (λu hu=>⟨_,rfl,?_,λ_=>?_⟩)]
    ·unfold fT am;rw[map_map];rfl
    ·have:=Gw (w:=aK u.1) (s:=q.2);show ck (ac (ab 2) (ab 1) (jn false)) [some (.int (u.2:Int)),some (.lst (am (aK u.1))),some (.int (q.2:Int))]=_;simp only[aM,this]
    ·rfl
   simp only[aM,cg,srt,qA (d:=.lst (am (fT ts q.2))) (li λ_ _=>eA)];exact⟨_,rfl,_,_,_,rfl⟩) (λ_ _=>trivial)
 rw[h1];rfl
end
set_option maxHeartbeats 1000000
section
variable{K:Z8}{CL:Addr}
def rb {vs:List Vt}{E:List (Vt×Vt×Int)}{v:Vt}{u:Vt×Int}{ρ:DS}{fi f:Z7}(nd:vs.Nodup)(hv:v∈vs)(hE:E.length≤100000)(h:ρ[5]?=some (some (dW vs (cY E))))(hi:fi ρ= .ok (vD v))(hf:f ρ= .ok (wD u)):lU 5 1 (zV 5 0 (nY 5) fi) f ρ= .nx (ρ.set 5 (some (dW vs (cY (E ++ [(v,u)]))))):=by
 obtain⟨m,h1,h2⟩:=oV hv;have key:=(qe (g:=zV 5 0 (nY 5) fi) (f:=f) (j:=5) (n:=1) (p:=[m]) (t:=dW vs (cY E)) (rows:=(cY E v).map wD) (CD (p:=[]) (n:=0) (kd:=[.int (v.1:Int),.int (v.2:Int)]) (k:=fX v) (t:=dW vs (cY E)) (m:=m) (ks:=vs.map fX) (l:=vs.map (lW (cY E))) (tI h) rfl hi jL h rfl h1) hf rfl h (C5 h2) (by rw[length_map];exact le_trans q_ hE));rw[Cm nd h2]at key;exact key
def xz {vs:List Vt}{W:Vt→List (Vt×Int)}{v:Vt}{ρ:DS}{fi f:Z7}(hv:v∉vs)(hW:W v=[])(hl:vs.length≤100000)(h:ρ[5]?=some (some (dW vs W)))(hi:fi ρ= .ok (vD v))(hf:f ρ= .ok (.lst [])):fK 5 fi f ρ= .nx (ρ.set 5 (some (dW (vs ++ [v]) W))):=by
 have e:(D.lst []:D)=lW W v:=by unfold lW;rw[hW];rfl
 rw[e]at hf;rw[l8 (ks:=vs.map fX) (l:=vs.map (lW W)) (k:=fX v) (kd:=[.int (v.1:Int),.int (v.2:Int)]) h hf hi jL (by rw[length_map];exact hl),qN hv];rfl
abbrev rW (CL:Zz)(rs:Z2)(g:Int)(ts:List Tr)(O:Zr)(d:D)(o6 o7 o8 o9 o10 o11:Y0):DS:=[some (ba CL rs g),some (.lst (ts.map bV)),some (aF O),some (.lst (rs.map D.int)),some (.int g),some d,o6,o7,o8,o9,o10,o11]
theorem l7 {rs:Z2}:∀{qs:List Q},(∀q∈qs,(aK q.1).length≤5)→(uK rs qs).length≤5*qs.length
 | [],_=>le_refl _
 |q::qs,h=>by
  have ih:=l7 (rs:=rs) (qs:=qs) λu hu=>h u (cN hu);have h1:=h q (mem_cons_self ..);unfold uK at ih ⊢;rw[flatMap_cons,length_append,length_cons];have:(qc rs q.2 ((aK q.1).zip (aK q.1).tail)).length≤5:=by
   unfold qc;rw[length_map,length_zip];omega
  omega
theorem qb {rs:Z2}{g:Int}:∀{os:List (List Nat×Nat)},(∀o∈os,o.1.length≤5)→(zL rs g os).length≤5*os.length
 | [],_=>le_refl _
 |q::qs,h=>by
  have ih:=qb (rs:=rs) (g:=g) (os:=qs) λu hu=>h u (cN hu);have h1:=h q (mem_cons_self ..);unfold zL at ih ⊢;rw[flatMap_cons,length_append,length_cons];have:(p_ rs g q.2 (q.1.zip q.1.tail)).length≤5:=by
   unfold p_;rw[length_map,length_zip];omega
  omega
theorem i9:∀{qs:List Q},(∀q∈qs,(aK q.1).length≤5)→(dS qs).length≤5*qs.length
 | [],_=>le_refl _
 |q::qs,h=>by
  have ih:=i9 (qs:=qs) λu hu=>h u (cN hu);have h1:=h q (mem_cons_self ..);unfold dS at ih ⊢;rw[flatMap_cons,length_append,length_cons,length_map];omega
def visQ_mem {qs:List Q}{v:Vt}:v∈dS qs↔∃q∈qs,q.2=v.1∧v.2∈aK q.1:=by
 unfold dS;rw[mem_flatMap];constructor
 ·intro hZ44;obtain⟨q,hq,h⟩:=hZ44;obtain⟨s,hs,rfl⟩:=mem_map.mp h;exact⟨q,hq,rfl,hs⟩
 ·intro hZ45;obtain⟨q,hq,h1,h2⟩:=hZ45;exact⟨q,hq,mem_map.mpr ⟨v.2,h2,by rw[h1]⟩⟩
def zH {ts:List Tr}{pre post:List Q}(e:ts.zipIdx=pre ++ post):(dS pre).Nodup:=by
 have:ah ts=dS pre ++ dS post:=by unfold ah dS;rw[e,flatMap_append]
 have h:=bx (ts:=ts);rw[this]at h;exact(nodup_append.mp h).1
def qD {n:Nat}{ts:List Tr}{O:Zr}(H:Ords n ts O){s:Nat}(hs:s<n):(O.getD s []).length≤ts.length:=by
 have:=bt (vs:=List.range ts.length) (H.nd s) λk hk=>by
  obtain⟨t,ht,_⟩:=mem_visits.mp ((H.mem s k hs).mp hk);exact mem_range.mpr (d8 ht).1
 rwa[length_range]at this
def uy {rs:Z2}{g:Int}{ts:List Tr}{O:Zr}(C:Ctx rs g ts)(H:Ords rs.length ts O):fw K CL [ba CL rs g,.lst (ts.map bV),aF O]= .ok (dW (ah ts) (cW rs g ts O)):=by
 have h5:∀q∈ts.zipIdx,(aK q.1).length≤5:=λq hq=>by
  have:=dB (C.good hq);have:=C.ln.few;omega
 have hn5:=C.ln.few;have ht5:=C.few;have hck:b0 K CL [.int (rs.length:Int),.lst (ts.map bV),aF O]= .ok .non:=mE H (by omega) C.few λt ht=>by
  have:=dB (C.tr t ht);omega
 unfold fw;refine(bO rfl).trans ?_;have e0:aH jw [ba CL rs g,.lst (ts.map bV),aF O]=[some (ba CL rs g),some (.lst (ts.map bV)),some (aF O),none,none,none,none,none,none,none,none,none]:=rfl;rw[e0];unfold gH;simp only[aM,Gx,GF,tE,pi,hck,jf];refine i3 (λpre f=>∃M L I B w A,f=rW CL rs g ts O (dW (dS pre) (cY (uK rs pre))) M L I B w A) ⟨none,none,none,none,none,none,rfl⟩ (λpre q post E f hZ189=>?_) (λQ hZ190=>?_)
 ·obtain⟨M,L,I,B,w,A,e⟩:=hZ189;subst e;refine⟨_,rfl,?_⟩;have hq:q∈ts.zipIdx:=by rw[E];simp
  have hsub:∀u∈pre,u∈ts.zipIdx:=λu F=>by rw[E];exact mem_append_left _ F
  have hne:∀u∈pre,u.2≠q.2:=λu F=>by
   have pw:=uA (l:=ts);rw[E]at pw;exact(List.pairwise_append.mp pw).2.2 u F q (mem_cons_self ..)
  have hpl:pre.length≤5:=by
   have:=congrArg List.length E;rw[length_zipIdx,length_append]at this;omega
  have hEl:(uK rs pre).length≤25:=by
   have:=l7 (rs:=rs) (qs:=pre) λu F=>h5 u (hsub u F);omega
  have hVl:(dS pre).length≤25:=by
   have:=i9 (qs:=pre) λu F=>h5 u (hsub u F);omega
  have hEne:∀e∈uK rs pre,e.1.1≠q.2:=λe he=>by
   obtain⟨u,F,h⟩:=mem_flatMap.mp he;obtain⟨x,_,rfl⟩:=mem_map.mp h;exact hne u F
  have hw5:=h5 q hq;have hzp:uz [bV q.1,.lst (am (aK q.1)).tail]= .ok (((aK q.1).zip (aK q.1).tail).map λu=>.tup [.int (u.1:Int),.int (u.2:Int)]):=by
   unfold bV am;rw[←List.map_tail];exact xK
  have hcut:fG (some 1) none (bV q.1)= .ok (.lst (am (aK q.1)).tail):=rA;have hseq:zm (bV q.1)= .ok ((aK q.1).map λ(s:Nat)=>D.int (s:Int)):=rfl;simp only[aM,hseq];refine wM (c:=λ(s:Nat)=>D.int (s:Int)) (xs:=aK q.1) (λps f=>∃I B w A,f=rW CL rs g ts O (dW (dS pre ++ ps.map λs=>(q.2,s)) (cY (uK rs pre))) (some (.int (q.2:Int))) (some (bV q.1)) I B w A) ⟨I,B,w,A,by rw[map_nil,append_nil]⟩ (λps s po G f hZ191=>?_) (λQ hZ192=>?_)
  ·obtain⟨I,B,w,A,e⟩:=hZ191;subst e;refine⟨_,rfl,?_⟩;have nv:(q.2,s)∉dS pre ++ ps.map λs=>(q.2,s):=λz=>by
    rcases mem_append.mp z with y|y
    ·obtain⟨u,F,h1,_⟩:=visQ_mem.mp y;exact hne u F h1
    ·obtain⟨s',hs',e⟩:=mem_map.mp y;have e:=(Prod.mk.inj e).2;subst e;have nd:=fH (t:=q.1);rw[G]at nd;exact(nodup_append.mp nd).2.2 s' hs' s' (mem_cons_self ..) rfl
   have hpsl:ps.length≤5:=by
    have:=congrArg List.length G;rw[length_append]at this;omega
   refine⟨_,xz (v:=(q.2,s)) nv (uE λe he z=>hEne e he (congrArg Prod.fst z)) (by rw[length_append,length_map];omega) rfl (by simp only[aM];rfl) (by simp only[aM]),some (.int (s:Int)),B,w,A,?_⟩;rw[map_append,←append_assoc];rfl
  ·obtain⟨I,B,w,A,e⟩:=hZ192;subst e;simp only[aM,hcut,hzp];have ndv:(dS pre ++ (aK q.1).map λs=>(q.2,s)).Nodup:=by
    have:=zH (pre:=pre ++ [q]) (post:=post) (by rw[E];simp);unfold dS at this;rw[flatMap_append,flatMap_singleton]at this;exact this
   refine mf (λus f=>∃B w,f=rW CL rs g ts O (dW (dS pre ++ (aK q.1).map λs=>(q.2,s)) (cY (uK rs pre ++ qc rs q.2 us))) (some (.int (q.2:Int))) (some (bV q.1)) I B w A) ⟨B,w,by unfold qc;rw[map_nil,append_nil]⟩ (λus u po G f hZ193=>?_) (λQ hZ194=>?_)
   ·obtain⟨B,w,e⟩:=hZ193;subst e;refine⟨_,rfl,?_⟩;have F:u∈(aK q.1).zip (aK q.1).tail:=by rw[G];simp
    have J:=eX F;have hlt:u.1<rs.length:=iB (C.good hq) _ J.1;have y0:=bT (g:=D.int) (eO (d:=0) hlt);have hul:us.length≤5:=by
     have:=congrArg List.length G;rw[length_append,length_zip]at this;omega
    refine⟨_,rb (v:=(q.2,u.2)) (u:=((q.2,u.1),rs.getD u.1 0)) ndv (mem_append_right _ (mem_map.mpr ⟨u.2,J.2,rfl⟩)) (by unfold qc;rw[length_append,length_map];omega) rfl (by simp only[aM];rfl) (by simp only[aM,y0];rfl),some (.int (u.1:Int)),some (.int (u.2:Int)),?_⟩;unfold qc;rw[map_append,←append_assoc];rfl
   ·obtain⟨B,w,e⟩:=hZ194;refine⟨some (.int (q.2:Int)),some (bV q.1),I,B,w,A,?_⟩;rw[e];unfold dS uK;rw[flatMap_append,flatMap_singleton,flatMap_append,flatMap_singleton]
 ·obtain⟨M,L,I,B,w,A,e⟩:=hZ190;subst e;have hv0:dS ts.zipIdx=ah ts:=rfl;rw[hv0];unfold rW aF;simp only[aM,jf];have hEl:(uK rs ts.zipIdx).length≤25:=by
   have:=l7 (rs:=rs) (qs:=ts.zipIdx) h5;rw[length_zipIdx]at this;omega
  have hO5:∀o∈O.zipIdx,o.1.length≤5:=λo ho=>by
   have J:=mem_zip.mp ho;have hs:o.2<rs.length:=by rw[←H.len];exact(d8 J).1
   have:=qD H hs;have e1:O.getD o.2 []=o.1:=by rw[getD_eq_getElem?_getD,J];rfl
   rw[e1]at this;omega
  refine i3 (c:=λo:List Nat×Nat=>D.tup [.int (o.2:Int),.lst (am o.1)]) (xs:=O.zipIdx) (λpre f=>∃M L I B w A,f=rW CL rs g ts O (dW (ah ts) (cY (uK rs ts.zipIdx ++ zL rs g pre))) M L I B w A) ⟨M,L,I,B,w,A,by unfold zL;rw[List.flatMap_nil,append_nil];rfl⟩ (λpre q post E f hZ195=>?_) (λQ hZ196=>?_)
  ·obtain⟨M,L,I,B,w,A,e⟩:=hZ195;subst e;refine⟨_,rfl,?_⟩;have hq:q∈O.zipIdx:=by rw[E];simp
   have J:=mem_zip.mp hq;have hs:q.2<rs.length:=by rw[←H.len];exact(d8 J).1
   have e1:O.getD q.2 []=q.1:=by rw[getD_eq_getElem?_getD,J];rfl
   have y0:=bT (g:=D.int) (eO (d:=0) hs);have hpl:pre.length≤5:=by
    have:=congrArg List.length E;rw[length_zipIdx,length_append,H.len]at this;omega
   have hOl:(zL rs g pre).length≤25:=by
    have:=qb (rs:=rs) (g:=g) (os:=pre) λu F=>hO5 u (by rw[E];exact mem_append_left _ F);omega
   have hzp:uz [.lst (am q.1),.lst (am q.1).tail]= .ok ((q.1.zip q.1.tail).map λu=>.tup [.int (u.1:Int),.int (u.2:Int)]):=by
    unfold am;rw[←List.map_tail];exact xK
   simp only[aM,rA,hzp];refine mf (λus f=>∃B w,f=rW CL rs g ts O (dW (ah ts) (cY (uK rs ts.zipIdx ++ zL rs g pre ++ p_ rs g q.2 us))) M L (some (.int (q.2:Int))) B w (some (.lst (am q.1)))) ⟨B,w,by unfold p_;rw[map_nil,append_nil]⟩ (λus u po G f hZ197=>?_) (λQ hZ198=>?_)
   ·obtain⟨B,w,e⟩:=hZ197;subst e;refine⟨_,rfl,?_⟩;have F:u∈q.1.zip q.1.tail:=by rw[G];simp
    have J:=eX F;have hul:us.length≤5:=by
     have:=congrArg List.length G;have:=hO5 q hq;rw[length_append,length_zip]at *;omega
    have hv:(u.2,q.2)∈ah ts:=(H.mem q.2 u.2 hs).mp (by rw[e1];exact J.2);refine⟨_,rb (v:=(u.2,q.2)) (u:=((u.1,q.2),rs.getD q.2 0+g)) bx hv (by unfold p_;rw[length_append,length_append,length_map];omega) rfl (by simp only[aM];rfl) (by simp only[aM,y0];rfl),some (.int (u.1:Int)),some (.int (u.2:Int)),?_⟩;unfold p_;rw[map_append,←append_assoc];rfl
   ·obtain⟨B,w,e⟩:=hZ198;refine⟨M,L,some (.int (q.2:Int)),B,w,some (.lst (am q.1)),?_⟩;rw[e];unfold zL;rw[flatMap_append,flatMap_singleton,←append_assoc]
  ·obtain⟨M,L,I,B,w,A,e⟩:=hZ196;subst e;simp only[aM];unfold dW;congr 2;refine map_congr_left λv hv=>?_;obtain⟨t,ht,h2⟩:=mem_visits.mp hv;unfold lW;rw[uF hv (by rw[H.len];exact iB (C.tr t (mem_of_getElem? ht)) _ h2)]
end
set_option maxHeartbeats 1000000
def xC {a b:Vt}:b9 (vD a) (vD b)=decide (a=b):=by
 unfold vD b9 eqBL;rw[je];unfold eqBL;rw[je];unfold eqBL;rw[Bool.and_true];by_cases h:a=b
 ·subst h;simp
 ·rw[Zh h];cases q:decide (a.1=b.1) with
  |false=>rfl
  |true=>
   rw[Bool.true_and];exact Zh λz=>h (Prod.ext (Zj q) z)
def DY {v:Vt}:a7 19 (vD v)=true:=by
 unfold vD a7 plL plL plL;rw[eA,eA];rfl
def B7 {t:List Vt}:plL 19 (t.map vD)=true:=md t λ_ _=>DY
def ig {t:List Vt}{v:Vt}:jn true (vD v) (.lst (t.map vD))= .ok (.bl (!t.contains v)):=by
 unfold jn;dsimp only;rw[Yj ⟨B7,DY⟩,Yj rfl,any_map];congr 3;rw[List.contains_eq_any_beq];congr 1;funext x;show b9 (vD x) (vD v)=_;rw[xC];by_cases h:x=v
 ·subst h;simp
 ·rw[Zh h];exact(beq_eq_false_iff_ne.mpr λz=>h z.symm).symm
section
variable{K:Z8}{CL:Zz}{vs:List Vt}{W:Vt→List (Vt×Int)}
def ya {u:Vt×Int}:aJ (wD u) (.int 0)= .ok (vD u.1):=fS rfl
def EU {u:Vt×Int}:aJ (wD u) (.int 1)= .ok (.int u.2):=fS rfl
def oP {t:List Vt}{v:Vt}(hv:v∈vs)(hl:(W v).length≤100000):cD K CL [fW vs W,.lst (t.map vD),vD v]= .ok (.lst (((W v).filter λu=> !t.contains u.1).map λu=>vD u.1)):=by
 unfold cD;refine(bO rfl).trans ?_;have e0:aH jb [fW vs W,.lst (t.map vD),vD v]=[some (fW vs W),some (.lst (t.map vD)),some (vD v)]:=rfl;rw[e0];unfold i_;have hg:bm (fW vs W) (vD v)= .ok (lW W v):=tG hv;rw[kR,fq (xs:=W v) (c:=wD) (p:=λu=> !t.contains u.1) (g:=λu=>vD u.1) (by simp only[aM,hg];rfl) hl (λu hu=>⟨_,rfl,?_,λ_=>?_⟩)]
 ·rfl
 ·show ck (ac (ac (ab 0) (kI 0) aJ) (ab 1) (jn true)) [some (wD u),some (.lst (t.map vD))]=_;simp only[aM,ya,ig]
 ·show ac (ab 0) (kI 0) aJ [some (wD u),some (.lst (t.map vD))]=_;simp only[aM,ya]
def xT {t:List Vt}(hl:vs.length≤100000)(hw:∀v∈vs,(W v).length≤100000):fM K CL [fW vs W,.lst (t.map vD)]= .ok (.lst ((bU vs W t).map vD)):=by
 unfold fM;refine(bO rfl).trans ?_;have e0:aH lZ [fW vs W,.lst (t.map vD)]=[some (fW vs W),some (.lst (t.map vD))]:=rfl;rw[e0];unfold lY;have hk:m3 (fW vs W)= .ok (vs.map vD):=by
  show Res.ok ((vs.map fX).map oe)=_;rw[map_map];rfl
 rw[kR,fq (xs:=vs) (c:=vD) (p:=λv=> !t.contains v&&((W v).all λu=>t.contains u.1)) (g:=vD) (by show (m3 (fW vs W))=_;exact hk) hl (λv hv=>⟨_,rfl,?_,λ_=>?_⟩)]
 ·rfl
 ·show zT (ck (ac (ab 0) (ab 1) (jn true))) (fA (tR (bq (pC (ab 2) (pC (ab 1) (pC (ab 0) pN))) (cD K CL)))) [some (vD v),some (.lst (t.map vD)),some (fW vs W)]=_;have hh:=oP (K:=K) (CL:=CL) (t:=t) hv (hw v hv);cases q:t.contains v with
  |true=>simp only[aM,ig,q]
  |false=>
   simp only[aM,ig,q,hh,qi];congr 1;rw[Bool.not_not];cases y:(W v).all λu=>t.contains u.1 with
   |true=>
    rw[filter_eq_nil_iff.mpr λu hu=>by rw[all_eq_true]at y;rw[y u hu];exact Bool.false_ne_true];rfl
   |false=>
    cases z:(W v).filter λu=> !t.contains u.1 with
    |cons a b=>rfl
    |nil=>
     rw[filter_eq_nil_iff]at z;have:((W v).all λu=>t.contains u.1)=true:=all_eq_true.mpr λu hu=>by simpa using z u hu
     rw[this]at y;cases y
 ·rfl
def m7 {t:List Vt}:b_ 1 (.lst (t.map vD))=true:=by
 have:=ww (l:=t.map λv=>[(v.1:Int),(v.2:Int)]);rw[map_map]at this;exact this
def x6 (hv:vs.Nodup)(hl:vs.length≤39)(hw:∀v∈vs,(W v).length≤100000):gs K CL [fW vs W]= .ok (.lst ((bM vs W 40 []).map vD)):=by
 have ex:∀t:List Vt,fM K CL [fW vs W,.lst (t.map vD)]= .ok (.lst ((bU vs W t).map vD)):=λt=>xT (by omega) hw;unfold gs;refine(bO rfl).trans ?_;have e0:aH kJ [fW vs W]=[some (fW vs W),none,none]:=rfl;rw[e0];unfold ja;have h0:=ex [];rw[map_nil]at h0;simp only[aM,h0,m7];refine sW (λn ρ=>∃t,ρ=[some (fW vs W),some (.lst (t.map vD)),some (.lst ((bU vs W t).map vD))]∧Turn vs W t∧vs.length≤n+t.length∧bM vs W (n+1) t=bM vs W 40 []) (λρ=>ρ=[some (fW vs W),some (.lst ((bM vs W 40 []).map vD)),some (.lst [])]) 39 (by omega) ⟨[],rfl,sP,by omega,rfl⟩ (λn ρ hZ199=>?_) (λρ' e=>?_)
 ·obtain⟨t,e,T,hn,hr⟩:=hZ199;subst e;by_cases h:bU vs W t=[]
  ·refine .inl ⟨?_,?_⟩
   ·rw[h];simp only[aM,qi];rfl
   ·rw[h];have e3:bM vs W (n+1) t=t:=by
     unfold bM;rw[Yj h]
    rw[←hr,e3];rfl
  ·have T2:=pI hv T;have l2:=bt T2.nd T2.sub;rw[length_append]at l2;have lp:=List.length_pos_iff.mpr h;cases n with
   |zero=>omega
   |succ m=>
    refine .inr ⟨?_,m,[some (fW vs W),some (.lst ((t ++ bU vs W t).map vD)),some (.lst ((bU vs W (t ++ bU vs W t)).map vD))],rfl,?_,t ++ bU vs W t,rfl,T2,by rw[length_append];omega,?_⟩
    ·cases q:bU vs W t with
     |nil=>exact absurd q h
     |cons a b=>simp only[aM,qi];rfl
    ·show (ax (qj 1 0 (nY 1) (bS fx (ab 2))) (aQ 2 (jS 1 (bq (pC (ab 0) (pC (ab 1) pN)) (fM K CL))))) _=_;have e1:qj 1 0 (nY 1) (bS fx (ab 2)) [some (fW vs W),some (.lst (t.map vD)),some (.lst ((bU vs W t).map vD))]= .nx [some (fW vs W),some (.lst ((t ++ bU vs W t).map vD)),some (.lst ((bU vs W t).map vD))]:=by
      rw[Ag (j:=1) (n:=0) (p:=[]) (t:=.lst (t.map vD)) (g:=nY 1) (rows:=t.map vD) (l:=(bU vs W t).map vD) (tI rfl) (by simp only[aM]) rfl rfl rfl (by rw[length_map,length_map];omega),map_append];rfl
     rw[cr,e1];simp only[aM,ex (t ++ bU vs W t),m7]
    ·rw[←hr]
     conv=>rhs;unfold bM
     rw[Yi h]
 ·subst e;simp only[aM]
def Dr {a:Int}{ns:Z2}:k9 (a::ns)=xa a ns:=by
 have h:=k_ (ns:=a::ns) (by simp);exact(Dq (h.2 a (mem_cons_self ..)) (λe he=>h.2 e (cN he)) (mem_cons.mp h.1)).symm
def dE (t:List Vt)(f:Vt→Int):D:=.dct (t.map fX) (t.map λv=>.int (f v))
def m8 {ts:List Tr}{t:List Vt}(T:Turn (ah ts) W t)(hl:(ah ts).length≤39)(hw:∀v∈ah ts,(W v).length≤1000):cy K CL [.lst (ts.map bj),fW (ah ts) W,.lst (t.map vD)]= .ok (dE t (gq W (fZ ts) t)):=by
 unfold cy;refine(bO rfl).trans ?_;have e0:aH dg [.lst (ts.map bj),fW (ah ts) W,.lst (t.map vD)]=[some (.lst (ts.map bj)),some (fW (ah ts) W),some (.lst (t.map vD)),none,none,none]:=rfl;rw[e0];unfold dc;simp only[aM];refine i3 (λpre ρ=>∃o4 o5,ρ=[some (.lst (ts.map bj)),some (fW (ah ts) W),some (.lst (t.map vD)),some (dE pre (gq W (fZ ts) pre)),o4,o5]) ⟨none,none,rfl⟩ (λpre v post w ρ hZ200=>?_) (λρ' hZ201=>?_)
 ·obtain⟨o4,o5,e⟩:=hZ200;subst e;have hvt:v∈t:=by rw[w];simp
  have hv:=T.sub v hvt;obtain⟨tr,ht,hs⟩:=mem_visits.mp hv;have nv:v∉pre:=λz=>by
   have nd:=T.nd;rw[w]at nd;exact(nodup_append.mp nd).2.2 v z v (mem_cons_self ..) rfl
  have hpl:pre.length≤39:=by
   have:=bt T.nd T.sub;have:=congrArg List.length w;rw[length_append]at this;omega
  have hix:=bT (g:=bj) ht;have e2:aJ (bj tr) (.int 2)= .ok (.int tr.2.2):=uP;have er:fZ ts v=tr.2.2:=by unfold fZ;rw[ht]
  have iv0:aJ (vD v) (.int 0)= .ok (.int (v.1:Int)):=fS rfl;have hg:bm (fW (ah ts) W) (vD v)= .ok (lW W v):=tG hv;refine⟨_,rfl,?_⟩;simp only[aM,iv0,hix,e2];have cg:aR (sL (ac (ab 1) (ab 4) bm)) [none,some 3] (aP 0) yes (ac (ac (ab 1) (ac (ab 0) (kI 0) aJ) bm) (ac (ab 0) (kI 1) aJ) aO) [some (.lst (ts.map bj)),some (fW (ah ts) W),some (.lst (t.map vD)),some (dE pre (gq W (fZ ts) pre)),some (vD v),some (.int tr.2.2)]= .ok (.lst ((W v).map λu=>D.int (gq W (fZ ts) pre u.1+u.2))):=by
   refine br (xs:=W v) (c:=wD) (g:=λu=>D.int (gq W (fZ ts) pre u.1+u.2)) (by simp only[aM,hg];rfl) (le_trans (hw v hv) (by decide)) (λu hu=>⟨_,rfl,?_⟩);have hp:u.1∈pre:=T.top pre v post w u hu;have hgu:bm (dE pre (gq W (fZ ts) pre)) (vD u.1)= .ok (.int (gq W (fZ ts) pre u.1)):=pX hp;show ac (ac (ab 1) (ac (ab 0) (kI 0) aJ) bm) (ac (ab 0) (kI 1) aJ) aO [some (wD u),some (dE pre (gq W (fZ ts) pre))]=_;simp only[aM,ya,EU,hgu,mN]
  have val:(jS 0 (c1 (ac (dl (pC (ab 5) pN)) (aR (sL (ac (ab 1) (ab 4) bm)) [none,some 3] (aP 0) yes (ac (ac (ab 1) (ac (ab 0) (kI 0) aJ) bm) (ac (ab 0) (kI 1) aJ) aO)) aO) qz)) [some (.lst (ts.map bj)),some (fW (ah ts) W),some (.lst (t.map vD)),some (dE pre (gq W (fZ ts) pre)),some (vD v),some (.int tr.2.2)]= .ok (.int (gq W (fZ ts) (pre ++ [v]) v)):=by
   have ea:aO (.lst [.int tr.2.2]) (.lst ((W v).map λu=>D.int (gq W (fZ ts) pre u.1+u.2)))= .ok (.lst ((tr.2.2::(W v).map λu=>gq W (fZ ts) pre u.1+u.2).map D.int)):=by
    have:=hw v hv;rw[rG (cv (by rw[length_map,length_singleton];omega)),map_cons,map_map];rfl
   simp only[aM,cg,ea,yr,Dr,iN];rw[m6];unfold B2;rw[Yj rfl,er]
  refine⟨_,l8 (ks:=pre.map fX) (l:=pre.map λv=>.int (gq W (fZ ts) pre v)) (k:=fX v) (kd:=[.int (v.1:Int),.int (v.2:Int)]) rfl val (by simp only[aM];rfl) jL (by rw[length_map];omega),some (vD v),some (.int tr.2.2),?_⟩;have ep:jP (pre.map fX) (pre.map λv=>.int (gq W (fZ ts) pre v)) (fX v) (.int (gq W (fZ ts) (pre ++ [v]) v))=dE (pre ++ [v]) (gq W (fZ ts) (pre ++ [v])):=by
   have:(pre.map λv=>D.int (gq W (fZ ts) pre v))=pre.map λx=>D.int (gq W (fZ ts) (pre ++ [v]) x):=map_congr_left λx hx=>by
    rw[m6];unfold B2;rw[Yi (λ(z:x=v)=>nv (z ▸ hx))]
   rw[this];exact qN (f:=λx=>D.int (gq W (fZ ts) (pre ++ [v]) x)) nv
  rw[ep];rfl
 ·obtain⟨o4,o5,e⟩:=hZ201;subst e;simp only[aM]
def fE (t:List Vt)(f:Vt→Int):D:=.fdc (t.map fX) (t.map λv=>.int (f v))
def zd {t:List Vt}{f:Vt→Int}{q:Q}(hl:(aK q.1).length≤1000)(h:∀s∈aK q.1,(q.2,s)∈t):gy K CL [.int (q.2:Int),bV q.1,fE t f]= .ok (aZ ((aK q.1).map λs=>f (q.2,s))):=by
 unfold gy;refine(bO rfl).trans ?_;have e0:aH jU [.int (q.2:Int),bV q.1,fE t f]=[some (.int (q.2:Int)),some (bV q.1),some (fE t f)]:=rfl;rw[e0];unfold jT;rw[kR,br (xs:=aK q.1) (c:=λ(s:Nat)=>D.int (s:Int)) (g:=λs=>D.int (f (q.2,s))) (by simp only[aM];rfl) (by omega) (λs hs=>⟨_,rfl,?_⟩)]
 ·unfold aZ;rw[map_map];rfl
 ·have hg:bm (fE t f) (vD (q.2,s))= .ok (.int (f (q.2,s))):=tG (h s hs);show ac (ab 1) (cE (pC (ab 2) (pC (ab 0) pN))) bm [some (.int (s:Int)),some (fE t f),some (.int (q.2:Int))]=_;simp only[aM];exact hg
def kE (ts:List Tr)(f:Vt→Int):Pl:=ts.zipIdx.map λq=>(aK q.1).map λs=>f (q.2,s)
def uu {ts:List Tr}{t:List Vt}{f:Vt→Int}(h5:ts.length≤5)(hl:∀q∈ts.zipIdx,(aK q.1).length≤1000)(h:∀v∈ah ts,v∈t):fv K CL [.lst (ts.map bV),fE t f]= .ok (.lst ((kE ts f).map aZ)):=by
 unfold fv;refine(bO rfl).trans ?_;have e0:aH gN [.lst (ts.map bV),fE t f]=[some (.lst (ts.map bV)),some (fE t f)]:=rfl;rw[e0];unfold gG;rw[kR,br (xs:=ts.zipIdx) (c:=λu:Q=>D.tup [.int (u.2:Int),bV u.1]) (g:=λq:Q=>aZ ((aK q.1).map λs=>f (q.2,s))) (by simp only[aM,jf]) (by rw[length_zipIdx];omega) (λq hq=>⟨_,rfl,?_⟩)]
 ·unfold kE;rw[map_map];rfl
 ·show bq (pC (ab 0) (pC (ab 1) (pC (ab 2) pN))) (gy K CL) [some (.int (q.2:Int)),some (bV q.1),some (fE t f)]=_;simp only[aM,zd (K:=K) (CL:=CL) (t:=t) (f:=f) (hl q hq) (λs hs=>h _ (mem_visits.mpr ⟨q.1,mem_zip.mp hq,hs⟩))]
def Lk (W:Vt→List (Vt×Int))(l:List Vt):Prop:=∀(i:Nat) (a b:Vt),l[i]?=some a→l[i+1]?=some b→∃u∈W a,u.1=b
def mq (vs:List Vt)(W:Vt→List (Vt×Int))(r:List Vt):Prop:=r.Nodup∧1≤r.length∧(∀v∈r,v∈vs)∧∀(k:Nat) (a b:Vt),r[k]?=some a→r[(k+1) % r.length]?=some b→∃u∈W a,u.1=b
def AL {W:Vt→List (Vt×Int)}{l:List Vt}{v:Vt}{x:Vt×Int}(h:Lk W (l ++ [v]))(hx:x∈W v):Lk W (l ++ [v] ++ [x.1]):=by
 intro i a b ha hb;have hi:i+1<(l ++ [v] ++ [x.1]).length:=(d8 hb).1;rw[length_append,length_append,length_singleton,length_singleton]at hi;by_cases e:i=l.length
 ·subst e;rw[getElem?_append_left (by rw[length_append,length_singleton];omega),getElem?_append_right (le_refl _),sub_self]at ha;rw[getElem?_append_right (by rw[length_append,length_singleton];omega),length_append,length_singleton,sub_self]at hb;cases ha;cases hb;exact⟨x,hx,rfl⟩
 ·rw[getElem?_append_left (by rw[length_append,length_singleton];omega)]at ha hb;exact h i a b ha hb
def uj {vs:List Vt}{W:Vt→List (Vt×Int)}{wl:List Vt}{v:Vt}{i:Nat}(nd:wl.Nodup)(sub:∀x∈wl,x∈vs)(h:Lk W (wl ++ [v]))(hi:wl[i]?=some v):mq vs W (wl.drop i):=by
 have hil:=(d8 hi).1;refine⟨nd.sublist (List.drop_sublist i wl),by rw[length_drop];omega,λx hx=>sub x (List.mem_of_mem_drop hx),λk a b ha hb=>?_⟩;rw[List.getElem?_drop]at ha hb;rw[length_drop]at hb;have hk:=(d8 ha).1;have ha':(wl ++ [v])[i+k]?=some a:=by rw[getElem?_append_left hk];exact ha
 refine h (i+k) a b ha' ?_;by_cases e:k+1=wl.length-i
 ·rw[e,Nat.mod_self,Nat.add_zero,hi]at hb;cases hb;rw[getElem?_append_right (by omega),show i+k+1-wl.length=0 by omega];rfl
 ·rw[Nat.mod_eq_of_lt (by omega)]at hb;rw[getElem?_append_left (by omega)];exact hb
def ES {l:List Vt}{v:Vt}(hl:l.length≤1000)(h:v∈l):∃i:Nat,jH (.lst (l.map vD)) (vD v)= .ok (.int (i:Nat))∧l[i]?=some v:=by
 unfold jH;dsimp only;rw[Yj ⟨B7,DY,cv (by rw[length_map];omega)⟩];cases q:rQ (l.map vD) (vD v) with
 |some j=>
  refine⟨j,rfl,?_⟩;unfold rQ at q;obtain⟨hj,e,_⟩:=List.findIdx?_eq_some_iff_getElem.mp q;rw[getElem_map,xC,decide_eq_true_eq]at e;rw[length_map]at hj;rw[d_ hj,e]
 |none=>
  unfold rQ at q;rw[List.findIdx?_eq_none_iff]at q;have:=q (vD v) (List.mem_map_of_mem h);rw[xC]at this;simp at this
def Ey {l:List Vt}{i:Nat}(hi:i<l.length):tF (l.map vD) (some (i:Int)) none=(l.drop i).map vD:=by
 have e1:HT.cG (l.map vD).length 0 (some (i:Int))=i:=by
  unfold HT.cG;rw[length_map];dsimp only;split <;> omega
 have e2:HT.cG (l.map vD).length (l.map vD).length none=l.length:=by
  unfold HT.cG;rw[length_map]
 unfold tF;rw[e1,e2,List.map_drop];rw[take_of_length_le (by rw[length_drop,length_map];omega)]
def AK {r:List Vt}:b_ 2 (.tup [.str s,.lst (r.map vD)])=true:=by
 show (L2.flat (.tup [.str s,.lst (r.map vD)])||(b_ 1 (.str s)&&(b_ 1 (.lst (r.map vD))&&true)))=true;rw[m7];simp[b_,L2.flat]
def wQ {t:List Vt}(hl:vs.length≤39)(hw:∀v∈vs,(W v).length≤100000)(hin:∀v∈vs,∀u∈W v,u.1∈vs)(he:bU vs W t=[])(hst:∃v∈vs,v∉t):∃r:List Vt,gw K CL [fW vs W,.lst (t.map vD)]= .ok (.lst (r.map vD))∧mq vs W r:=by
 have hk:m3 (fW vs W)= .ok (vs.map vD):=by
  show Res.ok ((vs.map fX).map oe)=_;rw[map_map];rfl
 have cg:∀o,aR (sD (ab 0)) [none,some 1] (aP 0) (ck (ac (ab 0) (ab 1) (jn true))) (ab 0) [some (fW vs W),some (.lst (t.map vD)),none,o]= .ok (.lst ((vs.filter λv=> !t.contains v).map vD)):=λo=>fq (xs:=vs) (c:=vD) (p:=λv=> !t.contains v) (g:=vD) (by show (m3 (fW vs W))=_;exact hk) (by omega) (λv s=>⟨_,rfl,by
  show ck (ac (ab 0) (ab 1) (jn true)) [some (vD v),some (.lst (t.map vD))]=_;simp only[aM,ig],λ_=>rfl⟩)
 have key:∃r:List Vt,ee (f9 K CL [some (fW vs W),some (.lst (t.map vD)),none,none])= .ok (.lst (r.map vD))∧mq vs W r:=by
  cases hf:vs.filter λv=> !t.contains v with
  |nil=>
   obtain⟨v,s,nt⟩:=hst;rw[filter_eq_nil_iff]at hf;exact absurd (by simpa using nt) (hf v s)
  |cons v0 rest=>
   have h0:v0∈vs∧v0∉t:=by
    have:v0∈vs.filter λv=> !t.contains v:=by rw[hf];exact mem_cons_self
    obtain⟨h1,h2⟩:=mem_filter.mp this;exact⟨h1,by simpa using h2⟩
   have i0:aJ (.lst ((v0::rest).map vD)) (.int 0)= .ok (vD v0):=bT (g:=vD) (i:=0) rfl;have c0:=cg none;rw[hf]at c0;unfold f9;have e1:aQ 2 (bS ce (ac (aR (sD (ab 0)) [none,some 1] (aP 0) (ck (ac (ab 0) (ab 1) (jn true))) (ab 0)) (kI 0) aJ)) [some (fW vs W),some (.lst (t.map vD)),none,none]= .nx [some (fW vs W),some (.lst (t.map vD)),some (vD v0),none]:=by
    simp only[aM,c0,i0]
   rw[cr,e1];simp only[aM];have hI:∃ρ',b8 (ck (ac (ab 2) (ab 3) (jn true))) (ax (jz 3 (bS ce (ab 2))) (aQ 2 (bS ce (ac (bq (pC (ab 0) (pC (ab 1) (pC (ab 2) pN))) (cD K CL)) (kI 0) aJ)))) 41 [some (fW vs W),some (.lst (t.map vD)),some (vD v0),some (.lst [])]= .nx ρ'∧(λρ:DS=>∃(v:Vt) (C:List Vt),ρ=[some (fW vs W),some (.lst (t.map vD)),some (vD v),some (.lst (C.map vD))]∧C.length≤39∧v∈C∧C.Nodup∧(∀x∈C,x∈vs)∧Lk W (C ++ [v])) ρ':=by
    refine iC (λ(n:Nat) (ρ:DS)=>∃(C:List Vt) (v:Vt),ρ=[some (fW vs W),some (.lst (t.map vD)),some (vD v),some (.lst (C.map vD))]∧C.Nodup∧(∀x∈C,x∈vs)∧(v∈vs∧v∉t)∧vs.length≤n+C.length∧Lk W (C ++ [v])) (λρ:DS=>∃(v:Vt) (C:List Vt),ρ=[some (fW vs W),some (.lst (t.map vD)),some (vD v),some (.lst (C.map vD))]∧C.length≤39∧v∈C∧C.Nodup∧(∀x∈C,x∈vs)∧Lk W (C ++ [v])) (λn ρ hZ202=>?_) 40 41 _ (by omega) ⟨[],v0,rfl,nodup_nil,λx h=>by (cases h),h0,by omega,λi a b _ hb=>by simp at hb⟩;obtain⟨C,v,e,nd,X,s,hn,lk⟩:=hZ202;subst e;have lw:=bt nd X;by_cases E:v∈C
    ·exact .inl ⟨by simp only[aM,ig,contains_iff_mem.mpr E],v,C,rfl,by omega,E,nd,X,lk⟩
    ·have nd2:(C ++ [v]).Nodup:=nodup_append.mpr ⟨nd,by simp,λa ha b hb e=>by
      rw[mem_singleton.mp hb]at e;subst e;exact E ha⟩
     have sub2:∀x∈C ++ [v],x∈vs:=λx hx=>by
      rcases mem_append.mp hx with z|z
      ·exact X x z
      ·rw[mem_singleton.mp z];exact s.1
     have l2:=bt nd2 sub2;rw[length_append,length_singleton]at l2;have hc:C.contains v=false:=by simpa using E
     obtain⟨u,hu,hut⟩:=ut he s.1 s.2;cases hq:(W v).filter λu=> !t.contains u.1 with
     |nil=>
      rw[filter_eq_nil_iff]at hq;exact absurd (by simpa using hut) (hq u hu)
     |cons x xs=>
      have hx:x∈(W v).filter λu=> !t.contains u.1:=by rw[hq];exact mem_cons_self
      obtain⟨hx1,hx2⟩:=mem_filter.mp hx;have hh:=oP (K:=K) (CL:=CL) (t:=t) s.1 (hw v s.1);rw[hq]at hh;have i0:aJ (.lst ((x::xs).map λu=>vD u.1)) (.int 0)= .ok (vD x.1):=bT (g:=λu:Vt×Int=>vD u.1) (i:=0) rfl;cases n with
      |zero=>omega
      |succ m=>
       refine .inr ⟨by simp only[aM,ig,hc],m,[some (fW vs W),some (.lst (t.map vD)),some (vD x.1),some (.lst ((C ++ [v]).map vD))],rfl,?_,C ++ [v],x.1,rfl,nd2,sub2,⟨hin v s.1 x hx1,by simpa using hx2⟩,by rw[length_append,length_singleton];omega,AL lk hx1⟩;have e1:jz 3 (bS ce (ab 2)) [some (fW vs W),some (.lst (t.map vD)),some (vD v),some (.lst (C.map vD))]= .nx [some (fW vs W),some (.lst (t.map vD)),some (vD v),some (.lst ((C ++ [v]).map vD))]:=by
        rw[qd (l:=C.map vD) (d:=vD v) rfl (by simp only[aM]) (by rw[length_map];omega),map_append];rfl
       rw[cr,e1];simp only[aM,hh,i0]
   obtain⟨ρ',e,v,C,eρ,hwl,E,nd,X,lk⟩:=hI;rw[e,bp];subst eρ;obtain⟨i,hi,hat⟩:=ES (by omega:C.length≤1000) E;have hr:=Ey (l:=C) (d8 hat).1;generalize er:C.drop i=r at hr;have hsl:fG (some (i:Int)) none (.lst (C.map vD))= .ok (.lst (r.map vD)):=by
    show Res.ok (D.lst (tF (C.map vD) (some (i:Int)) none))=_;rw[hr]
   have hls:AM (.lst (r.map vD))= .ok (.lst (r.map vD)):=rfl;refine⟨r,?_,er ▸ uj nd X lk hat⟩;simp only[aM,Gg,hi,hsl,hls,m7]
 obtain⟨r,hr,hring⟩:=key;refine⟨r,?_,hring⟩;unfold gw;exact(bO rfl).trans hr
def i6 (rs:Z2)(g:Int)(ts:List Tr)(O:Zr):List Vt:=bM (ah ts) (cW rs g ts O) 40 []
def yi (rs:Z2)(g:Int)(ts:List Tr)(O:Zr):Option Pl:=if (i6 rs g ts O).length<(ah ts).length then none else some (kE ts (gq (cW rs g ts O) (fZ ts) (i6 rs g ts O)))
def mm {rs:Z2}{g:Int}{ts:List Tr}(C:Ctx rs g ts):(ah ts).length≤39:=by
 have h5:∀q∈ts.zipIdx,(aK q.1).length≤5:=λq hq=>by
  have:=dB (C.good hq);have:=C.ln.few;omega
 have:=i9 (qs:=ts.zipIdx) h5;rw[length_zipIdx]at this;have e:dS ts.zipIdx=ah ts:=rfl;rw[e]at this;have:=C.few;omega
def vC {rs:Z2}{g:Int}{ts:List Tr}{O:Zr}(C:Ctx rs g ts):Turn (ah ts) (cW rs g ts O) (i6 rs g ts O)∧bU (ah ts) (cW rs g ts O) (i6 rs g ts O)=[]:=oQ bx 40 [] sP (by have:=mm C;rw[length_nil];omega)
def uU {t vs:List Vt}(nd:vs.Nodup)(h:¬t.length<vs.length)(nt:t.Nodup)(sub:∀v∈t,v∈vs):∀v∈vs,v∈t:=λv hv=>by
 apply Classical.byContradiction;intro z;have:=bt (t:=v::t) (vs:=vs) (nodup_cons.mpr ⟨z,nt⟩) λx hx=>by
  rcases mem_cons.mp hx with e|e
  ·rw[e];exact hv
  ·exact sub x e
 rw[length_cons]at this;omega
def jq {rs:Z2}{g:Int}{ts:List Tr}{O:Zr}(C:Ctx rs g ts)(H:Ords rs.length ts O) :(yi rs g ts O=none∧∃r:List Vt,mq (ah ts) (cW rs g ts O) r∧bi K CL [ba CL rs g,.lst (ts.map bj),aF O]= .ok (.tup [.str (Str.ofString "ring"),.lst (r.map vD)]))∨
  ∃T,yi rs g ts O=some T∧bi K CL [ba CL rs g,.lst (ts.map bj),aF O]= .ok (.tup [.str (Str.ofString "table"),.lst (T.map aZ)]):=by
 have hn5:=C.ln.few;have ht5:=C.few;have h5:∀q∈ts.zipIdx,(aK q.1).length≤5:=λq hq=>by
  have:=dB (C.good hq);omega
 have hvl:=mm C;have hwl:∀v∈ah ts,(cW rs g ts O v).length≤1000:=λv hv=>by
  obtain⟨t,ht,hs⟩:=mem_visits.mp hv;have hlt:=iB (C.tr t (mem_of_getElem? ht)) _ hs;rw[←uF hv (by rw[H.len];exact hlt)];have h1:=l7 (rs:=rs) (qs:=ts.zipIdx) h5;have h2:=qb (rs:=rs) (g:=g) (os:=O.zipIdx) λo ho=>by
   have hz:=mem_zip.mp ho;have hs:o.2<rs.length:=by rw[←H.len];exact(d8 hz).1
   have:=qD H hs;have e1:O.getD o.2 []=o.1:=by rw[getD_eq_getElem?_getD,hz];rfl
   rw[e1]at this;omega
  have h3:=q_ (E:=uK rs ts.zipIdx ++ zL rs g O.zipIdx) (v:=v);rw[length_append]at h3;rw[length_zipIdx]at h1 h2;rw[H.len]at h2;omega
 have hwl':∀v∈ah ts,(cW rs g ts O v).length≤100000:=λv hv=>le_trans (hwl v hv) (by decide);have ht:=x6 (K:=K) (CL:=CL) (W:=cW rs g ts O) bx hvl hwl';obtain⟨T,hf⟩:=vC (O:=O) C;unfold i6 at T hf;have hwo:=uy (K:=K) (CL:=CL) C H;have fz1:AD (dW (ah ts) (cW rs g ts O))= .ok (fW (ah ts) (cW rs g ts O)):=rfl;have hlk:qy [fW (ah ts) (cW rs g ts O)]= .ok (.int ((ah ts).length:Int)):=by
  show Res.ok (D.int (((ah ts).map fX).length:Int))=_;rw[length_map]
 have hwy:k8 K CL [ba CL rs g,.lst (ts.map bj)]= .ok (.lst (ts.map bV)):=BM C.tr (by omega) C.one C.few;have e0:aH fP [ba CL rs g,.lst (ts.map bj),aF O]=[some (ba CL rs g),some (.lst (ts.map bj)),some (aF O),none,none,none]:=rfl;unfold yi i6;by_cases F:(bM (ah ts) (cW rs g ts O) 40 []).length<(ah ts).length
 ·have hst:∃v∈ah ts,v∉bM (ah ts) (cW rs g ts O) 40 []:=by
   apply Classical.byContradiction;intro z;have:=bt (t:=ah ts) (vs:=bM (ah ts) (cW rs g ts O) 40 []) bx λv hv=>by
    apply Classical.byContradiction;intro y;exact z ⟨v,hv,y⟩
   omega
  obtain⟨r,hr,hring⟩:=wQ (K:=K) (CL:=CL) hvl hwl' (λv hv u hu=>(qV C H v hv u hu).2) hf hst;refine .inl ⟨Yj F,r,hring,?_⟩;have hlen':((bM (ah ts) (cW rs g ts O) 40 []).length:Int)<((ah ts).length:Int):=by omega
  unfold bi;refine(bO rfl).trans ?_;rw[e0];unfold cI;have lfr:b_ 2 (.tup [.str (Str.ofString "ring"),.lst (r.map vD)])=true:=AK;have ls0:b_ 0 (.str (Str.ofString "ring"))=true:=rfl;simp only[aM,FD,hwy,hwo,fz1,ht,hlk,cC,hr,Zk hlen',lfr,ls0]
 ·have full:=uU bx F T.nd T.sub;refine .inr ⟨_,Yi F,?_⟩;have hlen':¬((bM (ah ts) (cW rs g ts O) 40 []).length:Int)<((ah ts).length:Int):=by omega
  have hle:=m8 (K:=K) (CL:=CL) T hvl hwl;have hto:=uu (K:=K) (CL:=CL) (f:=gq (cW rs g ts O) (fZ ts) (bM (ah ts) (cW rs g ts O) 40 [])) ht5 (λq hq=>by have:=h5 q hq;omega) full;have fz2:AD (dE (bM (ah ts) (cW rs g ts O) 40 []) (gq (cW rs g ts O) (fZ ts) (bM (ah ts) (cW rs g ts O) 40 [])))= .ok (fE (bM (ah ts) (cW rs g ts O) 40 []) (gq (cW rs g ts O) (fZ ts) (bM (ah ts) (cW rs g ts O) 40 []))):=rfl;unfold bi;refine(bO rfl).trans ?_;rw[e0];unfold cI;simp only[aM,FD,hwy,hwo,fz1,ht,hlk,cC,hle,fz2,hto,Zh hlen',show b_ 0 (.str (Str.ofString "table"))=true from rfl,show b_ 1 (.str (Str.ofString "table"))=true from rfl]
end
set_option maxHeartbeats 1000000
def uc {α:Type}:∀{l:List α} {i:Nat} {x:α},l[i]?=some x→(x::l.eraseIdx i).Perm l:=by
 intro l
 induction l with
 |nil=>intro i x h;simp at h
 |cons y l ih=>
  intro i x h;cases i with
  |zero=>cases h;exact .refl _
  |succ i=>exact(List.Perm.swap y x _).trans ((ih h).cons y)
def vV {α β:Type}{f:α→β}:∀{l:List α} {i:Nat},(l.map f).eraseIdx i=(l.eraseIdx i).map f:=by
 intro l
 induction l with
 |nil=>intro i;rfl
 |cons y l ih=>
  intro i;cases i with
  |zero=>rfl
  |succ i=>exact congrArg (f y::·) ih
def yw {α:Type}[DecidableEq α]:∀{l t:List α},t.Nodup→(∀x∈t,x∈l)→l.length≤t.length→l.Nodup:=by
 intro l
 induction l with
 |nil=>intro t _ _ _;exact nodup_nil
 |cons y l ih=>
  intro t nd sub hl;rw[length_cons]at hl;have sub2:∀x∈t.erase y,x∈l:=λx hx=>by
   have hm:=List.mem_of_mem_erase hx
   rcases mem_cons.mp (sub x hm) with e|e
   ·subst e;exact absurd hx (List.Nodup.not_mem_erase nd)
   ·exact e
  have nd2:=nd.erase y;have len:=bt nd2 sub2;have len2:=List.length_erase (a:=y) (l:=t);split at len2
  ·refine nodup_cons.mpr ⟨λhy=>?_,ih nd2 sub2 (by omega)⟩;have:=bt nd λx hx=>by
    rcases mem_cons.mp (sub x hx) with e|e
    ·rw[e];exact hy
    ·exact e
   omega
  ·omega
def om (ts:List Tr)(s k:Nat):Bool:=decide (s∈aK (ts.getD k (0,0,0)))
def yy {ts:List Tr}{s k:Nat}(hk:k<ts.length):om ts s k=true↔(k,s)∈ah ts:=by
 unfold om;rw[decide_eq_true_iff,mem_visits];constructor
 ·exact λh=>⟨_,eO hk,h⟩
 ·intro hZ46;obtain⟨t,ht,h⟩:=hZ46;rw[eO (d:=(0,0,0)) hk]at ht;cases ht;exact h
def u9 {n:Nat}{ts:List Tr}{O:Zr}(hl:O.length=n)(h:∀s,s<n→∃row:List Nat,row.Perm (List.range ts.length)∧(O.getD s []).Perm (row.filter (om ts s))):Ords n ts O:=by
 refine⟨hl,λs=>?_,λs k hs=>?_⟩
 ·by_cases hs:s<n
  ·obtain⟨row,p1,p2⟩:=h s hs;exact p2.nodup_iff.mpr ((p1.nodup_iff.mpr nodup_range).filter _)
  ·rw[getD_eq_getElem?_getD,getElem?_eq_none (by omega)];exact nodup_nil
 ·obtain⟨row,p1,p2⟩:=h s hs;rw[p2.mem_iff,mem_filter,p1.mem_iff,mem_range];constructor
  ·exact λz=>(yy z.1).mp z.2
  ·intro z;obtain⟨t,ht,_⟩:=mem_visits.mp z;have hk:=(d8 ht).1;exact⟨hk,(yy hk).mpr z⟩
section
variable{K:Z8}{CL:Zz}{n:Nat}{ts:List Tr}
def B4 (hg:∀t∈ts,Good n t)(hn:n≤1000){s k:Nat}(hk:k<ts.length):ck (ac (ab 1) (bq (pC (ac (ab 2) (ab 0) aJ) pN) (aL K CL)) (jn false)) [some (.int (k:Int)),some (.int (s:Int)),some (.lst (ts.map bj))]= .ok (om ts s k):=by
 have hx:=eO (d:=((0,0,0):Tr)) hk;have hix:=bT (g:=bj) hx;have hw:=gn (K:=K) (CL:=CL) (hg _ (mem_of_getElem? hx)) hn;simp only[aM,hix,hw,Gw];rfl
def zF (hg:∀t∈ts,Good n t)(hn:n≤1000)(ht:ts.length≤5):cc K CL [.int (n:Int),.lst (ts.map bj)]= .ok (.lst ((List.range n).map λs=>.lst (am ((List.range ts.length).filter (om ts s))))):=by
 unfold cc;refine(bO rfl).trans ?_;have e0:aH eK [.int (n:Int),.lst (ts.map bj)]=[some (.int (n:Int)),some (.lst (ts.map bj))]:=rfl;rw[e0];unfold eE;rw[kR,br (xs:=List.range n) (c:=λ(s:Nat)=>D.int (s:Int)) (g:=λs=>.lst (am ((List.range ts.length).filter (om ts s)))) (by simp only[aM,cm (show n<1000000 by omega)]) (by rw[length_range];omega) (λs hs=>⟨_,rfl,?_⟩)]
 ·rfl
 ·show aR (sR1 (pC (c1 (ab 1) aY) pN)) [none,some 0,some 1] (aP 0) (ck (ac (ab 1) (bq (pC (ac (ab 2) (ab 0) aJ) pN) (aL K CL)) (jn false))) (ab 0) [some (.int (s:Int)),some (.lst (ts.map bj))]=_;exact fq (xs:=List.range ts.length) (c:=λ(k:Nat)=>D.int (k:Int)) (p:=om ts s) (g:=λ(k:Nat)=>D.int (k:Int)) (by simp only[aM,cC,cm (show ts.length<1000000 by omega)]) (by rw[length_range];omega) (λk hk=>⟨_,rfl,B4 hg hn (mem_range.mp hk),λ_=>rfl⟩)
def vW {j i:Nat}{ρ:DS}{fi:Z7}{l r:Zy}{m:Nat}{x:D}(h1:ρ[j]?=some (some (.lst l)))(h2:ρ[i]?=some (some (.lst r)))(hf:fi ρ= .ok (.int (m:Int)))(hx:r[m]?=some x)(hl:l.length≤1000)(hr:r.length≤1000):gU j i fi ρ= .nx ((ρ.set i (some (.lst (r.eraseIdx m)))).set j (some (.lst (l ++ [x])))):=by
 unfold gU;rw[h1,h2];dsimp only;rw[bN hf];unfold nC;dsimp only;rw[uZ (d8 hx).1];dsimp only;rw[hx];exact Yj ⟨cv (by omega),cv (by omega)⟩
abbrev rO (ns rs:Z2)(base g:Int)(ts:List Tr)(O:Zr)(o7 o8 o9:Y0):DS:=[some (.scr ns),some (.int base),some (.lst (rs.map D.int)),some (.int g),some (.lst (ts.map bj)),some (.int 0),some (aF O),o7,o8,o9,none]
def zc {ns rs:Z2}{base g:Int}{O:Zr}(h0:0≤base)(h1:base<1000){s:Nat}(hs:s<5)(ht:ts.length≤5){L:Z0}(hL:L.length≤5) :
  ∃ρ',b8 (ck (ac (c1 (ab 8) aY) (kI 0) AG)) (gU 9 8 (bq (pC (ab 0) (pC (ac (ac (ac (ab 1) (kI 1) aO) (ac (kI 6) (ab 7) fy) aO) (c1 (ab 9) aY) aO) (pC (c1 (ab 8) aY) pN))) (ar K CL))) 6 (rO ns rs base g ts O (some (.int (s:Int))) (some (.lst (am L))) (some (.lst [])))= .nx ρ'∧∃row:List Nat,row.Perm L∧ρ'=rO ns rs base g ts O (some (.int (s:Int))) (some (.lst [])) (some (.lst (am row))):=by
 refine iC (λm ρ=>∃l r:List Nat,ρ=rO ns rs base g ts O (some (.int (s:Int))) (some (.lst (am l))) (some (.lst (am r)))∧(r ++ l).Perm L∧l.length=m) (λρ=>∃row:List Nat,row.Perm L∧ρ=rO ns rs base g ts O (some (.int (s:Int))) (some (.lst [])) (some (.lst (am row)))) (λm ρ hZ203=>?_) L.length 6 _ (by omega) ⟨L,[],rfl,.refl _,rfl⟩;obtain⟨l,r,e,hp,hm⟩:=hZ203;subst e;have hlen:=hp.length_eq;rw[length_append]at hlen;have e1:aY [.lst (am l)]= .ok (.int (l.length:Int)):=cC;have e2:aY [.lst (am r)]= .ok (.int (r.length:Int)):=cC;cases l with
 |nil=>
  refine .inl ⟨?_,r,by rw[append_nil]at hp;exact hp,rfl⟩;simp only[aM,e1];rfl
 |cons y l=>
  have hl1:(y::l).length=l.length+1:=rfl;cases m with
  |zero=>omega
  |succ m=>
   have db:=eN (ns:=ns) (k:=base+1+6*(s:Int)+(r.length:Int)) (many:=((y::l).length:Int)) (by omega);obtain⟨d,hd⟩:∃d:Nat,drawn ns (base+1+6*(s:Int)+(r.length:Int)) ((y::l).length:Int)=(d:Int):=⟨(drawn ns (base+1+6*(s:Int)+(r.length:Int)) ((y::l).length:Int)).toNat,by omega⟩;have hdr:=cJ (K:=K) (CL:=CL) (ns:=ns) (k:=base+1+6*(s:Int)+(r.length:Int)) (many:=((y::l).length:Int)) (by omega) (by omega) (by omega) (by omega);rw[hd]at hdr db;have hdl:d<(y::l).length:=by omega
   have hx:=d_ hdl;have hgt:((y::l).length:Int)>0:=by omega
   refine .inr ⟨by simp only[aM,e1,Zk hgt],m,rO ns rs base g ts O (some (.int (s:Int))) (some (.lst (am ((y::l).eraseIdx d)))) (some (.lst (am (r ++ [(y::l)[d]])))),rfl,?_,(y::l).eraseIdx d,r ++ [(y::l)[d]],rfl,?_,?_⟩
   ·rw[vW (l:=am r) (r:=am (y::l)) (m:=d) (x:=.int (((y::l)[d]:Nat):Int)) rfl rfl ?_ (by unfold am;rw[getElem?_map,hx];rfl) (by unfold am;rw[length_map];omega) (by unfold am;rw[length_map];omega)]
    ·have q1:(am (y::l)).eraseIdx d=am ((y::l).eraseIdx d):=by unfold am;exact vV
     have q2:am r ++ [.int (((y::l)[d]:Nat):Int)]=am (r ++ [(y::l)[d]]):=by unfold am;rw[map_append];rfl
     rw[q1,q2];rfl
    ·simp (disch:=omega) only[aM,jZ,e1,e2,hdr]
   ·have:=(uc hx).append_left r;rw[append_assoc];exact this.trans hp
   ·have:=List.length_eraseIdx_of_lt hdl;omega
def wG {ns rs:Z2}{base g:Int}(h0:0≤base)(h1:base<1000)(hg:∀t∈ts,Good rs.length t)(hn:rs.length≤5)(ht:ts.length≤5)(hm:drawn ns base 3=0):∃O,Ords rs.length ts O∧a_ K CL [.scr ns,.int base,.lst (rs.map D.int),.int g,.lst (ts.map bj)]= .ok (aF O):=by
 have d1:=cJ (K:=K) (CL:=CL) (ns:=ns) (k:=base) (many:=3) (by omega) (by omega) (by omega) (by omega);rw[hm]at d1;have hu:=zF (K:=K) (CL:=CL) hg (by omega) ht;have hlr:aY [.lst (rs.map D.int)]= .ok (.int (rs.length:Int)):=cC;have loop:=iS (asg:=aP 7) (F:=(ax (aQ 8 (bS aC (bq (ye (ac (bq (pC (c1 (ab 2) aY) (pC (ab 4) pN)) (cc K CL)) (ab 7) aJ)) cq)))
  (ax (aQ 9 (bS aC (dl pN)))
  (ax (b8 (ck (ac (c1 (ab 8) aY) (kI 0) AG)) (gU 9 8 (bq (pC (ab 0) (pC (ac (ac (ac (ab 1) (kI 1) aO) (ac (kI 6) (ab 7) fy) aO) (c1 (ab 9) aY) aO) (pC (c1 (ab 8) aY) pN))) (ar K CL))) 6)
  (mw 6 9))))) (st:=λpre ρ=>∃O o7 y o9,ρ=rO ns rs base g ts O o7 y o9∧O.length=pre.length∧∀s,s<O.length→(O.getD s []).Perm ((List.range ts.length).filter (om ts s))) (c:=λ(s:Nat)=>D.int (s:Int)) (List.range rs.length) [] (rO ns rs base g ts [] none none none) ⟨[],none,none,none,rfl,rfl,λs h=>by cases h⟩ (λpre s post ex ρ ⟨O,o7,y,o9,e,hl,hO⟩=>?_)
 ·obtain⟨ρ',e,O,o7,y,o9,eρ,hl,hO⟩:=loop;rw[nil_append,length_range]at hl;refine⟨O,u9 hl λs hs=>⟨_,.refl _,hO s (by omega)⟩,?_⟩;unfold a_;refine(bO rfl).trans ?_;have e0:aH a8 [.scr ns,.int base,.lst (rs.map D.int),.int g,.lst (ts.map bj)]=[some (.scr ns),some (.int base),some (.lst (rs.map D.int)),some (.int g),some (.lst (ts.map bj)),none,none,none,none,none,none]:=rfl;rw[e0];unfold bY;simp only[aM,d1,hlr,cm (show rs.length<1000000 by omega)];have er:[some (D.scr ns),some (.int base),some (.lst (rs.map D.int)),some (.int g),some (.lst (ts.map bj)),some (.int 0),some (.lst []),none,none,none,none]=rO ns rs base g ts [] none none none:=rfl;rw[er];rw[e,eρ];rfl
 ·subst e;rw[nil_append]at ex;have hps:pre.length=s:=by
   have h2:(List.range rs.length)[pre.length]?=(pre ++ s::post)[pre.length]?:=by rw[ex]
   rw[getElem?_append_right (le_refl _),sub_self]at h2;have h3:=d8 (show (List.range rs.length)[pre.length]?=some s from h2);obtain⟨_,h4⟩:=h3;rw[getElem_range]at h4;exact h4
  have hsn:s<rs.length:=by
   have:=congrArg List.length ex;rw[length_range,length_append,length_cons]at this;omega
  have hix:aJ (.lst ((List.range rs.length).map λs=>D.lst (am ((List.range ts.length).filter (om ts s))))) (.int (s:Int))= .ok (.lst (am ((List.range ts.length).filter (om ts s)))):=bT (g:=λs=>D.lst (am ((List.range ts.length).filter (om ts s)))) (by rw[List.getElem?_range hsn]);have hll:((List.range ts.length).filter (om ts s)).length≤5:=by
   have:=List.length_filter_le (om ts s) (List.range ts.length);rw[length_range]at this;omega
  obtain⟨ρ2,ew,P,hp,e2⟩:=zc (K:=K) (CL:=CL) (ns:=ns) (rs:=rs) (base:=base) (g:=g) (O:=O) h0 h1 (s:=s) (by omega) ht hll;subst e2;refine⟨_,rfl,rO ns rs base g ts (O ++ [P]) (some (.int (s:Int))) (some (.lst [])) none,?_,O ++ [P],_,_,_,rfl,by rw[length_append,length_append,hl];rfl,λs' hs'=>?_⟩
  ·have hld:∀l:List D,cq [.lst l]= .ok (.lst l):=λ_=>rfl;have er:(rO ns rs base g ts O o7 y o9).set 7 (some (.int (s:Int)))=rO ns rs base g ts O (some (.int (s:Int))) y o9:=rfl;rw[er];have e8:aQ 8 (bS aC (bq (ye (ac (bq (pC (c1 (ab 2) aY) (pC (ab 4) pN)) (cc K CL)) (ab 7) aJ)) cq)) (rO ns rs base g ts O (some (.int (s:Int))) y o9)= .nx (rO ns rs base g ts O (some (.int (s:Int))) (some (.lst (am ((List.range ts.length).filter (om ts s))))) o9):=by
    simp only[aM,ye,hlr,hu,hix,hld]
   have e9:∀y,aQ 9 (bS aC (dl pN)) (rO ns rs base g ts O (some (.int (s:Int))) y o9)= .nx (rO ns rs base g ts O (some (.int (s:Int))) y (some (.lst []))):=λy=>by simp only[aM]
   rw[cr,e8,bp,cr,e9,bp,cr,ew,bp];unfold mw;show (if aG (O.map λo=>D.lst (am o)).length=true then _ else _)=_
   rw[Yj (cv (by rw[length_map,hl,hps];omega))];have:(O.map λo=>D.lst (am o)) ++ [.lst (am P)]=(O ++ [P]).map λo=>D.lst (am o):=by rw[map_append];rfl
   rw[this];rfl
  ·rw[length_append,length_singleton]at hs';rw[getD_eq_getElem?_getD];by_cases h:s'<O.length
   ·rw[getElem?_append_left h,←getD_eq_getElem?_getD];exact hO s' h
   ·have:s'=s:=by omega
    subst this;rw[getElem?_append_right (by omega)];have:s' - O.length=0:=by omega
    rw[this];exact hp
def wH {ns rs:Z2}{base g m:Int}(h0:0≤base)(h1:base<1000)(hg:∀t∈ts,Good rs.length t)(hn:rs.length≤5)(ht:ts.length≤5)(hm:drawn ns base 3=m)(hm1:m=1∨m=2):∃O,Ords rs.length ts O∧a_ K CL [.scr ns,.int base,.lst (rs.map D.int),.int g,.lst (ts.map bj)]= .ok (aF O):=by
 have d1:=cJ (K:=K) (CL:=CL) (ns:=ns) (k:=base) (many:=3) (by omega) (by omega) (by omega) (by omega);rw[hm]at d1;have hlr:aY [.lst (rs.map D.int)]= .ok (.int (rs.length:Int)):=cC;have hlt:aY [.lst (ts.map bj)]= .ok (.int (ts.length:Int)):=cC
 -- the ranks,as they are put first and as they are sorted
 let g1:Q→D:=λq=>.tup [.int (q.1.2.2*(m-1)),.int (q.2:Int)]
 let A:Nat→Int:=λk=>(ts.getD k (0,0,0)).2.2*(m-1)+drawn ns (base+40+(k:Int)) 9
 let L:List (List Int):=(List.range ts.length).map λk=>[A k,(k:Int)]
 obtain⟨l,hs,hl,hmem⟩:=wU L (by show ((List.range ts.length).map _).length≤5;rw[length_map,length_range];exact ht) (λt h=>by
  obtain⟨k,_,e⟩:=mem_map.mp h;rw[←e];exact List.cons_ne_nil _ _)
 have hl5:l.length=ts.length:=by rw[hl];show ((List.range ts.length).map _).length=_;rw[length_map,length_range]
 let P:List Nat:=l.map λt=>(t.getD 1 0).toNat
 have htup:∀t∈l,∃k,k<ts.length∧t=[A k,(k:Int)]:=λt h=>by
  obtain⟨k,I,e⟩:=mem_map.mp ((hmem t).mp h);exact⟨k,mem_range.mp I,e.symm⟩
 have S:∀k,k∈P↔k∈List.range ts.length:=λk=>by
  constructor
  ·intro h;obtain⟨t,h1,h2⟩:=mem_map.mp h;obtain⟨k',I,e⟩:=htup t h1;subst e;have h2:(k':Int).toNat=k:=h2;rw[toNat_natCast]at h2;rw[←h2];exact mem_range.mpr I
  ·intro h;exact mem_map.mpr ⟨[A k,(k:Int)],(hmem _).mpr (mem_map.mpr ⟨k,h,rfl⟩),toNat_natCast k⟩
 have hnd:P.Nodup:=yw nodup_range (λk I=>(S k).mpr I) (by show (l.map _).length≤_;rw[length_map,length_range,hl5];exact le_refl _);have hperm:P.Perm (List.range ts.length):=(List.perm_ext_iff_of_nodup hnd nodup_range).mpr S;have hrl:P.length=ts.length:=by show (l.map _).length=_;rw[length_map,hl5]
 refine⟨(List.range rs.length).map λs=>P.filter (om ts s),u9 (by rw[length_map,length_range]) λs hs=>⟨P,hperm,?_⟩,?_⟩
 ·rw[getD_eq_getElem?_getD,getElem?_map,List.getElem?_range hs];exact .refl _
 unfold a_;refine(bO rfl).trans ?_;have e0:aH a8 [.scr ns,.int base,.lst (rs.map D.int),.int g,.lst (ts.map bj)]=[some (.scr ns),some (.int base),some (.lst (rs.map D.int)),some (.int g),some (.lst (ts.map bj)),none,none,none,none,none,none]:=rfl;rw[e0];unfold bY;have hne:(m==0)=false:=beq_eq_false_iff_ne.mpr (by omega);have c1':aR (sE (pC (ab 4) pN)) [none,none,some 5] (gW 0 1) yes (cE (pC (ac (ac (ab 1) (kI 2) aJ) (ac (ab 2) (kI 1) lX) fy) (pC (ab 0) pN))) [some (.scr ns),some (.int base),some (.lst (rs.map D.int)),some (.int g),some (.lst (ts.map bj)),some (.int m),none,none,none,none,none]= .ok (.lst (ts.zipIdx.map g1)):=by
  refine br (xs:=ts.zipIdx) (c:=λq:Q=>D.tup [.int (q.2:Int),bj q.1]) (g:=g1) (by simp only[aM,jf]) (by rw[length_zipIdx];omega) (λq hq=>⟨_,rfl,?_⟩);have e2:aJ (bj q.1) (.int 2)= .ok (.int q.1.2.2):=uP;show cE (pC (ac (ac (ab 1) (kI 2) aJ) (ac (ab 2) (kI 1) lX) fy) (pC (ab 0) pN)) [some (.int (q.2:Int)),some (bj q.1),some (.int m)]=_;simp (disch:=omega) only[aM,e2,j0];rfl
 have c2':aR (sR1 (pC (c1 (ab 4) aY) pN)) [none,some 0,some 10,some 1] (aP 0) yes (cE (pC (ac (ac (ac (ab 2) (ab 0) aJ) (kI 0) aJ) (bq (pC (ab 1) (pC (ac (ac (ab 3) (kI 40) aO) (ab 0) aO) (pC (kI 9) pN))) (ar K CL)) aO) (pC (ab 0) pN))) [some (.scr ns),some (.int base),some (.lst (rs.map D.int)),some (.int g),some (.lst (ts.map bj)),some (.int m),none,none,none,none,some (.lst (ts.zipIdx.map g1))]= .ok (.lst (L.map λt=>.tup (t.map D.int))):=by
  have eL:(L.map λt=>D.tup (t.map D.int))=(List.range ts.length).map λ(k:Nat)=>D.tup [.int (A k),.int (k:Int)]:=by show ((List.range ts.length).map _).map _=_;rw[map_map];rfl
  rw[eL];refine br (xs:=List.range ts.length) (c:=λ(k:Nat)=>D.int (k:Int)) (g:=λ(k:Nat)=>D.tup [.int (A k),.int (k:Int)]) (by simp only[aM,hlt,cm (show ts.length<1000000 by omega)]) (by rw[length_range];omega) (λk I=>⟨_,rfl,?_⟩);have I:=mem_range.mp I;have hz:ts.zipIdx[k]?=some (ts.getD k (0,0,0),k):=by rw[List.getElem?_zipIdx,eO (d:=(0,0,0)) I];simp
  have hix:aJ (.lst (ts.zipIdx.map g1)) (.int (k:Int))= .ok (g1 (ts.getD k (0,0,0),k)):=bT (g:=g1) hz;have hi0:aJ (g1 (ts.getD k (0,0,0),k)) (.int 0)= .ok (.int ((ts.getD k (0,0,0)).2.2*(m-1))):=fS rfl;have hdr:=cJ (K:=K) (CL:=CL) (ns:=ns) (k:=base+40+(k:Int)) (many:=9) (by omega) (by omega) (by omega) (by omega);show cE (pC (ac (ac (ac (ab 2) (ab 0) aJ) (kI 0) aJ) (bq (pC (ab 1) (pC (ac (ac (ab 3) (kI 40) aO) (ab 0) aO) (pC (kI 9) pN))) (ar K CL)) aO) (pC (ab 0) pN)) [some (.int (k:Int)),some (.scr ns),some (.lst (ts.zipIdx.map g1)),some (.int base)]=_;simp only[aM,hix,hi0,hdr];rfl
 have c3':aR (sL (c1 (ab 10) iA)) [none] (aP 0) yes (ac (ab 0) (kI 1) aJ) [some (.scr ns),some (.int base),some (.lst (rs.map D.int)),some (.int g),some (.lst (ts.map bj)),some (.int m),none,none,none,none,some (.lst (L.map λt=>.tup (t.map D.int)))]= .ok (.lst (am P)):=by
  have er:am P=l.map λt=>D.int ((t.getD 1 0).toNat:Int):=by unfold am;show (l.map _).map _=_;rw[map_map];rfl
  rw[er];refine br (xs:=l) (c:=λt=>D.tup (t.map D.int)) (g:=λt=>D.int ((t.getD 1 0).toNat:Int)) (by simp only[aM,hs]) (by omega) (λt h=>⟨_,rfl,?_⟩);obtain⟨k,I,e⟩:=htup t h;subst e;show ac (ab 0) (kI 1) aJ [some (.tup [.int (A k),.int (k:Int)])]=_;have hi1:aJ (.tup [.int (A k),.int (k:Int)]) (.int 1)= .ok (.int (k:Int)):=fS rfl;simp only[aM,hi1];show _=Res.ok (D.int (((k:Int).toNat:Nat):Int));rw[toNat_natCast]
 have c4':aR (sR1 (pC (c1 (ab 2) aY) pN)) [none,some 9,some 4] (aP 0) yes (aR (sL (ab 1)) [none,some 0,some 2] (aP 0) (ck (ac (ab 1) (bq (pC (ac (ab 2) (ab 0) aJ) pN) (aL K CL)) (jn false))) (ab 0)) [some (.scr ns),some (.int base),some (.lst (rs.map D.int)),some (.int g),some (.lst (ts.map bj)),some (.int m),none,none,none,some (.lst (am P)),some (.lst (L.map λt=>.tup (t.map D.int)))]= .ok (aF ((List.range rs.length).map λs=>P.filter (om ts s))):=by
  have eR:aF ((List.range rs.length).map λs=>P.filter (om ts s))=D.lst ((List.range rs.length).map λs=>D.lst (am (P.filter (om ts s)))):=by unfold aF;rw[map_map];rfl
  rw[eR];refine br (xs:=List.range rs.length) (c:=λ(k:Nat)=>D.int (k:Int)) (g:=λs=>D.lst (am (P.filter (om ts s)))) (by simp only[aM,hlr,cm (show rs.length<1000000 by omega)]) (by rw[length_range];omega) (λs _=>⟨_,rfl,?_⟩);show aR (sL (ab 1)) [none,some 0,some 2] (aP 0) (ck (ac (ab 1) (bq (pC (ac (ab 2) (ab 0) aJ) pN) (aL K CL)) (jn false))) (ab 0) [some (.int (s:Int)),some (.lst (am P)),some (.lst (ts.map bj))]=_;exact fq (xs:=P) (c:=λ(k:Nat)=>D.int (k:Int)) (p:=om ts s) (g:=λ(k:Nat)=>D.int (k:Int)) rfl (by omega) (λk I=>⟨_,rfl,B4 hg (by omega) (mem_range.mp ((S k).mp I)),λ_=>rfl⟩)
 have lf:b_ 2 (aF ((List.range rs.length).map λs=>P.filter (om ts s)))=true:=k7 λ_ _=>k7 λ_ _=>iN;simp only[aM,d1,hne,c1',c2',c3',c4',lf]
def sd {ns rs:Z2}{base g:Int}(h0:0≤base)(h1:base<1000)(hg:∀t∈ts,Good rs.length t)(hn:rs.length≤5)(ht:ts.length≤5):∃O,Ords rs.length ts O∧a_ K CL [.scr ns,.int base,.lst (rs.map D.int),.int g,.lst (ts.map bj)]= .ok (aF O):=by
 have b:=eN (ns:=ns) (k:=base) (many:=3) (by omega);by_cases hm:drawn ns base 3=0
 ·exact wG h0 h1 hg hn ht hm
 ·exact wH h0 h1 hg hn ht rfl (by omega)
end
set_option maxHeartbeats 4000000
section
variable{K:Z8}{CL:Zz}{rs:Z2}{g:Int}{ts:List Tr}{O:List (List Nat)}
def iv0 {v:Vt}:aJ (vD v) (.int 0)= .ok (.int (v.1:Int)):=fS rfl
def ET {v:Vt}:aJ (vD v) (.int 1)= .ok (.int (v.2:Int)):=fS rfl
def Ea {s:Nat}(h:s<rs.length):aJ (.lst (rs.map D.int)) (.int (s:Int))= .ok (.int (rs.getD s 0)):=bT (g:=D.int) (eO h)
end
set_option maxHeartbeats 4000000
section
abbrev Eg:=Vt×Vt×Int
def lN (f:Vt→Int)(e:Eg)(x:Vt):Int:=if f e.1<f e.2.1+e.2.2 then (if x=e.1 then f e.2.1+e.2.2 else f x) else f x
def rx (es:List Eg)(f:Vt→Int):Vt→Int:=es.foldl lN f
def tR:List Eg→(Vt→Int)→Bool
 | [],_=>false
 |e::es,f=>decide (f e.1<f e.2.1+e.2.2)||tR es (lN f e)
def mi {e:Eg}{es:List Eg}{f:Vt→Int}:rx (e::es) f=rx es (lN f e):=rfl
def Eb {es fs:List Eg}{f:Vt→Int}:rx (es ++ fs) f=rx fs (rx es f):=List.foldl_append ..
theorem zy:∀{es fs:List Eg} {f:Vt→Int},tR (es ++ fs) f=(tR es f||tR fs (rx es f))
 | [],fs,f=>by show tR fs f=(false||tR fs f);rw[Bool.false_or]
 |e::es,fs,f=>by
  show (decide _||tR (es ++ fs) (lN f e))=((decide _||tR es (lN f e))||tR fs (rx es (lN f e)));rw[zy (es:=es),Bool.or_assoc]
def zi {f:Vt→Int}{e:Eg}{x:Vt}:f x≤lN f e x:=by
 unfold lN;split
 ·rename_i h;by_cases hx:x=e.1
  ·rw[Yj hx,hx];omega
  ·rw[Yi hx];exact Int.le_refl _
 ·exact Int.le_refl _
def zh {f:Vt→Int}{e:Eg}:f e.2.1+e.2.2≤lN f e e.1:=by
 unfold lN;split
 ·rw[Yj rfl];exact Int.le_refl _
 ·rename_i h;omega
theorem pk:∀{es:List Eg} {f:Vt→Int} {x:Vt},f x≤rx es f x
 | [],_,_=>Int.le_refl _
 |e::es,f,x=>by rw[mi];exact Int.le_trans zi pk
theorem vz:∀{es:List Eg} {f:Vt→Int} {e:Eg},e∈es→f e.2.1+e.2.2≤rx es f e.1
 |d::es,f,e,h=>by
  rw[mi]
  rcases mem_cons.mp h with z|z
  ·subst z;exact Int.le_trans zh pk
  ·exact Int.le_trans (Int.add_le_add_right zi _) (vz z)
theorem B9 {vs:List Vt}{τ:Vt→Int}:∀{es:List Eg} {f:Vt→Int},(∀e∈es,e.2.1∈vs∧τ e.2.1+e.2.2≤τ e.1)→(∀x∈vs,f x≤τ x)→∀x∈vs,rx es f x≤τ x
 | [],_,_,h=>h
 |e::es,f,he,h=>by
  rw[mi];refine B9 (λd hd=>he d (cN hd)) λx hx=>?_;obtain⟨h1,h2⟩:=he e (mem_cons_self ..);have h3:=h _ h1;unfold lN;split
  ·by_cases z:x=e.1
   ·rw[Yj z,z];omega
   ·rw[Yi z];exact h x hx
  ·exact h x hx
theorem kC:∀{es:List Eg} {f:Vt→Int},tR es f=false→rx es f=f∧∀e∈es,f e.2.1+e.2.2≤f e.1
 | [],_,_=>⟨rfl,λe h=>by cases h⟩
 |e::es,f,h=>by
  have h':(decide (f e.1<f e.2.1+e.2.2)||tR es (lN f e))=false:=h;rw[Bool.or_eq_false_iff,decide_eq_false_iff_not]at h';have e1:lN f e=f:=by funext x;unfold lN;exact Yi h'.1
  rw[e1]at h';obtain⟨a,b⟩:=kC h'.2;refine⟨by rw[mi,e1];exact a,λd hd=>?_⟩
  rcases mem_cons.mp hd with z|z
  ·rw[z];omega
  ·exact b d z
theorem zA:∀{es:List Eg} {f:Vt→Int},(∀e∈es,f e.2.1+e.2.2≤f e.1)→tR es f=false
 | [],_,_=>rfl
 |e::es,f,h=>by
  have h0:=h e (mem_cons_self ..);have hn:¬f e.1<f e.2.1+e.2.2:=by omega
  have e1:lN f e=f:=by funext x;unfold lN;exact Yi hn
  show (decide _||tR es (lN f e))=false;rw[e1,Zh hn,zA λd hd=>h d (cN hd)];rfl
structure Fix (vs:List Vt)(es:List Eg)(f0 F:Vt→Int)(L:List Vt):Prop where
 all:∀v∈vs,v∈L
 sub:∀v∈L,v∈vs
 src:∀e∈es,e.1∈vs∧e.2.1∈vs
 sol:∀e∈es,F e.2.1+e.2.2≤F e.1
 low:∀v∈vs,f0 v≤F v
 due:∀a v b,L=a ++ v::b→F v=f0 v∨∃e∈es,e.1=v∧e.2.1∈a∧F v=F e.2.1+e.2.2
structure Up (vs:List Vt)(f0 F:Vt→Int)(L:List Vt)(j:Nat)(f:Vt→Int):Prop where
 lo:∀v∈vs,f0 v≤f v
 hi:∀v∈vs,f v≤F v
 fin:∀v∈L.take j,f v=F v
variable{vs L:List Vt}{es:List Eg}{f0 F:Vt→Int}
def nP {α:Type}{L:List α}{j:Nat}{v:α}(h:v∈L.take (j+1)):v∈L.take j∨∃b,L=L.take j ++ v::b:=by
 by_cases hj:j<L.length
 ·rw[List.take_succ_eq_append_getElem hj]at h
  rcases mem_append.mp h with z|z
  ·exact .inl z
  ·refine .inr ⟨L.drop (j+1),?_⟩;rw[mem_singleton.mp z]
   conv=>lhs;rw[←List.take_append_drop j L,List.drop_eq_getElem_cons hj]
 ·rw[take_of_length_le (by omega)]at h;exact .inl (by rw[take_of_length_le (by omega)];exact h)
def Fix.step (X:Fix vs es f0 F L){j:Nat}{f:Vt→Int}(U:Up vs f0 F L j f):Up vs f0 F L (j+1) (rx es f):=by
 have hi:∀v∈vs,rx es f v≤F v:=B9 (λe he=>⟨(X.src e he).2,X.sol e he⟩) U.hi;refine⟨λv hv=>Int.le_trans (U.lo v hv) pk,hi,λv hv=>?_⟩;have hvv:v∈vs:=X.sub v (List.mem_of_mem_take hv);refine Int.le_antisymm (hi v hvv) ?_
 rcases nP hv with z|⟨b,e⟩
 ·rw[←U.fin v z];exact pk
 ·rcases X.due _ v b e with z|⟨d,hd,e1,e2,e3⟩
  ·rw[z];exact Int.le_trans (U.lo v hvv) pk
  ·rw[e3,←U.fin _ e2,←e1];exact vz hd
def Fix.zero (X:Fix vs es f0 F L):Up vs f0 F L 0 f0:=⟨λv _=>Int.le_refl _,X.low,λv h=>by simp at h⟩
def Fix.full (X:Fix vs es f0 F L){j:Nat}{f:Vt→Int}(U:Up vs f0 F L j f)(hj:L.length≤j):tR es f=false:=by
 have e:∀v∈vs,f v=F v:=λv hv=>U.fin v (by rw[take_of_length_le hj];exact X.all v hv);refine zA λd hd=>?_;rw[e _ (X.src d hd).1,e _ (X.src d hd).2];exact X.sol d hd
def Fix.done (X:Fix vs es f0 F L){f:Vt→Int}(lo:∀v∈vs,f0 v≤f v)(hi:∀v∈vs,f v≤F v)(h:tR es f=false):∀v∈vs,f v=F v:=by
 have hs:=(kC h).2;have key:∀j,∀v∈L.take j,f v=F v:=by
  intro j
  induction j with
  |zero=>intro v hv;simp at hv
  |succ j ih=>
   intro v hv;have hvv:v∈vs:=X.sub v (List.mem_of_mem_take hv)
   rcases nP hv with z|⟨b,e⟩
   ·exact ih v z
   ·refine Int.le_antisymm (hi v hvv) ?_
    rcases X.due _ v b e with z|⟨d,hd,e1,e2,e3⟩
    ·rw[z];exact lo v hvv
    ·rw[e3,←ih _ e2,←e1];exact hs d hd
 intro v hv;exact key L.length v (by rw[take_length];exact X.all v hv)
variable{W:Vt→List (Vt×Int)}{ready:Vt→Int}{t:List Vt}
def eL (W:Vt→List (Vt×Int))(xs:List Vt):List Eg:=xs.flatMap λv=>(W v).map λu=>(v,u.1,u.2)
def mem_eL {xs:List Vt}{e:Eg}:e∈eL W xs↔e.1∈xs∧(e.2.1,e.2.2)∈W e.1:=by
 unfold eL;rw[mem_flatMap];constructor
 ·intro hZ47;obtain⟨v,hv,h⟩:=hZ47;obtain⟨u,hu,rfl⟩:=mem_map.mp h;exact⟨hv,hu⟩
 ·intro hZ48;obtain⟨h1,h2⟩:=hZ48;exact⟨e.1,h1,mem_map.mpr ⟨_,h2,rfl⟩⟩
def v_ (T:Turn vs W t)(full:∀v∈vs,v∈t)(hW:∀v∈vs,∀u∈W v,u.1∈vs):Fix vs (eL W vs) ready (gq W ready t) t where
 all:=full
 sub:=T.sub
 src:=λe he=>⟨(mem_eL.mp he).1,hW _ (mem_eL.mp he).1 _ (mem_eL.mp he).2⟩
 sol:=λe he=>Dm T (full _ (mem_eL.mp he).1) (mem_eL.mp he).2
 low:=λv hv=>Dl T (full v hv)
 due:=λa v b e=>by
  have hv:v∈t:=by rw[e];simp
  rcases wv (ready:=ready) T hv with z|⟨u,hu,z⟩
  ·exact .inl z
  ·exact .inr ⟨(v,u.1,u.2),mem_eL.mpr ⟨T.sub v hv,hu⟩,rfl,T.top a v b e u hu,z⟩
end
set_option maxHeartbeats 4000000
section
variable{K:Z8}{CL:Zz}{rs:Z2}{g:Int}{ts:List Tr}{O:List (List Nat)}
def su {β:Type}{f:Nat→β}{x:Nat}{l:Y8}(h:∀u∈l,u.2≠x):(l.filterMap λu=>if u.2=x then some (f u.1) else none)=[]:=by
 rw[filterMap_eq_nil_iff];intro u hu;rw[Yi (h u hu)]
def zM {β:Type}(l:Z0)(f:Nat→β):Nat→List β
 |0=>[]
 |j+1=>(l[j]?).toList.map f
theorem yV {β:Type}{f:Nat→β}:∀{l:Z0} {i x:Nat},l.Nodup→l[i]?=some x→((l.zip l.tail).filterMap λu=>if u.2=x then some (f u.1) else none)=zM l f i
 | [],i,x,_,h=>by simp at h
 | [a],i,x,_,h=>by
  cases i with
  |zero=>rfl
  |succ i=>simp at h
 |a::b::r,i,x,nd,h=>by
  have nd2:=(nodup_cons.mp nd).2;have na:=(nodup_cons.mp nd).1;have nb:=(nodup_cons.mp nd2).1;have e:(a::b::r).zip (a::b::r).tail=(a,b)::(b::r).zip (b::r).tail:=rfl;rw[e];have tl:∀u∈(b::r).zip (b::r).tail,u.2∈r:=λu hu=>(of_mem_zip hu).2;cases i with
  |zero=>
   have hx:x=a:=(Option.some.inj h).symm;subst hx;refine su λu hu=>?_
   rcases mem_cons.mp hu with z|z
   ·rw[z];exact λe=>na (by simp[show x=b from e.symm])
   ·exact λe=>na (cN (by rw[←e];exact tl u z))
  |succ i=>
   cases i with
   |zero=>
    have hx:x=b:=(Option.some.inj h).symm;subst hx;rw[filterMap_cons,Yj rfl];dsimp only;rw[su λu hu e=>nb (by rw[←e];exact tl u hu)];rfl
   |succ j=>
    have hx:(b::r)[j+1]?=some x:=h;have xr:x∈r:=mem_of_getElem? (i:=j) hx;rw[filterMap_cons,Yi (λe=>nb (by rw[show b=x from e];exact xr))];dsimp only;rw[yV nd2 hx];rfl
def Fz (C:Ctx rs g ts)(H:Ords rs.length ts O){v:Vt}(hv:v∈ah ts){u:Vt×Int}(hu:u∈cW rs g ts O v):u.2=if u.1.1=v.1 then rs.getD u.1.2 0 else rs.getD u.1.2 0+g:=by
 obtain⟨t,ht,hs⟩:=mem_visits.mp hv
 rcases mem_append.mp hu with h|h
 ·obtain⟨a,_,rfl⟩:=(tY ht).mp h;rw[Yj rfl]
 ·obtain⟨a,ha,rfl⟩:=mem_wO.mp h;have nd:=H.nd v.2;have hne:a≠v.1:=λz=>by
   rw[z]at ha;obtain⟨i,hi,e⟩:=List.getElem_of_mem ha;rw[List.getElem_zip]at e;rw[length_zip,List.length_tail]at hi;have e1:=congrArg Prod.fst e;have e2:=congrArg Prod.snd e;dsimp only at e1 e2;rw[List.getElem_tail]at e2;have:=(getElem_inj nd).mp (e1.trans e2.symm);omega
  rw[Yi hne]
abbrev rV (ts:List Tr)(O:Zr)(v:Vt)(t:Tr)(i:Nat)(o5 o6 o7:Y0):DS:=[some (.lst (ts.map bj)),some (aF O),some (vD v),some (.lst (am (aK t))),some (.int (i:Int)),o5,o6,o7]
def lD (C:Ctx rs g ts)(H:Ords rs.length ts O){v:Vt}(hv:v∈ah ts):bv K CL [.lst (ts.map bj),aF O,vD v]= .ok (.lst ((cW rs g ts O v).map λu=>vD u.1)):=by
 have hn5:=C.ln.few;have ht5:=C.few;obtain⟨t,ht,hs⟩:=mem_visits.mp hv;have htr:=C.tr t (mem_of_getElem? ht);have hlt:=iB htr _ hs;have y2:aJ (.lst (ts.map bj)) (.int (v.1:Int))= .ok (bj t):=bT ht;have y3:=gn (K:=K) (CL:=CL) htr (show rs.length≤1000 by omega);obtain⟨i,hi,ei⟩:=ER (w:=aK t) (s:=v.2) (by have:=dB htr;omega) hs;have hO:O[v.2]?=some (O.getD v.2 []):=eO (by rw[H.len];exact hlt);have y4:aJ (aF O) (.int (v.2:Int))= .ok (.lst (am (O.getD v.2 []))):=bT (g:=λo=>D.lst (am o)) hO;have hk:v.1∈O.getD v.2 []:=(H.mem v.2 v.1 hlt).mpr hv;obtain⟨j,hj,ej⟩:=ER (w:=O.getD v.2 []) (s:=v.1) (by have:=qD H hlt;omega) hk;have eW:cW rs g ts O v=zM (aK t) (λa=>((v.1,a),rs.getD a 0)) i ++ zM (O.getD v.2 []) (λa=>((a,v.2),rs.getD v.2 0+g)) j:=by
  unfold cW wP wO;rw[ht];dsimp only;rw[yV (f:=λa=>((v.1,a),rs.getD a 0)) fH hi,yV (f:=λa=>((a,v.2),rs.getD v.2 0+g)) (H.nd v.2) hj]
 have eM:(cW rs g ts O v).map (λu=>vD u.1)=zM (aK t) (λa=>vD (v.1,a)) i ++ zM (O.getD v.2 []) (λa=>vD (a,v.2)) j:=by
  rw[eW,map_append];congr 1
  ·cases i with
   |zero=>rfl
   |succ i=>unfold zM;rw[map_map];rfl
  ·cases j with
   |zero=>rfl
   |succ j=>unfold zM;rw[map_map];rfl
 rw[eM];have e0:aH gJ [.lst (ts.map bj),aF O,vD v]=[some (.lst (ts.map bj)),some (aF O),some (vD v),none,none,none,none,none]:=rfl;unfold bv;refine(bO rfl).trans ?_;rw[e0];unfold eF;refine cH [some (.lst (ts.map bj)),some (aF O),some (vD v),some (.lst (am (aK t))),none,none,none,none] (by simp only[aM,iv0,y2,y3]) ?_;refine cH (rV ts O v t i none none none) (by simp only[aM,ET,ei]) ?_;refine cH (rV ts O v t i (some (.lst [])) none none) (by simp only[aM]) ?_;generalize hA:zM (aK t) (λa=>vD (v.1,a)) i=A;have s1:fL (ck (ac (ab 4) (kI 0) AG)) (jz 5 (bS bb (cE (pC (ac (ab 2) (kI 0) aJ) (pC (ac (ab 3) (ac (ab 4) (kI 1) lX) aJ) pN))))) nxt (rV ts O v t i (some (.lst [])) none none)= .nx (rV ts O v t i (some (.lst A)) none none)∧A.length≤1:=by
  cases i with
  |zero=>
   have hA':A=[]:=hA.symm;have q:decide (((0:Nat):Int)>0)=false:=by decide
   refine⟨?_,by rw[hA'];decide⟩;rw[hA'];simp only[aM,q]
  |succ i=>
   have hi1:i+1<(aK t).length:=(d8 hi).1;have hp:(aK t)[i]?=some (aK t)[i]:=d_ (by omega);have hA':A=[vD (v.1,(aK t)[i])]:=by
    rw[←hA];show ((aK t)[i]?).toList.map _=_;rw[hp];rfl
   have q:decide (((i+1:Nat):Int)>0)=true:=Zk (by omega);have x1:aJ (.lst (am (aK t))) (.int (((i+1:Nat):Int)-1))= .ok (.int ((aK t)[i]:Int)):=by
    rw[show ((i+1:Nat):Int)-1=(i:Int) by omega];exact u4 hp
   refine⟨?_,by rw[hA'];show 1≤1;decide⟩;simp only[aM,q];rw[hA'];exact qd (l:=[]) (d:=vD (v.1,(aK t)[i])) rfl (by simp only[aM,iv0,x1];rfl) (by decide)
 obtain⟨s1,lA⟩:=s1;refine cH _ s1 ?_;refine cH (rV ts O v t i (some (.lst A)) (some (.lst (am (O.getD v.2 [])))) none) (by simp only[aM,ET,y4]) ?_;refine cH (rV ts O v t i (some (.lst A)) (some (.lst (am (O.getD v.2 [])))) (some (.int (j:Nat)))) (by simp only[aM,iv0,ej]) ?_;generalize O.getD v.2 []=row at hj;cases j with
 |zero=>
  have q:decide (((0:Nat):Int)>0)=false:=by decide
  have hB:zM row (λa=>vD (a,v.2)) 0=[]:=rfl;rw[hB,append_nil];simp only[aM,q]
 |succ j=>
  have hj1:j+1<row.length:=(d8 hj).1;have hp:row[j]?=some row[j]:=d_ (by omega);have q:decide (((j+1:Nat):Int)>0)=true:=Zk (by omega);have x1:aJ (.lst (am row)) (.int (((j+1:Nat):Int)-1))= .ok (.int (row[j]:Int)):=by
   rw[show ((j+1:Nat):Int)-1=(j:Int) by omega];exact u4 hp
  have hB:zM row (λa=>vD (a,v.2)) (j+1)=[vD (row[j],v.2)]:=by
   show (row[j]?).toList.map _=_;rw[hp];rfl
  rw[hB];have ap:jz 5 (bS bb (cE (pC (ac (ab 6) (ac (ab 7) (kI 1) lX) aJ) (pC (ac (ab 2) (kI 1) aJ) pN)))) (rV ts O v t i (some (.lst A)) (some (.lst (am row))) (some (.int ((j+1:Nat):Int))))= .nx (rV ts O v t i (some (.lst (A ++ [vD (row[j],v.2)]))) (some (.lst (am row))) (some (.int ((j+1:Nat):Int)))):=
   qd (l:=A) (d:=vD (row[j],v.2)) rfl (by simp only[aM,ET,x1];rfl) (by omega)
  simp only[aM,q,ap]
def Bn {f:Vt→Int}{vs:List Vt}{v:Vt}{n:Int}(nd:vs.Nodup)(h:v∈vs):jP (vs.map fX) (vs.map λx=>D.int (f x)) (fX v) (.int n)=dE vs (λx=>if x=v then n else f x):=by
 obtain⟨m,e,hm⟩:=oV h;unfold jP;rw[e];dsimp only;unfold dE;congr 1;apply ext_getElem?;intro i;rw[getElem?_set,length_map];have hml:m<vs.length:=(d8 hm).1;by_cases hi:m=i
 ·subst hi;rw[Yj rfl,Yj hml,getElem?_map,hm];show some (D.int n)=some (D.int (if v=v then n else f v))
  rw[Yj rfl]
 ·rw[Yi hi,getElem?_map,getElem?_map];cases q:vs[i]? with
  |none=>rfl
  |some x=>
   have hx:x≠v:=λz=>hi ((List.getElem?_inj hml nd).mp (hm.trans (by rw[←z];exact q.symm)));show some (D.int (f x))=some (D.int (if x=v then n else f x))
   rw[Yi hx]
end
set_option maxHeartbeats 4000000
def uT {asg:Zb}{F:Zi}{x:D}{xs:Zy}{ρ ρ1:DS}{d:D}(h:asg x ρ=some ρ1)(h2:F ρ1= .rt d):ci asg F (x::xs) ρ= .rt d:=by
 unfold ci;rw[h];dsimp only;rw[h2]
def hZ {asg:Zb}{F:Zi}{x:D}{xs:Zy}{ρ ρ1 ρ2:DS}(h:asg x ρ=some ρ1)(h2:F ρ1= .nx ρ2):ci asg F (x::xs) ρ=ci asg F xs ρ2:=by
 conv=>lhs;unfold ci
 rw[h];dsimp only;rw[h2]
def vx {α:Type}{l:List α}:((List.range l.length).map λ(i:Nat)=>D.int (i:Int))=l.zipIdx.map λq:α×Nat=>D.int (q.2:Int):=by
 apply ext_getElem
 ·simp
 ·intro i h1 h2;simp
section
variable{K:Z8}{CL:Zz}{rs:Z2}{g:Int}{ts:List Tr}{O:List (List Nat)}
def AI {vs:List Vt}{f:Vt→Int}:dJ [dE vs f]= .ok (.lst (vs.map vD)):=by
 show Res.ok (D.lst ((vs.map fX).map oe))=_;rw[map_map];rfl
def pH {f h:Vt→Int}(e:∀v∈ah ts,f v=h v):kE ts f=kE ts h:=by
 unfold kE;refine map_congr_left λq hq=>map_congr_left λs hs=>e _ (mem_visits.mpr ⟨q.1,mem_zip.mp hq,hs⟩)
def zB {p:Pl}:b_ 2 (.lst (p.map aZ))=true:=by
 unfold b_;rw[all_eq_true];intro d hd;obtain⟨r,_,rfl⟩:=mem_map.mp hd;exact ze
abbrev FU (K:Z8)(CL:Zz):DS→Res D:=aR (sL (bq (pC (ac (ab 2) (ab 0) aJ) pN) (aL K CL))) [none,some 1,some 0] (aP 0) yes (ac (ab 1) (cE (pC (ab 2) (pC (ab 0) pN))) bm)
def Fx (C:Ctx rs g ts){f:Vt→Int}{q:Q}(hq:q∈ts.zipIdx):FU K CL [some (.int (q.2:Int)),some (dE (ah ts) f),some (.lst (ts.map bj))]= .ok (aZ ((aK q.1).map λs=>f (q.2,s))):=by
 have hn5:=C.ln.few;have hg:=C.good hq;have y2:aJ (.lst (ts.map bj)) (.int (q.2:Int))= .ok (bj q.1):=bT (mem_zip.mp hq);have y3:=gn (K:=K) (CL:=CL) hg (show rs.length≤1000 by omega);have hw:=dB hg;show aR _ _ _ _ _ _=_;rw[br (xs:=aK q.1) (c:=λ(s:Nat)=>D.int (s:Int)) (g:=λs=>D.int (f (q.2,s))) (by simp only[aM,y2,y3];rfl) (by omega) (λs hs=>⟨_,rfl,?_⟩)]
 ·unfold aZ;rw[map_map];rfl
 ·have gx:bm (dE (ah ts) f) (vD (q.2,s))= .ok (.int (f (q.2,s))):=pX (mem_visits.mpr ⟨q.1,mem_zip.mp hq,hs⟩);show ac (ab 1) (cE (pC (ab 2) (pC (ab 0) pN))) bm [some (.int (s:Int)),some (dE (ah ts) f),some (.int (q.2:Int))]=_;have gx':bm (dE (ah ts) f) (.tup [.int (q.2:Int),.int (s:Int)])= .ok (.int (f (q.2,s))):=gx;simp only[aM,gx']
abbrev rL (rs:Z2)(g:Int)(ts:List Tr)(O:Zr)(f:Vt→Int)(o5 o6 o7:Y0)(b:Bool)(o9 o10 o11:Y0):DS:=[some (.lst (rs.map D.int)),some (.int g),some (.lst (ts.map bj)),some (aF O),some (dE (ah ts) f),o5,o6,o7,some (.bl b),o9,o10,o11]
abbrev FQ:DS→Out:=ax (aQ 11 (jS 0 (ac (ac (ab 4) (ab 10) bm) (ac (ab 0) (ac (ab 10) (kI 1) aJ) aJ) aO))) (ax (fL (ck (ac (ac (ab 10) (kI 0) aJ) (ac (ab 9) (kI 0) aJ) lK)) (aQ 11 (bS aw (ac (ab 11) (ab 1) aO))) nxt) (fL (ck (ac (ac (ab 4) (ab 9) bm) (ab 11) ym)) (ax (fK 4 (ab 9) (bS aw (ab 11))) (aQ 8 (bS aw (kB true)))) nxt))
def zJ (C:Ctx rs g ts){v:Vt}(hv:v∈ah ts):v.2<rs.length:=by
 obtain⟨t,ht,hs⟩:=mem_visits.mp hv;exact iB (C.tr t (mem_of_getElem? ht)) _ hs
def F4 (C:Ctx rs g ts)(H:Ords rs.length ts O){v:Vt}(hv:v∈ah ts){u:Vt×Int}(hu:u∈cW rs g ts O v){f:Vt→Int}{o5 o6 o7 o11:Y0}{b:Bool} :
  FQ (rL rs g ts O f o5 o6 o7 b (some (vD v)) (some (vD u.1)) o11)= .nx (rL rs g ts O (lN f (v,u.1,u.2)) o5 o6 o7 (b||decide (f v<f u.1+u.2)) (some (vD v)) (some (vD u.1)) (some (.int (f u.1+u.2)))):=by
 have hu1:=(qV C H v hv u hu).2;have gu:bm (dE (ah ts) f) (vD u.1)= .ok (.int (f u.1)):=pX hu1;have gv:bm (dE (ah ts) f) (vD v)= .ok (.int (f v)):=pX hv;have ru:=Ea (zJ C hu1);have s1:aQ 11 (jS 0 (ac (ac (ab 4) (ab 10) bm) (ac (ab 0) (ac (ab 10) (kI 1) aJ) aJ) aO)) (rL rs g ts O f o5 o6 o7 b (some (vD v)) (some (vD u.1)) o11)= .nx (rL rs g ts O f o5 o6 o7 b (some (vD v)) (some (vD u.1)) (some (.int (f u.1+rs.getD u.1.2 0)))):=by simp only[aM,gu,ET,ru,iN]
 have s2:fL (ck (ac (ac (ab 10) (kI 0) aJ) (ac (ab 9) (kI 0) aJ) lK)) (aQ 11 (bS aw (ac (ab 11) (ab 1) aO))) nxt (rL rs g ts O f o5 o6 o7 b (some (vD v)) (some (vD u.1)) (some (.int (f u.1+rs.getD u.1.2 0))))= .nx (rL rs g ts O f o5 o6 o7 b (some (vD v)) (some (vD u.1)) (some (.int (f u.1+u.2)))):=by
  have hw:=Fz C H hv hu;by_cases h:u.1.1=v.1
  ·rw[Yj h]at hw;have q:((u.1.1:Int)==(v.1:Int))=true:=by rw[h];exact beq_self_eq_true _
   simp only[aM,iv0,q];rw[hw]
  ·rw[Yi h]at hw;have q:((u.1.1:Int)==(v.1:Int))=false:=by rw[beq_eq_false_iff_ne];omega
   simp only[aM,iv0,q];rw[hw,Int.add_assoc]
 have s3:fL (ck (ac (ac (ab 4) (ab 9) bm) (ab 11) ym)) (ax (fK 4 (ab 9) (bS aw (ab 11))) (aQ 8 (bS aw (kB true)))) nxt (rL rs g ts O f o5 o6 o7 b (some (vD v)) (some (vD u.1)) (some (.int (f u.1+u.2))))= .nx (rL rs g ts O (lN f (v,u.1,u.2)) o5 o6 o7 (b||decide (f v<f u.1+u.2)) (some (vD v)) (some (vD u.1)) (some (.int (f u.1+u.2)))):=by
  by_cases h:f v<f u.1+u.2
  ·have e1:lN f (v,u.1,u.2)=λx=>if x=v then f u.1+u.2 else f x:=by funext x;unfold lN;dsimp only;rw[Yj h]
   have ds:fK 4 (ab 9) (bS aw (ab 11)) (rL rs g ts O f o5 o6 o7 b (some (vD v)) (some (vD u.1)) (some (.int (f u.1+u.2))))= .nx (rL rs g ts O (lN f (v,u.1,u.2)) o5 o6 o7 b (some (vD v)) (some (vD u.1)) (some (.int (f u.1+u.2)))):=by
    have hvl:=mm C;refine(l8 (ks:=(ah ts).map fX) (l:=(ah ts).map λx=>.int (f x)) (k:=fX v) (d:=.int (f u.1+u.2)) (kd:=[.int (v.1:Int),.int (v.2:Int)]) rfl (by simp only[aM]) (by simp only[aM];rfl) jL (by rw[length_map];omega)).trans ?_;rw[Bn bx hv,←e1];rfl
   simp only[aM,gv,Zk h,ds,Bool.or_true]
  ·have e1:lN f (v,u.1,u.2)=f:=by funext x;unfold lN;dsimp only;rw[Yi h]
   rw[e1];simp only[aM,gv,Zh h,Bool.or_false]
 show ax _ (ax _ _) _=_;rw[cr,s1,bp,cr,s2,bp,s3]
theorem yj {c:Nat}{B:Zi}{st:(Vt→Int)→Bool→Option D→Option D→DS}{ed:Vt×Int→Eg}(ha:∀h b o p d,aP c d (st h b o p)=some (st h b (some d) p)):∀(us:List (Vt×Int)),(∀u∈us,∀h b p,∃q,B (st h b (some (vD u.1)) p)= .nx (st (lN h (ed u)) (b||decide (h (ed u).1<h (ed u).2.1+(ed u).2.2)) (some (vD u.1)) q))→∀h b o p,∃o' p',ci (aP c) B (us.map λu=>vD u.1) (st h b o p)= .nx (st (rx (us.map ed) h) (b||tR (us.map ed) h) o' p')
 | [],_,h,b,o,p=>⟨o,p,by show Out.nx _=_;rw[show tR ([].map ed) h=false from rfl,Bool.or_false];rfl⟩
 |u::us,k,h,b,o,p=>by
  obtain⟨q,l1⟩:=k u (mem_cons_self ..) h b p;obtain⟨o',p',e⟩:=yj ha us (λd hd=>k d (cN hd)) (lN h (ed u)) (b||decide (h (ed u).1<h (ed u).2.1+(ed u).2.2)) (some (vD u.1)) q;refine⟨o',p',(hZ (ha h b o p (vD u.1)) l1).trans ?_⟩;rw[e,Bool.or_assoc];rfl
theorem u6 {c:Nat}{B:Zi}{W:Vt→List (Vt×Int)}{st:(Vt→Int)→Bool→Option D→Option D→Option D→DS}{ed:Vt→Vt×Int→Eg}(ha:∀h b o p q d,aP c d (st h b o p q)=some (st h b (some d) p q)):∀(xs:List Vt),(∀v∈xs,∀h b p q,∃p' q',B (st h b (some (vD v)) p q)= .nx (st (rx ((W v).map (ed v)) h) (b||tR ((W v).map (ed v)) h) (some (vD v)) p' q'))→∀h b o p q,∃o' p' q',ci (aP c) B (xs.map vD) (st h b o p q)= .nx (st (rx (xs.flatMap λv=>(W v).map (ed v)) h) (b||tR (xs.flatMap λv=>(W v).map (ed v)) h) o' p' q')
 | [],_,h,b,o,p,q=>⟨o,p,q,by show Out.nx _=_;rw[show tR ([].flatMap λv=>(W v).map (ed v)) h=false from rfl,Bool.or_false];rfl⟩
 |v::xs,k,h,b,o,p,q=>by
  obtain⟨p1,q1,l1⟩:=k v (mem_cons_self ..) h b p q;obtain⟨o',p',q',e⟩:=u6 ha xs (λd hd=>k d (cN hd)) (rx ((W v).map (ed v)) h) (b||tR ((W v).map (ed v)) h) (some (vD v)) p1 q1;refine⟨o',p',q',(hZ (ha h b o p q (vD v)) l1).trans ?_⟩;rw[e,Bool.or_assoc,←zy,←Eb];rfl
def E4 (C:Ctx rs g ts)(H:Ords rs.length ts O){v:Vt}(hv:v∈ah ts){f:Vt→Int}{o5 o6 o7:Y0}{b:Bool}{o10 o11:Y0}:∃p10 p11,
  ci (aP 10) FQ ((cW rs g ts O v).map λu=>vD u.1) (rL rs g ts O f o5 o6 o7 b (some (vD v)) o10 o11)= .nx (rL rs g ts O (rx ((cW rs g ts O v).map λu=>(v,u.1,u.2)) f) o5 o6 o7 (b||tR ((cW rs g ts O v).map λu=>(v,u.1,u.2)) f) (some (vD v)) p10 p11):=
 yj (st:=λh b o10 o11=>rL rs g ts O h o5 o6 o7 b (some (vD v)) o10 o11) (ed:=λu=>(v,u.1,u.2)) (λ_ _ _ _ _=>rfl) _ (λu hu h b o11=>⟨_,F4 C H hv hu⟩) f b o10 o11
abbrev FR (K:Z8)(CL:Zz):DS→Out:=cK (we aw (sL (bq (pC (ab 2) (pC (ab 3) (pC (ab 9) pN))) (bv K CL)))) (aP 10) FQ
def Dj (C:Ctx rs g ts)(H:Ords rs.length ts O){f:Vt→Int}{b:Bool}{o5 o6 o7 o9 o10 o11:Y0}:∃p9 p10 p11,
  ci (aP 9) (FR K CL) ((ah ts).map vD) (rL rs g ts O f o5 o6 o7 b o9 o10 o11)= .nx (rL rs g ts O (rx (eL (cW rs g ts O) (ah ts)) f) o5 o6 o7 (b||tR (eL (cW rs g ts O) (ah ts)) f) p9 p10 p11):=
 u6 (st:=λh b o9 o10 o11=>rL rs g ts O h o5 o6 o7 b o9 o10 o11) (W:=cW rs g ts O) (ed:=λv u=>(v,u.1,u.2)) (λ_ _ _ _ _ _=>rfl) _ (λv hv h b o10 o11=>by
  have wa:=lD (K:=K) (CL:=CL) C H hv;have src:we aw (sL (bq (pC (ab 2) (pC (ab 3) (pC (ab 9) pN))) (bv K CL))) (rL rs g ts O h o5 o6 o7 b (some (vD v)) o10 o11)= .ok ((cW rs g ts O v).map λu=>vD u.1):=by simp only[aM,wa]
  show ∃p' q',cK _ _ _ _=_;rw[hV,src,aU];exact E4 C H hv) f b o9 o10 o11
def AA (C:Ctx rs g ts){f:Vt→Int}{ca cb:Nat}{B R:Zi}{S2:Z6}{x:Res D}{st:D→Option D→Option D→DS}(ha:∀d o p e,aP ca e (st d o p)=some (st d (some e) p))(hb:∀d o p e,aP cb e (st d o p)=some (st d o (some e)))(hs:∀q∈ts.zipIdx,∀d p,S2 (st d (some (.int (q.2:Int))) p)= .ok ((aK q.1).map λ(s:Nat)=>D.int (s:Int)))(hB:∀q∈ts.zipIdx,∀s∈aK q.1,∀vs:List Vt,vs.length≤100→B (st (dE vs f) (some (.int (q.2:Int))) (some (.int (s:Int))))= .nx (st (jP (vs.map fX) (vs.map λv=>.int (f v)) (fX (q.2,s)) (.int (f (q.2,s)))) (some (.int (q.2:Int))) (some (.int (s:Int)))))(fin:∀o p,ee (R (st (dE (ah ts) f) o p))=x):ee ((ci (aP ca) (cK S2 (aP cb) B) (ts.zipIdx.map λq:Q=>D.int (q.2:Int)) (st (.dct [] []) none none)).then R)=x:=by
 have ht5:=C.few;have hn5:=C.ln.few;have h5:∀q∈ts.zipIdx,(aK q.1).length≤5:=λq hq=>by
  have:=dB (C.good hq);omega
 refine i3 (λpre ρ=>∃o p,ρ=st (dE (dS pre) f) o p) ⟨none,none,rfl⟩ (λpre q post w ρ hZ205=>?_) (λρ' hZ206=>?_)
 ·obtain⟨o,p,e⟩:=hZ205;subst e;have hq:q∈ts.zipIdx:=by rw[w];simp
  have hne:∀u∈pre,u.2≠q.2:=λu hu=>by
   have pw:=uA (l:=ts);rw[w]at pw;exact(List.pairwise_append.mp pw).2.2 u hu q (mem_cons_self ..)
  have hVl:=i9 (qs:=pre) λu hu=>h5 u (by rw[w];exact mem_append_left _ hu);have hpl:=congrArg List.length w;rw[length_zipIdx,length_append]at hpl;refine⟨_,ha _ _ _ _,?_⟩;rw[hV,hs q hq,aU];refine mf (λ(E:Z0) ρ=>∃p,ρ=st (dE (dS pre ++ E.map λs=>(q.2,s)) f) (some (.int (q.2:Int))) p) ⟨p,by rw[map_nil,append_nil]⟩ (λE s post2 F ρ hZ207=>?_) (λρ' hZ208=>?_)
  ·obtain⟨p,e⟩:=hZ207;subst e;have nv:(q.2,s)∉dS pre ++ E.map λs=>(q.2,s):=λhm=>by
    rcases mem_append.mp hm with h|h
    ·obtain⟨u,hu,e1,_⟩:=visQ_mem.mp h;exact hne u hu e1
    ·obtain⟨y,hy,e1⟩:=mem_map.mp h;have nd:=fH (t:=q.1);rw[F]at nd;exact(nodup_append.mp nd).2.2 y hy s (mem_cons_self ..) (Prod.mk.inj e1).2
   have hl2:=congrArg List.length F;have hw5:=h5 q hq;rw[length_append]at hl2;refine⟨_,hb _ _ _ _,_,hB q hq s (by rw[F];simp) _ (by rw[length_append,length_map];omega),some (.int (s:Int)),?_⟩;have em:dS pre ++ (E ++ [s]).map (λs=>(q.2,s))=(dS pre ++ E.map λs=>(q.2,s)) ++ [(q.2,s)]:=by rw[map_append,←append_assoc];rfl
   rw[qN (f:=λv=>D.int (f v)) nv,em];rfl
  ·obtain⟨p,e⟩:=hZ208;subst e;refine⟨some (.int (q.2:Int)),p,?_⟩;have:dS (pre ++ [q])=dS pre ++ (aK q.1).map λs=>(q.2,s):=by unfold dS;rw[flatMap_append];simp
   rw[this]
 ·obtain⟨o,p,e⟩:=hZ206;subst e;exact fin o p
end
set_option maxHeartbeats 4000000
section
variable{K:Z8}{CL:Zz}{rs:Z2}{g:Int}{ts:List Tr}{O:List (List Nat)}
abbrev FS (K:Z8)(CL:Zz):DS→Res D:=jS 2 (aR (sR1 (pC (c1 (ab 2) aY) pN)) [none,some 4,some 2] (aP 0) yes (FU K CL))
abbrev Ew (K:Z8)(CL:Zz):DS→Out:=ax (aQ 8 (bS aw (kB false))) (ax (cK (sL (jS 1 (bq (ye (ab 4)) dJ))) (aP 9) (FR K CL)) (fL (fA (ck (ab 8))) (bI (FS K CL)) nxt))
def Bs (C:Ctx rs g ts){f:Vt→Int}{o5 o6 o7 o9 o10 o11:Y0}{b:Bool}:FS K CL (rL rs g ts O f o5 o6 o7 b o9 o10 o11)= .ok (.lst ((kE ts f).map aZ)):=by
 have ht5:=C.few;have er:nI [.int (ts.length:Int)]= .ok (ts.zipIdx.map λq:Q=>D.int (q.2:Int)):=by rw[cm (by omega),vx]
 have cg:aR (sR1 (pC (c1 (ab 2) aY) pN)) [none,some 4,some 2] (aP 0) yes (FU K CL) (rL rs g ts O f o5 o6 o7 b o9 o10 o11)= .ok (.lst (ts.zipIdx.map λq:Q=>aZ ((aK q.1).map λs=>f (q.2,s)))):=
  br (xs:=ts.zipIdx) (c:=λq:Q=>D.int (q.2:Int)) (g:=λq:Q=>aZ ((aK q.1).map λs=>f (q.2,s))) (by simp only[aM,er]) (by rw[length_zipIdx];omega) (λq hq=>⟨_,rfl,Fx (K:=K) (CL:=CL) C hq⟩)
 have e:ts.zipIdx.map (λq:Q=>aZ ((aK q.1).map λs=>f (q.2,s)))=(kE ts f).map aZ:=by unfold kE;rw[map_map];rfl
 rw[e]at cg;show jS 2 _ _=_;rw[BT,cg,av,Yj zB]
abbrev rN (rs:Z2)(g:Int)(ts:List Tr)(O:Zr)(f:Vt→Int)(o5 o6 o7 o8 o9 o10 o11:Y0):DS:=[some (.lst (rs.map D.int)),some (.int g),some (.lst (ts.map bj)),some (aF O),some (dE (ah ts) f),o5,o6,o7,o8,o9,o10,o11]
def tT (C:Ctx rs g ts)(H:Ords rs.length ts O){f:Vt→Int}{o5 o6 o7 o9 o10 o11 o8:Y0} :(tR (eL (cW rs g ts O) (ah ts)) f=false∧Ew K CL (rN rs g ts O f o5 o6 o7 o8 o9 o10 o11)= .rt (.lst ((kE ts f).map aZ)))∨(tR (eL (cW rs g ts O) (ah ts)) f=true∧∃p9 p10 p11,Ew K CL (rN rs g ts O f o5 o6 o7 o8 o9 o10 o11)= .nx (rL rs g ts O (rx (eL (cW rs g ts O) (ah ts)) f) o5 o6 o7 true p9 p10 p11)):=by
 have s1:aQ 8 (bS aw (kB false)) (rN rs g ts O f o5 o6 o7 o8 o9 o10 o11)= .nx (rL rs g ts O f o5 o6 o7 false o9 o10 o11):=by simp only[aM]
 have src:sL (jS 1 (bq (ye (ab 4)) dJ)) (rL rs g ts O f o5 o6 o7 false o9 o10 o11)= .ok ((ah ts).map vD):=by
  simp only[aM,L2.ye,AI,m7]
 obtain⟨p9,p10,p11,e⟩:=Dj (K:=K) (CL:=CL) C H (f:=f) (b:=false) (o5:=o5) (o6:=o6) (o7:=o7) (o9:=o9) (o10:=o10) (o11:=o11);have s2:cK (sL (jS 1 (bq (ye (ab 4)) dJ))) (aP 9) (FR K CL) (rL rs g ts O f o5 o6 o7 false o9 o10 o11)= .nx (rL rs g ts O (rx (eL (cW rs g ts O) (ah ts)) f) o5 o6 o7 (false||tR (eL (cW rs g ts O) (ah ts)) f) p9 p10 p11):=by
  rw[hV,src,aU];exact e
 cases q:tR (eL (cW rs g ts O) (ah ts)) f with
 |false=>
  refine .inl ⟨rfl,?_⟩;have er:=(kC q).1;rw[q,er]at s2;show ax _ (ax _ _) _=_;rw[cr,s1,bp,cr,s2,bp];have rt:=Bs (K:=K) (CL:=CL) (O:=O) C (f:=f) (o5:=o5) (o6:=o6) (o7:=o7) (o9:=p9) (o10:=p10) (o11:=p11) (b:=false);generalize FS K CL=B at rt ⊢;simp only[aM,rt]
 |true=>
  refine .inr ⟨rfl,p9,p10,p11,?_⟩;rw[q]at s2;show ax _ (ax _ _) _=_;rw[cr,s1,bp,cr,s2,bp];simp only[aM]
def F5 {E:Vt→Int}{t:List Vt}(C:Ctx rs g ts)(H:Ords rs.length ts O)(X:Fix (ah ts) (eL (cW rs g ts O) (ah ts)) (fZ ts) E t):∀(n:Nat) (ds:Zy) (f:Vt→Int) (j:Nat),ds.length=n+1→Up (ah ts) (fZ ts) E t j f→t.length≤j+n→∀(o5 o6 o7 o8 o9 o10 o11:Option D),
  ci (aP 7) (Ew K CL) ds (rN rs g ts O f o5 o6 o7 o8 o9 o10 o11)= .rt (.lst ((kE ts E).map aZ)):=by
 intro n
 induction n with
 |zero=>
  intro ds f j hd U hj o5 o6 o7 o8 o9 o10 o11;obtain⟨d,r,rfl⟩:∃d r,ds=d::r:=by cases ds with|nil=>simp at hd|cons d r=>exact⟨d,r,rfl⟩
  have ft:=X.full U (by omega)
  rcases tT (K:=K) (CL:=CL) C H (f:=f) (o5:=o5) (o6:=o6) (o7:=some d) (o8:=o8) (o9:=o9) (o10:=o10) (o11:=o11) with ⟨_,e⟩|⟨z,_⟩
  ·rw[pH (X.done U.lo U.hi ft)]at e;exact uT (asg:=aP 7) rfl e
  ·rw[ft]at z;cases z
 |succ n ih=>
  intro ds f j hd U hj o5 o6 o7 o8 o9 o10 o11;obtain⟨d,r,rfl⟩:∃d r,ds=d::r:=by cases ds with|nil=>simp at hd|cons d r=>exact⟨d,r,rfl⟩
  rcases tT (K:=K) (CL:=CL) C H (f:=f) (o5:=o5) (o6:=o6) (o7:=some d) (o8:=o8) (o9:=o9) (o10:=o10) (o11:=o11) with ⟨ft,e⟩|⟨z,p9,p10,p11,e⟩
  ·rw[pH (X.done U.lo U.hi ft)]at e;exact uT (asg:=aP 7) rfl e
  ·refine(hZ (asg:=aP 7) rfl e).trans ?_;exact ih r _ (j+1) (by simpa using hd) (X.step U) (by omega) _ _ _ _ _ _ _
theorem u5 (C:Ctx rs g ts)(H:Ords rs.length ts O)(no:∀f,(∀v∈ah ts,fZ ts v≤f v)→tR (eL (cW rs g ts O) (ah ts)) f=true):∀(ds:Zy) (f:Vt→Int),(∀v∈ah ts,fZ ts v≤f v)→∀(o5 o6 o7 o8 o9 o10 o11:Option D),
  ∃ρ',ci (aP 7) (Ew K CL) ds (rN rs g ts O f o5 o6 o7 o8 o9 o10 o11)= .nx ρ'
 | [],f,_,o5,o6,o7,o8,o9,o10,o11=>⟨_,rfl⟩
 |d::ds,f,hf,o5,o6,o7,o8,o9,o10,o11=>by
  rcases tT (K:=K) (CL:=CL) C H (f:=f) (o5:=o5) (o6:=o6) (o7:=some d) (o8:=o8) (o9:=o9) (o10:=o10) (o11:=o11) with ⟨ft,e⟩|⟨z,p9,p10,p11,e⟩
  ·rw[no f hf]at ft;cases ft
  ·obtain⟨ρ',e'⟩:=u5 C H no ds (rx (eL (cW rs g ts O) (ah ts)) f) (λv hv=>Int.le_trans (hf v hv) pk) o5 o6 (some d) (some (.bl true)) p9 p10 p11;exact⟨ρ',(hZ (asg:=aP 7) rfl e).trans e'⟩
def rT (C:Ctx rs g ts)(H:Ords rs.length ts O) :((i6 rs g ts O).length<(ah ts).length∧bQ K CL [.lst (rs.map D.int),.int g,.lst (ts.map bj),aF O]= .ok .non)∨(¬(i6 rs g ts O).length<(ah ts).length∧bQ K CL [.lst (rs.map D.int),.int g,.lst (ts.map bj),aF O]= .ok (.lst ((kE ts (gq (cW rs g ts O) (fZ ts) (i6 rs g ts O))).map aZ))):=by
 have hn5:=C.ln.few;have ht5:=C.few;have e0:aH eJ [.lst (rs.map D.int),.int g,.lst (ts.map bj),aF O]=[some (.lst (rs.map D.int)),some (.int g),some (.lst (ts.map bj)),some (aF O),none,none,none,none,none,none,none,none]:=rfl;have fin:∀(x:Res D),(∀o5 o6,ee (ax (cK (sR1 (pC (ac (c1 (ab 4) qy) (kI 1) aO) pN)) (aP 7) (Ew K CL)) (bI (bS aw (jS 1 (jS 0 kN)))) (rN rs g ts O (fZ ts) o5 o6 none none none none none))=x)→bQ K CL [.lst (rs.map D.int),.int g,.lst (ts.map bj),aF O]=x:=by
  intro x hx;unfold bQ;refine(bO rfl).trans ?_;rw[e0];unfold eD;refine cH [some (.lst (rs.map D.int)),some (.int g),some (.lst (ts.map bj)),some (aF O),some (.dct [] []),none,none,none,none,none,none,none] (by simp only[aM]) ?_;rw[cr];have er:nI [.int (ts.length:Int)]= .ok (ts.zipIdx.map λq:Q=>D.int (q.2:Int)):=by rw[cm (by omega),vx]
  have G:sR1 (pC (c1 (ab 2) aY) pN) [some (.lst (rs.map D.int)),some (.int g),some (.lst (ts.map bj)),some (aF O),some (.dct [] []),none,none,none,none,none,none,none]= .ok (ts.zipIdx.map λq:Q=>D.int (q.2:Int)):=by simp only[aM,er]
  rw[hV,G,aU];refine AA (f:=fZ ts) C (st:=λd o p=>[some (.lst (rs.map D.int)),some (.int g),some (.lst (ts.map bj)),some (aF O),some d,o,p,none,none,none,none,none]) (λ_ _ _ _=>rfl) (λ_ _ _ _=>rfl) (λq hq d p=>?_) (λq hq s hs vs hv=>?_) hx
  ·have y2:aJ (.lst (ts.map bj)) (.int (q.2:Int))= .ok (bj q.1):=bT (mem_zip.mp hq);have y3:=gn (K:=K) (CL:=CL) (C.good hq) (show rs.length≤1000 by omega);simp only[aM,y2,y3];rfl
  ·have y2:aJ (.lst (ts.map bj)) (.int (q.2:Int))= .ok (bj q.1):=bT (mem_zip.mp hq);have y5:aJ (bj q.1) (.int 2)= .ok (.int (fZ ts (q.2,s))):=by
    have:fZ ts (q.2,s)=q.1.2.2:=by unfold fZ;dsimp only;rw[mem_zip.mp hq]
    rw[this];exact uP
   exact l8 (kd:=[.int (q.2:Int),.int (s:Int)]) rfl (by simp only[aM,y2,y5]) (by simp only[aM]) (jL (v:=(q.2,s))) (by rw[length_map];omega)
 obtain⟨T,hf⟩:=vC (O:=O) C;have hvl:=mm C;have hlk:qy [dE (ah ts) (fZ ts)]= .ok (.int ((ah ts).length:Int)):=by
  show Res.ok (D.int (((ah ts).map fX).length:Int))=_;rw[length_map]
 have er:nI [.int (((ah ts).length:Int)+1)]= .ok ((List.range ((ah ts).length+1)).map λ(i:Nat)=>D.int (i:Int)):=by
  rw[show ((ah ts).length:Int)+1=(((ah ts).length+1:Nat):Int) by omega];exact cm (by omega)
 have G:∀o5 o6,sR1 (pC (ac (c1 (ab 4) qy) (kI 1) aO) pN) (rN rs g ts O (fZ ts) o5 o6 none none none none none)= .ok ((List.range ((ah ts).length+1)).map λ(i:Nat)=>D.int (i:Int)):=λo5 o6=>by simp only[aM,hlk,er]
 by_cases E:(i6 rs g ts O).length<(ah ts).length
 ·refine .inl ⟨E,fin _ λo5 o6=>?_⟩;have no:∀f,(∀v∈ah ts,fZ ts v≤f v)→tR (eL (cW rs g ts O) (ah ts)) f=true:=λf hr=>by
   cases q:tR (eL (cW rs g ts O) (ah ts)) f with
   |true=>rfl
   |false=>
    exfalso;have S:Sol (ah ts) (cW rs g ts O) (fZ ts) f:=⟨hr,λv hv u hu=>(kC q).2 (v,u.1,u.2) (mem_eL.mpr ⟨hv,hu⟩)⟩;have full:=rM S (λv hv=>by
     obtain⟨t,ht,_⟩:=mem_visits.mp hv;unfold fZ;rw[ht];exact(C.tr t (mem_of_getElem? ht)).r.1) (qV C H) hf
    have:=bt bx full;omega
  obtain⟨ρ',e⟩:=u5 (K:=K) (CL:=CL) C H no ((List.range ((ah ts).length+1)).map λ(i:Nat)=>D.int (i:Int)) (fZ ts) (λ_ _=>Int.le_refl _) o5 o6 none none none none none;rw[cr,hV,G,aU,e,bp];rfl
 ·refine .inr ⟨E,fin _ λo5 o6=>?_⟩;have full:=uU bx E T.nd T.sub;have X:=v_ (ready:=fZ ts) T full λv hv u hu=>(qV C H v hv u hu).2;have tl:(i6 rs g ts O).length≤(ah ts).length:=bt T.nd T.sub;have e:=F5 (K:=K) (CL:=CL) C H X (ah ts).length ((List.range ((ah ts).length+1)).map λ(i:Nat)=>D.int (i:Int)) (fZ ts) 0 (by rw[length_map,length_range]) X.zero (by omega) o5 o6 none none none none none;rw[cr,hV,G,aU,e];rfl
end
set_option maxHeartbeats 4000000
section
variable{K:Z8}{CL:Zz}{rs:Z2}{g lim:Int}{ts:List Tr}{O:List (List Nat)}
def sX {i:Int}:bR K CL [.int i]= .ok (.bl true):=by
 unfold bR;refine(bO rfl).trans ?_;have e0:aH gL [D.int i]=[some (.int i)]:=rfl;rw[e0];unfold eG;have e1:fV K (cV (.ty "int")) (.int i)= .ok (.bl true):=by unfold fV Ei;dsimp only;rw[show cV (.ty "int")=Value.type "int" from rfl,m5]
 have e2:fV K (cV (.ty "bool")) (.int i)= .ok (.bl false):=by unfold fV Ei;dsimp only;rw[show cV (.ty "bool")=Value.type "bool" from rfl,Dg]
 simp only[aM,e1,e2]
def F2 {l:Zy}:fV K (cV (.ty "list")) (.lst l)= .ok (.bl true):=by unfold fV Ei;dsimp only;rw[show cV (.ty "list")=Value.type "list" from rfl,m5]
def D_ {ns:Z2}(h:ns.length<1000000):dL K CL [.lst (ns.map D.int),.lst (ns.map D.int)]= .ok (.bl true):=by
 unfold dL;refine(bO rfl).trans ?_;have e0:aH jv [D.lst (ns.map D.int),.lst (ns.map D.int)]=[some (.lst (ns.map D.int)),some (.lst (ns.map D.int)),none]:=rfl;rw[e0];unfold gE;simp only[aM,F2,cC,bne_self_eq_false,beq_self_eq_true,cm h];refine gk (λrem ρ=>(∀d∈rem,∃i:Nat,i<ns.length∧d= .int i)∧∃o,ρ=[some (.lst (ns.map D.int)),some (.lst (ns.map D.int)),o]) ⟨λd hd=>?_,none,rfl⟩ (λd ds ρ hZ209=>?_) (λρ' hZ210=>?_)
 ·obtain⟨i,hi,rfl⟩:=mem_map.mp hd;exact⟨i,mem_range.mp hi,rfl⟩
 ·obtain⟨hd,o,e⟩:=hZ209;subst e;obtain⟨i,hi,rfl⟩:=hd d (mem_cons_self ..);refine⟨_,_,rfl,?_,λx hx=>hd x (cN hx),some (.int i),rfl⟩;have hix:=bT (g:=D.int) (d_ hi);simp only[aM,hix,sX,beq_self_eq_true]
 ·obtain⟨_,o,e⟩:=hZ210;subst e;simp only[aM]
def Bu {p:Pl}(h:p.length<1000000)(hr:∀r∈p,r.length<1000000):d6 K CL [.lst (p.map aZ),.lst (p.map aZ)]= .ok (.bl true):=by
 unfold d6;refine(bO rfl).trans ?_;have e0:aH iJ [D.lst (p.map aZ),.lst (p.map aZ)]=[some (.lst (p.map aZ)),some (.lst (p.map aZ)),none]:=rfl;rw[e0];unfold fI;simp only[aM,F2,cm h];refine gk (λrem ρ=>(∀d∈rem,∃i:Nat,i<p.length∧d= .int i)∧∃o,ρ=[some (.lst (p.map aZ)),some (.lst (p.map aZ)),o]) ⟨λd hd=>?_,none,rfl⟩ (λd ds ρ hZ211=>?_) (λρ' hZ212=>?_)
 ·obtain⟨i,hi,rfl⟩:=mem_map.mp hd;exact⟨i,mem_range.mp hi,rfl⟩
 ·obtain⟨hd,o,e⟩:=hZ211;subst e;obtain⟨i,hi,rfl⟩:=hd d (mem_cons_self ..);refine⟨_,_,rfl,?_,λx hx=>hd x (cN hx),some (.int i),rfl⟩;have hix:=bT (g:=aZ) (d_ hi);have hro:dL K CL [aZ p[i],aZ p[i]]= .ok (.bl true):=D_ (hr _ (getElem_mem hi));simp only[aM,hix,hro]
 ·obtain⟨_,o,e⟩:=hZ212;subst e;simp only[aM]
theorem fu:∀(ns:List Int),L2.flats (ns.map D.int)=true
 | []=>by unfold flats;rfl
 |a::r=>by rw[map_cons];unfold flats;rw[fu r];unfold L2.flat;rfl
def wz {CL:Zz}{rs:Z2}{g:Int}:b_ 0 (ba CL rs g)=true:=by
 refine kZ ?_;unfold ba L2.flat flats flats flats L2.flat;rw[fu];rfl
def DX {n:Nat}{r:Z2}:a7 (n+1) (aZ r)=true:=li λ_ _=>eA
def AN {l:Yv}:lK (.lst (l.map aZ)) (.lst (l.map aZ))= .ok (.bl false):=qA (li (n:=19) λ_ _=>DX (n:=18))
def Bc {ts:List Tr}{O:Zr}:a7 20 (.lst [.lst (ts.map bj),aF O])=true:=by
 have p1:a7 19 (.lst (ts.map bj))=true:=li (n:=18) λt _=>by
  unfold bj a7 plL;rw[eA];unfold plL;rw[eA];unfold plL;rw[eA];rfl
 have p2:a7 19 (aF O)=true:=li (n:=18) λr _=>li (n:=17) λ_ _=>eA;unfold a7 plL;rw[show 20-1=19 from rfl,p1];unfold plL;rw[p2];rfl
end
set_option maxHeartbeats 4000000
section
variable{K:Z8}{CL:Zz}{rs:Z2}{g:Int}{ts:List Tr}{O:List (List Nat)}
def zK {α:Type}{l:List α}{u:α×α}(nd:l.Nodup)(h:u∈l.zip l.tail):u.1≠u.2:=λz=>by
 obtain⟨i,hi⟩:=List.mem_iff_getElem?.mp h;obtain⟨h1,h2⟩:=List.getElem?_zip_eq_some.mp hi;rw[List.getElem?_tail]at h2;obtain⟨i1,e1⟩:=d8 h1;obtain⟨i2,e2⟩:=d8 h2;have:=(getElem_inj nd).mp (e1.trans (z.trans e2.symm));omega
def El (H:Ords rs.length ts O){v:Vt}(hv:v∈ah ts){u:Vt×Int}(hu:u∈cW rs g ts O v):u.1≠v:=λz=>by
 obtain⟨t,ht,hs⟩:=mem_visits.mp hv
 rcases mem_append.mp hu with q|q
 ·obtain⟨a,ha,e⟩:=(tY ht).mp q;subst e;exact zK fH ha (by rw[←z])
 ·obtain⟨a,ha,e⟩:=mem_wO.mp q;subst e;exact zK (H.nd _) ha (by rw[←z])
def Cc (C:Ctx rs g ts):(ah ts).length≤25:=by
 have h5:∀q∈ts.zipIdx,(aK q.1).length≤5:=λq hq=>by
  have:=dB (C.good hq);have:=C.ln.few;omega
 have:=i9 (qs:=ts.zipIdx) h5;rw[length_zipIdx]at this;have e:dS ts.zipIdx=ah ts:=rfl;rw[e]at this;have:=C.few;omega
def vG (C:Ctx rs g ts){v:Vt}(hv:v∈ah ts):v.1<ts.length:=by
 obtain⟨t,ht,_⟩:=mem_visits.mp hv;exact(d8 ht).1
def Du {w:Z0}{s:Nat}(h:s∈w):jn true (.int (s:Int)) (.lst (am w))= .ok (.bl false):=by
 unfold jn;dsimp only;rw[Yj ⟨F9,eA⟩];congr 2;unfold am;rw[Yj rfl,any_map];rw[Bool.not_eq_false',List.any_eq_true];exact⟨s,h,by show b9 _ _=true;rw[je];simp⟩
def Gy {l:Zy}:fV K (cV (.ty "tuple")) (.tup l)= .ok (.bl true):=by unfold fV Ei;dsimp only;rw[show cV (.ty "tuple")=Value.type "tuple" from rfl,m5]
def za {r:List Vt}(H:Ords rs.length ts O)(R:mq (ah ts) (cW rs g ts O) r):2≤r.length:=by
 obtain⟨nd,h1,sub,lk⟩:=R;apply Classical.byContradiction;intro z;have e:r.length=1:=by omega
 obtain⟨a,rfl⟩:=List.length_eq_one_iff.mp e;obtain⟨u,hu,e2⟩:=lk 0 a a rfl (by simp);exact El H (sub a (by simp)) hu e2
def wo {r:List Vt}(C:Ctx rs g ts)(H:Ords rs.length ts O)(R:mq (ah ts) (cW rs g ts O) r):cw K CL [.lst (r.map vD),.lst (ts.map bj),aF O]= .ok (.bl true):=by
 have h2:=za H R;obtain⟨nd,h1,X,lk⟩:=R;have h25:r.length≤25:=le_trans (bt nd X) (Cc C);have hn5:=C.ln.few;have ht5:=C.few;have sm:∀v∈r,sI v:=λv hv=>⟨by have:=vG C (X v hv);omega,by have:=zJ C (X v hv);omega⟩;have els:ie [.lst (r.map vD)]= .ok (.int (r.length:Int)):=m9 nd h25 sm;have d1:decide ((r.length:Int)<2)=false:=Zh (by omega);have d2:decide ((r.length:Int)<(r.length:Int))=false:=Zh (by omega);have er:=cm (n:=r.length) (by omega);unfold cw;refine(bO rfl).trans ?_;have e0:aH eZ [.lst (r.map vD),.lst (ts.map bj),aF O]=[some (.lst (r.map vD)),some (.lst (ts.map bj)),some (aF O),none,none]:=rfl;rw[e0];unfold cZ;simp only[aM,F2,cC,els,d1,d2];refine gk (λrem ρ=>(∀d∈rem,∃v∈r,d=vD v)∧∃o,ρ=[some (.lst (r.map vD)),some (.lst (ts.map bj)),some (aF O),o,none]) ⟨λd w=>?_,none,rfl⟩ (λd ds ρ hZ213=>?_) (λρ' hZ214=>?_)
 ·obtain⟨v,hv,rfl⟩:=mem_map.mp w;exact⟨v,hv,rfl⟩
 ·obtain⟨w,o,e⟩:=hZ213;subst e;obtain⟨v,hv,rfl⟩:=w d (mem_cons_self ..);refine⟨_,_,rfl,?_,λx hx=>w x (cN hx),some (vD v),rfl⟩;obtain⟨t,ht,hs⟩:=mem_visits.mp (X v hv);have gt:Good rs.length t:=C.tr t (mem_of_getElem? ht);have k1:fV K (cV (.ty "tuple")) (vD v)= .ok (.bl true):=Gy;have k2:aY [vD v]= .ok (.int 2):=rfl;have y2:aJ (.lst (ts.map bj)) (.int (v.1:Int))= .ok (bj t):=bT ht;have y3:=gn (K:=K) (CL:=CL) gt (show rs.length≤1000 by omega);have y4:jn true (.int (v.2:Int)) (.lst (am (aK t)))= .ok (.bl false):=Du hs;have f1:=vG C (X v hv);have c1':decide ((v.1:Int)<0)=false:=Zh (by omega);have c2':decide ((v.1:Int) ≥ (ts.length:Int))=false:=Zh (by omega);simp only[aM,k1,k2,iv0,ET,sX,c1',c2',cC,y2,y3,y4]
 ·obtain⟨_,o,e⟩:=hZ214;subst e;simp only[aM,cC,er];refine gk (λrem ρ=>(∀d∈rem,∃i:Nat,i<r.length∧d= .int i)∧∃o4,ρ=[some (.lst (r.map vD)),some (.lst (ts.map bj)),some (aF O),o,o4]) ⟨λd w=>?_,none,rfl⟩ (λd ds ρ hZ215=>?_) (λρ' hZ216=>?_)
  ·obtain⟨i,hi,rfl⟩:=mem_map.mp w;exact⟨i,mem_range.mp hi,rfl⟩
  ·obtain⟨w,o4,e⟩:=hZ215;subst e;obtain⟨i,hi,rfl⟩:=w d (mem_cons_self ..);refine⟨_,_,rfl,?_,λx hx=>w x (cN hx),some (.int i),rfl⟩;have hj:(i+1) % r.length<r.length:=Nat.mod_lt _ (by omega);have hix:=bT (g:=vD) (d_ hi);have hjx:=bT (g:=vD) (d_ hj);have em:la (.int ((i:Int)+1)) (.int (r.length:Int))= .ok (.int (((i+1) % r.length:Nat):Int)):=by
    rw[mO (by omega),Int.natCast_emod];rfl
   have hw:=lD (K:=K) (CL:=CL) C H (X _ (getElem_mem hi));rw[show ((cW rs g ts O r[i]).map λu=>vD u.1)=((cW rs g ts O r[i]).map (·.1)).map vD by rw[map_map];rfl]at hw;obtain⟨u,hu,e2⟩:=lk i _ _ (d_ hi) (d_ hj);have hc:((cW rs g ts O r[i]).map (·.1)).contains r[(i+1) % r.length]=true:=contains_iff_mem.mpr (mem_map.mpr ⟨u,hu,e2⟩);have ni:=ig (t:=(cW rs g ts O r[i]).map (·.1)) (v:=r[(i+1) % r.length]);rw[hc]at ni;simp only[aM,cC,em,hix,hjx,hw,ni]
  ·obtain⟨_,o4,e⟩:=hZ216;subst e;simp only[aM]
end
set_option maxHeartbeats 4000000
section
variable{K:Z8}{CL:Addr}
abbrev lQ (ns rs:Z2)(g:Int)(ts:List Tr)(O:Zr)(L4:D)(o5 o6 o7 o8 o9 o10:Y0):DS:=[some (.scr ns),some (.tup [.lst (rs.map D.int),.int g]),some (.lst (ts.map bj)),some (aF O),some L4,o5,o6,o7,o8,o9,o10]
abbrev lH (CL:Zz)(ns rs:Z2)(g:Int)(ts:List Tr)(O:Zr)(L4:D)(L2:Zy)(o8 o9 o10:Y0):DS:=lQ ns rs g ts O L4 (some (.lst [.lst (ts.map bj),aF O])) (some (.lst L2)) (some (ba CL rs g)) o8 o9 o10
def yg {ns:Z2}(hns:ns.length≤63):yp K CL [.scr ns]= .ok (.bl true):=by
 obtain⟨rs,g,GL,el⟩:=wy (K:=K) (CL:=CL) (ns:=ns) (base:=0) (by omega) (by omega);have h5:=GL.few;have h1:=GL.one;obtain⟨ts,tl,tg,et⟩:=sO (K:=K) (CL:=CL) (ns:=ns) (base:=20) (most:=5) (n:=rs.length) (by omega) (by omega) h1 h5 (by omega) (by omega);have db:=eN (ns:=ns) (k:=20) (many:=5) (by omega);have C:Ctx rs g ts:=⟨GL,tg,by omega,by omega⟩;obtain⟨O,H,eo⟩:=sd (K:=K) (CL:=CL) (ns:=ns) (rs:=rs) (base:=100) (g:=g) (ts:=ts) (by omega) (by omega) C.tr (by omega) (by omega);have hOl:=H.len;have t5:=C.few;have hne:=qA (Bc (ts:=ts) (O:=O));have i0:aJ (.tup [.lst (rs.map D.int),.int g]) (.int 0)= .ok (.lst (rs.map D.int)):=xI;have i1:aJ (.tup [.lst (rs.map D.int),.int g]) (.int 1)= .ok (.int g):=xJ;have h0':aJ (.lst [.lst (ts.map bj),aF O]) (.int 0)= .ok (.lst (ts.map bj)):=uM;have h1':aJ (.lst [.lst (ts.map bj),aF O]) (.int 1)= .ok (aF O):=uN;have eli:cq [.lst (rs.map D.int)]= .ok (.lst (rs.map D.int)):=rfl;have els:cq [.lst (ts.map bj)]= .ok (.lst (ts.map bj)):=rfl;have ein:=AH (K:=K) (CL:=CL) GL;have lfl:b_ 0 (ba CL rs g)=true:=wz;have hr0:rs[0]?=some rs[0]:=d_ (by omega);have ir0:aJ (.lst (rs.map D.int)) (.int 0)= .ok (.int rs[0]):=bT (i:=0) hr0;have r2:nI [.int 2]= .ok ((List.range 2).map λ(i:Nat)=>D.int (i:Int)):=cm (n:=2) (by omega);have t0:∀x y,aJ (.tup [x,y]) (.int 0)= .ok x:=λ_ _=>xI;have t1:∀x y,aJ (.tup [x,y]) (.int 1)= .ok y:=λ_ _=>xJ;have iT:∀l,fV K (cV (.ty "tuple")) (.tup l)= .ok (.bl true):=λ_=>Gy;have l2:∀x y:D,aY [.tup [x,y]]= .ok (.int 2):=λ_ _=>rfl;have n2:lK (.int 2) (.int 2)= .ok (.bl false):=rfl;have nR:lK (.str (Str.ofString "ring")) (.str (Str.ofString "ring"))= .ok (.bl false):=by rw[tJ];simp
 have nT:lK (.str (Str.ofString "table")) (.str (Str.ofString "table"))= .ok (.bl false):=by rw[tJ];simp
 -- what the law finds,what the program tells
 obtain⟨I,e4,hc⟩:∃I,bQ K CL [.lst (rs.map D.int),.int g,.lst (ts.map bj),aF O]= .ok I∧
   ((C8 I=true∧∃r:List Vt,mq (ah ts) (cW rs g ts O) r∧bi K CL [ba CL rs g,.lst (ts.map bj),aF O]= .ok (.tup [.str (Str.ofString "ring"),.lst (r.map vD)]))∨
    (∃R:Pl,I= .lst (R.map aZ)∧R.length≤5∧(∀r∈R,r.length≤1000)∧bi K CL [ba CL rs g,.lst (ts.map bj),aF O]= .ok (.tup [.str (Str.ofString "table"),.lst (R.map aZ)]))):=by
  rcases rT (K:=K) (CL:=CL) C H with ⟨E,e⟩|⟨E,e⟩
  ·refine⟨_,e,.inl ⟨rfl,?_⟩⟩
   rcases jq (K:=K) (CL:=CL) C H with ⟨_,r,u,er⟩|⟨T,J,_⟩
   ·exact⟨r,u,er⟩
   ·unfold yi at J;rw[Yj E]at J;cases J
  ·refine⟨_,e,.inr ⟨_,rfl,?_,?_,?_⟩⟩
   ·unfold kE;rw[length_map,length_zipIdx];exact t5
   ·intro r u;unfold kE at u;obtain⟨q,hq,rfl⟩:=mem_map.mp u;rw[length_map];have:=dB (C.good hq);omega
   ·rcases jq (K:=K) (CL:=CL) C H with ⟨J,_⟩|⟨T,J,er⟩
    ·unfold yi at J;rw[Yi E]at J;cases J
    ·unfold yi at J;rw[Yi E]at J;cases J;exact er
 unfold yp;refine(bO rfl).trans ?_;have e0:aH qZ [D.scr ns]=[some (.scr ns),none,none,none,none,none,none,none,none,none,none]:=rfl;rw[e0];unfold uB;refine cH [some (.scr ns),some (.tup [.lst (rs.map D.int),.int g]),none,none,none,none,none,none,none,none,none] (by simp only[aM,el]) ?_;refine cH [some (.scr ns),some (.tup [.lst (rs.map D.int),.int g]),some (.lst (ts.map bj)),none,none,none,none,none,none,none,none] (by simp only[aM,i0,et]) ?_;refine cH [some (.scr ns),some (.tup [.lst (rs.map D.int),.int g]),some (.lst (ts.map bj)),some (aF O),none,none,none,none,none,none,none] (by simp only[aM,i0,i1,eo]) ?_;refine cH (lQ ns rs g ts O I none none none none none none) (by simp only[aM,i0,i1,e4]) ?_;have cg:aR (sL (ab 3)) [none] (aP 0) yes (c1 (ab 0) cq) (lQ ns rs g ts O I none none none none none none)= .ok (aF O):=
  br (xs:=O) (c:=λo=>D.lst (am o)) (g:=λo=>D.lst (am o)) rfl (by omega) (λr u=>⟨_,rfl,rfl⟩)
 refine cH (lQ ns rs g ts O I (some (.lst [.lst (ts.map bj),aF O])) none none none none none) (by
  have fz:h_ cz (lQ ns rs g ts O I none none none none none none)=lQ ns rs g ts O I none none none none none none:=rfl;rw[xG];unfold bS;rw[fz];simp only[aM,cg,els]) ?_
 refine cH (lQ ns rs g ts O I (some (.lst [.lst (ts.map bj),aF O])) (some (.lst (rs.map D.int))) none none none none) (by simp only[aM,L2.ye,i0,eli]) ?_;refine cH (lQ ns rs g ts O I (some (.lst [.lst (ts.map bj),aF O])) (some (.lst (rs.map D.int))) (some (ba CL rs g)) none none none) (by simp only[aM,i1,ein,lfl]) ?_;refine cH (lQ ns rs g ts O I (some (.lst [.lst (ts.map bj),aF O])) (some (.lst ((rs.map D.int).set 0 (.int (rs[0] % 20+1))))) (some (ba CL rs g)) none none none) ?_ ?_
 ·rw[At (m:=0) (l:=rs.map D.int) (d:=.int (rs[0] % 20+1)) rfl (by
   have em:la (.int rs[0]) (.int 20)= .ok (.int (rs[0] % 20)):=rfl;simp only[aM,ir0,em,mN,iN]) rfl (by rw[length_map];omega)]
  rfl
 generalize (rs.map D.int).set 0 (.int (rs[0] % 20+1))=L1;refine cH (lQ ns rs g ts O I (some (.lst [.lst (ts.map bj),aF O])) (some (.lst L1.reverse)) (some (ba CL rs g)) none none none) ?_ ?_
 ·rw[Aq (j:=6) (n:=0) (p:=[]) (t:=.lst L1) (g:=nY 6) (rows:=L1) (tI rfl) rfl rfl rfl];rfl
 generalize L1.reverse=L2;simp only[aM,r2];refine i3 (c:=λ(i:Nat)=>D.int (i:Int)) (xs:=List.range 2) (λ_ ρ=>∃o8 o9 s,ρ=lH CL ns rs g ts O I L2 o8 o9 s) ⟨none,none,none,rfl⟩ (λpre i post exs ρ hZ217=>?_) (λρ' hZ218=>?_)
 ·obtain⟨o8,o9,s,e⟩:=hZ217;subst e;refine⟨_,rfl,?_⟩
  rcases hc with ⟨nn,r,u,etd⟩|⟨R,rfl,rl,rr,etd⟩
  ·have eir:=wo (K:=K) (CL:=CL) C H u;have rl:r.length≤25:=le_trans (bt u.1 u.2.2.1) (Cc C);have ap:lU 9 1 (pS 9 0 (nY 9) (kI 1)) (bS cz (dl (pC (kI 9) pN))) (lH CL ns rs g ts O I L2 (some (.int (i:Int))) (some (.tup [.str (Str.ofString "ring"),.lst (r.map vD)])) s)= .nx (lH CL ns rs g ts O I L2 (some (.int (i:Int))) (some (.tup [.str (Str.ofString "ring"),.lst (r.map vD ++ [.lst [.int 9]])])) s):=by
    refine(qe (n:=1) (p:=[1]) (d:=.lst [.int 9]) (rows:=r.map vD) (t:=.tup [.str (Str.ofString "ring"),.lst (r.map vD)]) rfl (by simp only[aM]) rfl rfl rfl (by rw[length_map];omega)).trans ?_;rfl
   refine⟨lH CL ns rs g ts O I L2 (some (.int (i:Int))) (some (.tup [.str (Str.ofString "ring"),.lst (r.map vD ++ [.lst [.int 9]])])) s,?_,_,_,_,rfl⟩;simp only[aM,h0',h1',etd,hne,nn,iT,l2,n2,t0,t1,nR,eir,ap]
  ·have nn:C8 (.lst (R.map aZ))=false:=rfl;have erw:=Bu (K:=K) (CL:=CL) (p:=R) (by omega) (λr u=>by have:=rr r u;omega);have efa:=vY (j:=9) (jr:=10) (n:=1) (c:=9) (g:=pS 9 0 (nY 9) (kI 1)) (p:=[1]) (t:=.tup [.str (Str.ofString "table"),.lst (R.map aZ)]) (rows:=R.map aZ) (ρ:=lH CL ns rs g ts O (.lst (R.map aZ)) L2 (some (.int (i:Int))) (some (.tup [.str (Str.ofString "table"),.lst (R.map aZ)])) s) rfl rfl rfl rfl (by
    rw[all_map,all_eq_true];intro r u;show aG (r.map D.int).length=true;exact cv (by rw[length_map];have:=rr r u;omega))
   have ex:((R.map aZ).map (iP 9))=(R.map λr=>r ++ [9]).map aZ:=by
    rw[map_map,map_map];refine map_congr_left λr _=>?_;show D.lst (r.map D.int ++ [.int 9])=aZ (r ++ [9]);unfold aZ;rw[map_append];rfl
   have efa2:iU 9 10 1 9 (pS 9 0 (nY 9) (kI 1)) (lH CL ns rs g ts O (.lst (R.map aZ)) L2 (some (.int (i:Int))) (some (.tup [.str (Str.ofString "table"),.lst (R.map aZ)])) s)= .nx (lH CL ns rs g ts O (.lst (R.map aZ)) L2 (some (.int (i:Int))) (some (.tup [.str (Str.ofString "table"),.lst ((R.map λr=>r ++ [9]).map aZ)])) none):=by
    rw[efa,ex];rfl
   have ec:aR (sL (ab 4)) [none] (aP 0) yes (ac (ab 0) (dl (pC (kI 9) pN)) aO) (lH CL ns rs g ts O (.lst (R.map aZ)) L2 (some (.int (i:Int))) (some (.tup [.str (Str.ofString "table"),.lst ((R.map λr=>r ++ [9]).map aZ)])) none)= .ok (.lst ((R.map λr=>r ++ [9]).map aZ)):=by
    rw[br (xs:=R) (c:=aZ) (g:=λr=>aZ (r ++ [9])) (by simp only[aM]) (by omega) (λr u=>⟨_,rfl,?_⟩)]
    ·rw[map_map];rfl
    ·show ac (ab 0) (dl (pC (kI 9) pN)) aO [some (aZ r)]=_;have ea:aO (aZ r) (.lst [.int 9])= .ok (aZ (r ++ [9])):=by
      unfold aZ;rw[rG (cv (by rw[length_map,length_singleton];have:=rr r u;omega)),map_append];rfl
     simp only[aM,ea]
   have ap:lU 9 1 (pS 9 0 (nY 9) (kI 1)) (bS cz (dl (pC (kI 9) pN))) (lH CL ns rs g ts O (.lst (R.map aZ)) L2 (some (.int (i:Int))) (some (.tup [.str (Str.ofString "table"),.lst ((R.map λr=>r ++ [9]).map aZ)])) none)= .nx (lH CL ns rs g ts O (.lst (R.map aZ)) L2 (some (.int (i:Int))) (some (.tup [.str (Str.ofString "table"),.lst ((R.map λr=>r ++ [9]).map aZ ++ [.lst [.int 9]])])) none):=by
    refine(qe (n:=1) (p:=[1]) (d:=.lst [.int 9]) (rows:=(R.map λr=>r ++ [9]).map aZ) (t:=.tup [.str (Str.ofString "table"),.lst ((R.map λr=>r ++ [9]).map aZ)]) rfl (by simp only[aM]) rfl rfl rfl (by rw[length_map,length_map];omega)).trans ?_;rfl
   refine⟨lH CL ns rs g ts O (.lst (R.map aZ)) L2 (some (.int (i:Int))) (some (.tup [.str (Str.ofString "table"),.lst ((R.map λr=>r ++ [9]).map aZ ++ [.lst [.int 9]])])) none,?_,_,_,_,rfl⟩;simp only[aM,h0',h1',etd,hne,nn,iT,l2,n2,t0,t1,nT,erw,efa2,ec,AN,ap]
 ·obtain⟨o8,o9,s,e⟩:=hZ218;subst e;simp only[aM]
end
set_option maxHeartbeats 4000000
def Ck {l:W.OpenLaw}{w:Zn}{K:Z8}{h:Y5}{mg:Z4}{fa CL:Zz}(X:K.In h)(G:h.Ns mainGlobals mg)(hfa:mg "law" =some (.ref fa)){t0 t1 t2 t3 t4:Tok}(aCL:W.nsIn K mainGlobals "Line" =some (some (.ref CL)))(g1:FT K "check_line" iw)(g2:FT K "_law_drawn" iq)(g3:FT K "_law_whole" iu)(g4:FT K "_law_row" jQ)(g5:FT K "_law_rows" i5)(g6:FT K "_law_line_by" dw)(g7:FT K "_law_trains_by" dR)(g8:FT K "_law_way" fF)(g9:FT K "_law_users" eT)(g10:FT K "_law_orders_by" bg)(g11:FT K "_law_waits" ir)(g12:FT K "_law_least" eS)(g13:FT K "_law_is_ring" fD)(g14:FT K "check_train" f6)(g15:FT K "way" zj)(g16:FT K "ways" qS)(g17:FT K "check_orders" dz)(g18:FT K "waits_of" jR)(g19:FT K "held_by" jl)(g20:FT K "freed" mj)(g21:FT K "in_turn" lj)(g22:FT K "ring_of" jm)(g23:FT K "least_enters" dA)(g24:FT K "row_of" kz)(g25:FT K "table_of" iz)(g26:FT K "least_table" f7)(g27:FT K "law" ky)(g28:FM K CL "__init__" "Line.__init__" uk)(g29:FM K CL "runs" "Line.runs" ul)(g30:FM K CL "clear" "Line.clear" qR)(pg:W.plainGet K CL Str.empty=true)(hd:W.hasDictIn K CL=true)(po:W.plainOver K CL=true)(sa:W.findIn K (.ref CL) "__setattr__" =some (some (.builtin "object.__setattr__")))(mk:W.makesIn K CL=true)(kc:W.keepIn K (.ref CL)=true)(nM:W.findIn K (.ref CL) "minutes" =some none)(nG:W.findIn K (.ref CL) "gap" =some none)(z0:W.nsIn K mainGlobals "len" =some none)(z1:W.nsIn K mainGlobals "list" =some none)(z2:W.nsIn K mainGlobals "range" =some none)(z3:W.nsIn K mainGlobals "min" =some none)(z4:W.nsIn K mainGlobals "max" =some none)(z5:W.nsIn K mainGlobals "tuple" =some none)(z6:W.nsIn K mainGlobals "sorted" =some none)(z7:W.nsIn K mainGlobals "enumerate" =some none)(z8:W.nsIn K mainGlobals "zip" =some none)(z9:W.nsIn K mainGlobals "isinstance" =some none)(z10:W.nsIn K mainGlobals "int" =some none)(z11:W.nsIn K mainGlobals "bool" =some none)(z12:W.nsIn K mainGlobals "set" =some none)(w0:W.nsIn K mainGlobals "MOST_STRETCHES" =some (some (.int 5 t0)))(w1:W.nsIn K mainGlobals "MOST_RUN" =some (some (.int 20 t1)))(w2:W.nsIn K mainGlobals "MOST_CLEAR" =some (some (.int 5 t2)))(w3:W.nsIn K mainGlobals "MOST_TRAINS" =some (some (.int 5 t3)))(w4:W.nsIn K mainGlobals "MOST_READY" =some (some (.int 60 t4))) :
  ∃fd:FuncData,(∀(s:Z3) (v:Value),BindsTo s fd ⟨[v],[]⟩ [("script",v)])∧∀base:Heap,K.In base→base.Ns mainGlobals mg→FnOk l.prog w K mg base (CXF l.prog w) 6 fa fd ["script"] (vA K):=by
 obtain⟨f,e,m,t,c,k,d⟩:=g27;cases hfa.symm.trans (W.mg_of X G e);have T:Txt K mg CL:={mgL:=W.mg_of X G aCL,cl:=⟨pg,hd,po,sa⟩,nM:=nM,nG:=nG,b_len:=W.mg_none_of X G z0,b_list:=W.mg_none_of X G z1,b_range:=W.mg_none_of X G z2,b_min:=W.mg_none_of X G z3,b_max:=W.mg_none_of X G z4,b_tuple:=W.mg_none_of X G z5,b_sorted:=W.mg_none_of X G z6,b_enumerate:=W.mg_none_of X G z7,b_zip:=W.mg_none_of X G z8,b_isinstance:=W.mg_none_of X G z9,b_int:=W.mg_none_of X G z10,b_bool:=W.mg_none_of X G z11,b_set:=W.mg_none_of X G z12,mS:=⟨_,W.mg_of X G w0⟩,mR:=⟨_,W.mg_of X G w1⟩,mC:=⟨_,W.mg_of X G w2⟩,mT:=⟨_,W.mg_of X G w3⟩,mY:=⟨_,W.mg_of X G w4⟩};obtain⟨f28,a28,F28⟩:=g28;obtain⟨d28,e28⟩:=F28.mk1;obtain⟨f29,a29,F29⟩:=g29;obtain⟨d29,e29⟩:=F29.mk1;obtain⟨f30,a30,F30⟩:=g30;obtain⟨d30,e30⟩:=F30.mk1;refine⟨W.fnOf "law" "law" (hJ ky) (cM ky) (ai ky) .none .none .none (.str m t) none (.ref c) .none,λs v=>.of_eq rfl,λbase _ _=>?_⟩;have C_runs:CalM l.prog w K mg base CL "runs" 1 (j_ CL):=⟨T.cl,f29,_,⟨a29,F29.fn,F29.kp⟩,AY e29 T,e29.binds λ_ _ _ _ _ _=>len1 λ_=>rfl⟩;have C_clear:CalM l.prog w K mg base CL "clear" 1 (jM CL):=⟨T.cl,f30,_,⟨a30,F30.fn,F30.kp⟩,yx e30 T,e30.binds λ_ _ _ _ _ _=>len1 λ_=>rfl⟩;have C_check_line:=g0 (P:=l.prog) (w:=w) (base:=base) T (lO X G g1 λ_ _ _ _ _ _=>len2 λ_ _=>rfl) ;have C_Line:CalI l.prog w K mg base "Line" CL 2 ["self","runs","clear"] (js K CL):=⟨yo,T.mgL,f28,_,⟨mk,a28,F28.fn,kc⟩,AW e28 T C_check_line,e28.binds λ_ _ _ _ _ _=>og λ_ _ _=>rfl⟩;have C__law_drawn:=aE (P:=l.prog) (w:=w) (base:=base) T (lO X G g2 λ_ _ _ _ _ _=>og λ_ _ _=>rfl) ;have C__law_whole:=cA (P:=l.prog) (w:=w) (base:=base) T (lO X G g3 λ_ _ _ _ _ _=>len1 λ_=>rfl) ;have C__law_row:=jB (P:=l.prog) (w:=w) (base:=base) T (lO X G g4 λ_ _ _ _ _ _=>len2 λ_ _=>rfl) C__law_whole;have C__law_rows:=iK (P:=l.prog) (w:=w) (base:=base) T (lO X G g5 λ_ _ _ _ _ _=>len2 λ_ _=>rfl) C__law_row;have C__law_line_by:=ff (P:=l.prog) (w:=w) (base:=base) T (lO X G g6 λ_ _ _ _ _ _=>len2 λ_ _=>rfl) C__law_drawn;have C__law_trains_by:=dG (P:=l.prog) (w:=w) (base:=base) T (lO X G g7 λ_ _ _ _ _ _=>E5 λ_ _ _ _=>rfl) C__law_drawn;have C__law_way:=bo (P:=l.prog) (w:=w) (base:=base) T (lO X G g8 λ_ _ _ _ _ _=>len1 λ_=>rfl) ;have C__law_users:=gZ (P:=l.prog) (w:=w) (base:=base) T (lO X G g9 λ_ _ _ _ _ _=>len2 λ_ _=>rfl) C__law_way;have C__law_orders_by:=dF (P:=l.prog) (w:=w) (base:=base) T (lO X G g10 λ_ _ _ _ _ _=>F6 λ_ _ _ _ _=>rfl) C__law_drawn C__law_users C__law_way;have C__law_waits:=dk (P:=l.prog) (w:=w) (base:=base) T (lO X G g11 λ_ _ _ _ _ _=>og λ_ _ _=>rfl) C__law_way;have C__law_least:=gY (P:=l.prog) (w:=w) (base:=base) T (lO X G g12 λ_ _ _ _ _ _=>E5 λ_ _ _ _=>rfl) C__law_waits C__law_way;have C__law_is_ring:=e_ (P:=l.prog) (w:=w) (base:=base) T (lO X G g13 λ_ _ _ _ _ _=>og λ_ _ _=>rfl) C__law_waits C__law_way C__law_whole;have C_check_train:=fQ (P:=l.prog) (w:=w) (base:=base) T (lO X G g14 λ_ _ _ _ _ _=>len2 λ_ _=>rfl)  C_runs;have C_way:=xq (P:=l.prog) (w:=w) (base:=base) T (lO X G g15 λ_ _ _ _ _ _=>len2 λ_ _=>rfl) C_check_train;have C_ways:=tu (P:=l.prog) (w:=w) (base:=base) T (lO X G g16 λ_ _ _ _ _ _=>len2 λ_ _=>rfl) C_way;have C_check_orders:=fg (P:=l.prog) (w:=w) (base:=base) T (lO X G g17 λ_ _ _ _ _ _=>og λ_ _ _=>rfl) ;have C_waits_of:=jD (P:=l.prog) (w:=w) (base:=base) T (lO X G g18 λ_ _ _ _ _ _=>og λ_ _ _=>rfl) C_check_orders C_runs C_clear;have C_held_by:=gb (P:=l.prog) (w:=w) (base:=base) T (lO X G g19 λ_ _ _ _ _ _=>og λ_ _ _=>rfl) ;have C_freed:=l0 (P:=l.prog) (w:=w) (base:=base) T (lO X G g20 λ_ _ _ _ _ _=>len2 λ_ _=>rfl) C_held_by;have C_in_turn:=kM (P:=l.prog) (w:=w) (base:=base) T (lO X G g21 λ_ _ _ _ _ _=>len1 λ_=>rfl) C_freed;have C_ring_of:=kO (P:=l.prog) (w:=w) (base:=base) T (lO X G g22 λ_ _ _ _ _ _=>len2 λ_ _=>rfl) C_held_by;have C_least_enters:=fj (P:=l.prog) (w:=w) (base:=base) T (lO X G g23 λ_ _ _ _ _ _=>og λ_ _ _=>rfl) ;have C_row_of:=mz (P:=l.prog) (w:=w) (base:=base) T (lO X G g24 λ_ _ _ _ _ _=>og λ_ _ _=>rfl) ;have C_table_of:=jC (P:=l.prog) (w:=w) (base:=base) T (lO X G g25 λ_ _ _ _ _ _=>len2 λ_ _=>rfl) C_row_of;have C_least_table:=fR (P:=l.prog) (w:=w) (base:=base) T (lO X G g26 λ_ _ _ _ _ _=>og λ_ _ _=>rfl) C_in_turn C_least_enters C_ring_of C_table_of C_waits_of C_ways;exact AX (Ex (P:=l.prog) (w:=w) (base:=base) T (xU (st:=ky) k d (qu k)) C__law_is_ring C__law_least C__law_line_by C__law_orders_by C__law_rows C__law_trains_by C_least_table C_Line) λns hns=>K04.yg hns
def kc (x y:Yq)(t:Nat)(l n f:Int)(r:Nat)(w m:Int):Obj:=⟨.type "code",none,.fields #[.str x t,.str y (t+1),.str "/claim/cut.py" (t+2),.int l 0,.int n 0,.int 0 0,.int 0 0,.int f 0,.ref r,.bool true,.int w 0,.ref (r+1),.none,.ref (r+2),.ref (r+3),.ref (r+4),.int m 0,.int l 0,.str "/claim/cut.py" (m.toNat+1)],#[]⟩
def kn (x y:Yq)(t:Nat)(l n f:Int)(r:Nat)(w m:Int):Obj:=⟨.type "code",none,.fields #[.str x t,.str y (t+1),.str "/claim/cut.py" (t+2),.int l 0,.int n 0,.int 0 0,.int 0 0,.int f 0,.ref r,.bool true,.int w 0,.ref (r+1),.none,.none,.none,.ref (r+2),.int m 0,.int l 0,.str "/claim/cut.py" (m.toNat+1)],#[]⟩
def kd (P:Params)(l:Y7)(n:Nat):Obj:=⟨.type "dict",none,.dict (l.map λe=>⟨PyData.keyHash P e.1,.str e.1 e.2.1,e.2.2⟩).toArray n,#[]⟩
def EW (t:Y7):List (Str×Nat×Value):=("__name__",165,.str "law_haltline_k04_whole_least_tables" 433)::("__doc__",166,.none)::("__package__",167,.none)::("__loader__",168,.builtin "__main__.__loader__#opaque")::("__spec__",169,.none)::("__annotations__",170,.ref 6)::("__builtins__",171,.ref 4)::t
def EX (t:Y7):List (Str×Nat×Value):=("__file__",173,.str "/claim/cut.py" 172)::("__cached__",174,.none)::("HaltError",206,.ref 24)::("BadLine",222,.ref 37)::("BadTrains",238,.ref 49)::("BadOrders",254,.ref 61)::("MOST_STRETCHES",258,.int 5 257)::t
def EY (t:Y7):List (Str×Nat×Value):=("MOST_RUN",260,.int 20 259)::("MOST_CLEAR",262,.int 5 261)::("MOST_TRAINS",264,.int 5 263)::("MOST_READY",266,.int 60 265)::("Line",311,.ref 94)::("check_line",320,.ref 105)::("way",330,.ref 112)::t
def EZ (t:Y7):List (Str×Nat×Value):=("check_train",341,.ref 119)::("ways",347,.ref 124)::("waits_of",367,.ref 131)::("check_orders",373,.ref 136)::("in_turn",382,.ref 143)::("freed",388,.ref 148)::("held_by",394,.ref 153)::t
def E0 (t:Y7):List (Str×Nat×Value):=("ring_of",400,.ref 158)::("least_table",414,.ref 165)::("least_enters",420,.ref 170)::("table_of",426,.ref 175)::("row_of",432,.ref 180)::("_law_drawn",445,.ref 187)::("_law_whole",452,.ref 194)::t
def E2 (t:Y7):List (Str×Nat×Value):=("_law_row",461,.ref 201)::("_law_rows",470,.ref 208)::("_law_line_by",476,.ref 213)::("_law_trains_by",490,.ref 220)::("_law_way",496,.ref 225)::("_law_users",502,.ref 230)::("_law_orders_by",508,.ref 235)::t
def E3 (t:Y7):List (Str×Nat×Value):=("_law_waits",522,.ref 242)::("_law_least",528,.ref 247)::("_law_is_ring",539,.ref 254)::("law",545,.ref 259)::t
def BV (P:Params) :Obj×Obj×Obj×Obj×Obj×Obj×Obj×Obj:=(kd P (EW (EX (EY (EZ (E0 (E2 (E3 []))))))) 46,kd P (("__module__",196,.str "haltline.errors" 187)::("__firstlineno__",200,.int 2 199)::("__static_attributes__",201,.ref 22)::("__weakref__",203,.ref 25)::("__doc__",204,.none)::[]) 3,⟨.type "type",none,.cls ⟨"HaltError",[.type "ValueError"],[.ref 24,.type "ValueError",.type "Exception",.type "BaseException",.type "object"],23,"HaltError",true,[],[.ref 37,.ref 49,.ref 61],false,none,false⟩,#[some (.ref 15),none,some (.str "HaltError" 189),some (.str "HaltError" 197),some (.builtin "ValueError.__new__"),some (.bool true)]⟩,kd P (("__module__",214,.str "haltline.errors" 187)::("__firstlineno__",218,.int 4 217)::("__static_attributes__",219,.ref 35)::("__doc__",220,.none)::[]) 2,⟨.type "type",none,.cls ⟨"BadLine",[.ref 24],[.ref 37,.ref 24,.type "ValueError",.type "Exception",.type "BaseException",.type "object"],36,"BadLine",true,[],[],false,none,false⟩,#[some (.ref 28),none,some (.str "BadLine" 207),some (.str "BadLine" 215),some (.builtin "ValueError.__new__"),some (.bool true)]⟩,kd P (("__module__",230,.str "haltline.errors" 187)::("__firstlineno__",234,.int 6 233)::("__static_attributes__",235,.ref 47)::("__doc__",236,.none)::[]) 2,⟨.type "type",none,.cls ⟨"BadTrains",[.ref 24],[.ref 49,.ref 24,.type "ValueError",.type "Exception",.type "BaseException",.type "object"],48,"BadTrains",true,[],[],false,none,false⟩,#[some (.ref 40),none,some (.str "BadTrains" 223),some (.str "BadTrains" 231),some (.builtin "ValueError.__new__"),some (.bool true)]⟩,kd P (("__module__",246,.str "haltline.errors" 187)::("__firstlineno__",250,.int 8 249)::("__static_attributes__",251,.ref 59)::("__doc__",252,.none)::[]) 2)
def BW (P:Params) :Obj×Obj×Obj×Obj×Obj×Obj×Obj×Obj:=(⟨.type "type",none,.cls ⟨"BadOrders",[.ref 24],[.ref 61,.ref 24,.type "ValueError",.type "Exception",.type "BaseException",.type "object"],60,"BadOrders",true,[],[],false,none,false⟩,#[some (.ref 52),none,some (.str "BadOrders" 239),some (.str "BadOrders" 247),some (.builtin "ValueError.__new__"),some (.bool true)]⟩,kc "__init__" "Line.__init__" 279 18 3 3 71 181 285,kf "__init__" "Line.__init__" (jh (top 11) 0) "haltline.line" 255 76,kc "runs" "Line.runs" 288 23 1 3 78 181 292,kf "runs" "Line.runs" (jh (top 11) 1) "haltline.line" 255 83,kc "clear" "Line.clear" 295 26 1 3 85 181 299,kf "clear" "Line.clear" (jh (top 11) 2) "haltline.line" 255 90,kd P (("__module__",274,.str "haltline.line" 255)::("__firstlineno__",278,.int 16 277)::("__init__",287,.ref 77)::("runs",294,.ref 84)::("clear",301,.ref 91)::("__static_attributes__",304,.ref 92)::("__dict__",306,.ref 95)::("__weakref__",308,.ref 96)::("__doc__",309,.none)::[]) 4)
def BX (P:Params) :Obj×Obj×Obj×Obj×Obj×Obj×Obj×Obj:=(⟨.type "type",none,.cls ⟨"Line",[.type "object"],[.ref 94,.type "object"],93,"Line",true,[],[],false,none,false⟩,#[none,none,some (.str "Line" 267),some (.str "Line" 275),some (.builtin "object.__new__"),some (.bool true)]⟩,kc "check_line" "check_line" 312 28 2 3 99 181 318,kf "check_line" "check_line" (top 12) "haltline.line" 255 104,kc "way" "way" 321 36 2 3 106 181 328,kf "way" "way" (top 13) "haltline.line" 255 111,kc "check_train" "check_train" 331 43 2 3 113 181 339,kf "check_train" "check_train" (top 14) "haltline.line" 255 118,kn "ways" "ways" 342 55 2 3 120 181 345)
def BY (P:Params) :Obj×Obj×Obj×Obj×Obj×Obj×Obj×Obj:=(kf "ways" "ways" (top 15) "haltline.line" 255 123,kc "waits_of" "waits_of" 350 60 3 3 125 181 365,kf "waits_of" "waits_of" (top 17) "haltline.waits" 348 130,kn "check_orders" "check_orders" 368 74 3 3 132 181 371,kf "check_orders" "check_orders" (top 18) "haltline.waits" 348 135,kc "in_turn" "in_turn" 374 81 1 3 137 181 380,kf "in_turn" "in_turn" (top 19) "haltline.waits" 348 142,kn "freed" "freed" 383 88 2 3 144 181 386)
def BZ (P:Params) :Obj×Obj×Obj×Obj×Obj×Obj×Obj×Obj:=(kf "freed" "freed" (top 20) "haltline.waits" 348 147,kn "held_by" "held_by" 389 90 3 3 149 181 392,kf "held_by" "held_by" (top 21) "haltline.waits" 348 152,kn "ring_of" "ring_of" 395 92 2 3 154 181 398,kf "ring_of" "ring_of" (top 22) "haltline.waits" 348 157,kc "least_table" "least_table" 403 100 3 3 159 181 412,kf "least_table" "least_table" (top 24) "haltline.times" 401 164,kn "least_enters" "least_enters" 415 107 3 3 166 181 418)
def B0 (P:Params) :Obj×Obj×Obj×Obj×Obj×Obj×Obj×Obj:=(kf "least_enters" "least_enters" (top 25) "haltline.times" 401 169,kn "table_of" "table_of" 421 113 2 3 171 181 424,kf "table_of" "table_of" (top 26) "haltline.times" 401 174,kn "row_of" "row_of" 427 115 3 3 176 181 430,kf "row_of" "row_of" (top 27) "haltline.times" 401 179,kc "_law_drawn" "_law_drawn" 435 118 3 3 181 181 443,kf "_law_drawn" "_law_drawn" (top 29) "law_haltline_k04_whole_least_tables" 433 186,kc "_law_whole" "_law_whole" 446 125 1 3 188 181 450)
def kk6 (P:Params) :Obj×Obj×Obj×Obj×Obj×Obj×Obj×Obj:=(kf "_law_whole" "_law_whole" (top 30) "law_haltline_k04_whole_least_tables" 433 193,kc "_law_row" "_law_row" 453 127 2 3 195 181 459,kf "_law_row" "_law_row" (top 31) "law_haltline_k04_whole_least_tables" 433 200,kc "_law_rows" "_law_rows" 462 134 2 3 202 181 468,kf "_law_rows" "_law_rows" (top 32) "law_haltline_k04_whole_least_tables" 433 207,kn "_law_line_by" "_law_line_by" 471 141 2 3 209 181 474,kf "_law_line_by" "_law_line_by" (top 33) "law_haltline_k04_whole_least_tables" 433 212,kc "_law_trains_by" "_law_trains_by" 477 145 4 3 214 181 488)
def B1 (P:Params) :Obj×Obj×Obj×Obj×Obj×Obj×Obj×Obj:=(kf "_law_trains_by" "_law_trains_by" (top 34) "law_haltline_k04_whole_least_tables" 433 219,kn "_law_way" "_law_way" 491 155 1 3 221 181 494,kf "_law_way" "_law_way" (top 35) "law_haltline_k04_whole_least_tables" 433 224,kn "_law_users" "_law_users" 497 159 2 3 226 181 500,kf "_law_users" "_law_users" (top 36) "law_haltline_k04_whole_least_tables" 433 229,kn "_law_orders_by" "_law_orders_by" 503 161 5 3 231 181 506,kf "_law_orders_by" "_law_orders_by" (top 37) "law_haltline_k04_whole_least_tables" 433 234,kc "_law_waits" "_law_waits" 509 176 3 3 236 181 520)
def Dh (P:Params) :Obj×Obj×Obj×Obj×Obj×Obj×Obj:=(kf "_law_waits" "_law_waits" (top 38) "law_haltline_k04_whole_least_tables" 433 241,kn "_law_least" "_law_least" 523 187 4 3 243 181 526,kf "_law_least" "_law_least" (top 39) "law_haltline_k04_whole_least_tables" 433 246,kc "_law_is_ring" "_law_is_ring" 529 205 3 3 248 181 537,kf "_law_is_ring" "_law_is_ring" (top 40) "law_haltline_k04_whole_least_tables" 433 253,kn "law" "law" 540 217 1 3 255 181 543,kf "law" "law" (top 41) "law_haltline_k04_whole_least_tables" 433 258)
def KK (P:Params):W.Frag:=
 (nat_lit 3,(BV P).1) ::
 (nat_lit 23,(BV P).2.1) ::
 (nat_lit 24,(BV P).2.2.1) ::
 (nat_lit 36,(BV P).2.2.2.1) ::
 (nat_lit 37,(BV P).2.2.2.2.1) ::
 (nat_lit 48,(BV P).2.2.2.2.2.1) ::
 (nat_lit 49,(BV P).2.2.2.2.2.2.1) ::
 (nat_lit 60,(BV P).2.2.2.2.2.2.2) ::
 (nat_lit 61,(BW P).1) ::
 (nat_lit 76,(BW P).2.1) ::
 (nat_lit 77,(BW P).2.2.1) ::
 (nat_lit 83,(BW P).2.2.2.1) ::
 (nat_lit 84,(BW P).2.2.2.2.1) ::
 (nat_lit 90,(BW P).2.2.2.2.2.1) ::
 (nat_lit 91,(BW P).2.2.2.2.2.2.1) ::
 (nat_lit 93,(BW P).2.2.2.2.2.2.2) ::
 (nat_lit 94,(BX P).1) ::
 (nat_lit 104,(BX P).2.1) ::
 (nat_lit 105,(BX P).2.2.1) ::
 (nat_lit 111,(BX P).2.2.2.1) ::
 (nat_lit 112,(BX P).2.2.2.2.1) ::
 (nat_lit 118,(BX P).2.2.2.2.2.1) ::
 (nat_lit 119,(BX P).2.2.2.2.2.2.1) ::
 (nat_lit 123,(BX P).2.2.2.2.2.2.2) ::
 (nat_lit 124,(BY P).1) ::
 (nat_lit 130,(BY P).2.1) ::
 (nat_lit 131,(BY P).2.2.1) ::
 (nat_lit 135,(BY P).2.2.2.1) ::
 (nat_lit 136,(BY P).2.2.2.2.1) ::
 (nat_lit 142,(BY P).2.2.2.2.2.1) ::
 (nat_lit 143,(BY P).2.2.2.2.2.2.1) ::
 (nat_lit 147,(BY P).2.2.2.2.2.2.2) ::
 (nat_lit 148,(BZ P).1) ::
 (nat_lit 152,(BZ P).2.1) ::
 (nat_lit 153,(BZ P).2.2.1) ::
 (nat_lit 157,(BZ P).2.2.2.1) ::
 (nat_lit 158,(BZ P).2.2.2.2.1) ::
 (nat_lit 164,(BZ P).2.2.2.2.2.1) ::
 (nat_lit 165,(BZ P).2.2.2.2.2.2.1) ::
 (nat_lit 169,(BZ P).2.2.2.2.2.2.2) ::
 (nat_lit 170,(B0 P).1) ::
 (nat_lit 174,(B0 P).2.1) ::
 (nat_lit 175,(B0 P).2.2.1) ::
 (nat_lit 179,(B0 P).2.2.2.1) ::
 (nat_lit 180,(B0 P).2.2.2.2.1) ::
 (nat_lit 186,(B0 P).2.2.2.2.2.1) ::
 (nat_lit 187,(B0 P).2.2.2.2.2.2.1) ::
 (nat_lit 193,(B0 P).2.2.2.2.2.2.2) ::
 (nat_lit 194,(kk6 P).1) ::
 (nat_lit 200,(kk6 P).2.1) ::
 (nat_lit 201,(kk6 P).2.2.1) ::
 (nat_lit 207,(kk6 P).2.2.2.1) ::
 (nat_lit 208,(kk6 P).2.2.2.2.1) ::
 (nat_lit 212,(kk6 P).2.2.2.2.2.1) ::
 (nat_lit 213,(kk6 P).2.2.2.2.2.2.1) ::
 (nat_lit 219,(kk6 P).2.2.2.2.2.2.2) ::
 (nat_lit 220,(B1 P).1) ::
 (nat_lit 224,(B1 P).2.1) ::
 (nat_lit 225,(B1 P).2.2.1) ::
 (nat_lit 229,(B1 P).2.2.2.1) ::
 (nat_lit 230,(B1 P).2.2.2.2.1) ::
 (nat_lit 234,(B1 P).2.2.2.2.2.1) ::
 (nat_lit 235,(B1 P).2.2.2.2.2.2.1) ::
 (nat_lit 241,(B1 P).2.2.2.2.2.2.2) ::
 (nat_lit 242,(Dh P).1) ::
 (nat_lit 246,(Dh P).2.1) ::
 (nat_lit 247,(Dh P).2.2.1) ::
 (nat_lit 253,(Dh P).2.2.2.1) ::
 (nat_lit 254,(Dh P).2.2.2.2.1) ::
 (nat_lit 258,(Dh P).2.2.2.2.2.1) ::
 (nat_lit 259,(Dh P).2.2.2.2.2.2) ::
 []
end K04
def PySem.W.Fast.tw6265735828666636973 := 0
def PySem.W.Fast.tw8413513843363810196 := 0
def PySem.W.Fast.tw16321486827815937299 := 0
def PySem.W.Fast.tw12262155859569825786 := 0
def PySem.W.Fast.tw16415365923129841551 := 0
def PySem.W.Fast.tw5428894324882141076 := 0
def PySem.W.Fast.tw7800351544645808210 := 0
def PySem.W.Fast.tw12477559172542862715 := 0
def PySem.W.Fast.tw15412363728445047234 := 0
def PySem.W.Fast.tw7185825698851409641 := 0
def PySem.W.Fast.tw7391086608016023651 := 0
def PySem.W.Fast.tw2704107307684177594 := 0
def PySem.W.Fast.tw8185088241371678474 := 0
def PySem.W.Fast.tw6013805949738790708 := 0
def PySem.W.Fast.tw17261816882455967230 := 0
def PySem.W.Fast.tw16969044813591900744 := 0
def PySem.W.Fast.tw5557772479313904957 := 0
def PySem.W.Fast.tw5408779842525154107 := 0
def PySem.W.Fast.tw5388369763294918849 := 0
def PySem.W.Fast.tw13264262820408445207 := 0
open PySem PySem.W PyProof.Rows
set_option maxRecDepth 100000 in
set_option maxHeartbeats 0 in
theorem PySem.Challenge.cw_haltline_k04_whole_least_tables_holds : PySem.Challenge.rw_haltline_k04_whole_least_tables.Holds := by
 w_on;o_law;(o_head (kHook K04.KK (3::23::24::36::37::48::49::60::61::76::77::83::84::90::91::93::94::104::105::111::112::118::119::123::124::130::131::135::136::142::143::147::148::152::153::157::158::164::165::169::170::174::175::179::180::186::187::193::194::200::201::207::208::212::213::219::220::224::225::229::230::234::235::241::242::246::247::253::254::258::259::[]) (λ_=>by kernel_rfl)));(case hw=>w_witness2)
 k_fill
 refine L2.yh 6 (l:=PySem.Challenge.rw_haltline_k04_whole_least_tables) ⟨rfl,by decide,by decide,rfl⟩ rfl rfl (λw h Y=>PySem.W.kIn_of Y) ?F
 case F=>
  intro w mg fa h KX G hmg
  refine' K04.Ck KX G hmg ?_ ?_ ?_ ?_ ?_ ?_ ?_ ?_ ?_ ?_ ?_ ?_ ?_ ?_ ?_ ?_ ?_ ?_ ?_ ?_ ?_ ?_ ?_ ?_ ?_ ?_ ?_ ?_ ?_ ?_ ?_ ?_ ?_ ?_ ?_ ?_ ?_ ?_ ?_ ?_ ?_ ?_ ?_ ?_ ?_ ?_ ?_ ?_ ?_ ?_ ?_ ?_ ?_ ?_ ?_ ?_ ?_
  all_goals first|k_is|exact⟨_,by k_is,_,_,_,by k_is,by k_is⟩|exact⟨_,_,_,_,_,_,_,_,_,_,_,_,_,_,_,_,by k_is,by kernel_rfl,by k_is,by kernel_rfl⟩|rfl|k_exc|decide|skip
#print axioms PySem.Challenge.cw_haltline_k04_whole_least_tables_holds
