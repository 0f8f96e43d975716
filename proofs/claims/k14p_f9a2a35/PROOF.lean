import PyProof.Rows.All
import Wide.All
import OpenK.AllK
import Wide.FinOn
import Lean
import PyProof.EqAt
import PyProof.EqKinds
import PyProof.TupleCall
import PyProof.NeKinds
import PyProof.StrLawsTight
import PyProof.Conv_int
import PyProof.StrLawsRepr
import PyProof.ReprStr
import KE.KSortTup
import KE.KRevSl
import PyProof.DictIter
import PyProof.DictValues
import PyProof.DictTruth
import PySem.Challenge.RW_haltline_k14_refusals_apart
open List(all_eq_true any_cons any_map any_toArray append_assoc append_nil contains ext_getElem? filterMap_map find?_cons flatMap_append flatMap_cons flatMap_singleton flatten_cons getD_eq_getElem?_getD getElem?_map getElem?_replicate getElem?_set getElem?_set_ne getElem?_set_self getElem_mem length_append length_cons length_map length_nil length_pos_iff length_range length_replicate length_set length_take length_zip length_zipIdx lookup_cons map_append map_congr_left map_cons map_map map_nil mem_append mem_append_left mem_append_right mem_cons mem_cons_of_mem mem_cons_self mem_filter mem_filterMap mem_flatMap mem_map mem_of_getElem? mem_range mem_singleton nodup_append nodup_cons nodup_nil not_mem_nil of_mem_zip pairwise_map replicate replicate_succ size_toArray)
open Nat(le_add_right le_of_lt le_refl le_succ le_trans lt_irrefl lt_of_lt_of_le lt_succ_of_lt lt_succ_self ne_of_gt ne_of_lt zero_le)
open Bool(and_eq_true false_eq_true or_eq_true)
open Int(toNat_natCast)
open Array(getElem?_eq_getElem length_toList toList)
open Option(bind_some getD_none map_some)
set_option Elab.async false
set_option linter.all false
set_option maxRecDepth 100000
set_option bootstrap.genMatcherCode false
set_option genSizeOf false
set_option compiler.extract_closed false
namespace L2
open PySem PySem.Spec PyProof.Rows
theorem jj {α:Type}{l:List α}{i:Nat}{a:α}(h:l[i]?=some a):∃h:i<l.length,l[i]=a:=List.getElem?_eq_some_iff.mp h
theorem dQ {α:Type}{a b:α}{l:List α}(h:a∈l):a∈b::l:=.tail _ h
theorem se {α:Type}{l:List α}{i:Nat}(h:i<l.length):l[i]?=some l[i]:=List.getElem?_eq_getElem h
noncomputable abbrev aV:=Sum Int Str
noncomputable def mn:aV→Value→Bool
 |.inl k,v=>Value.isInt k v
 |.inr x,v=>Value.isStrOf x v
noncomputable def Do (w:World):aV→Int
 |.inl k=>hashInt k
 |.inr x=>hashStr w x
theorem ba:∀{k:aV} {v:Value},mn k v=true→(∃i t,k=Sum.inl i∧v=Value.int i t)∨(∃x t,k=Sum.inr x∧v=Value.str x t)
 |.inl i,v,h=>by
  obtain⟨t,e⟩:=Value.isInt_shape (k:=i) (v:=v) h;exact .inl ⟨i,t,rfl,e⟩
 |.inr x,v,h=>by
  obtain⟨t,e⟩:=Value.isStrOf_shape (x:=x) (v:=v) h;exact .inr ⟨x,t,rfl,e⟩
theorem tQ (i:Int)(t:Tok):mn (.inl i) (.int i t)=true:=by simp[mn,Value.isInt]
theorem tS (x:Str)(t:Tok):mn (.inr x) (.str x t)=true:=by simp[mn,Value.isStrOf]
theorem AH (a b:Int):decide ((Sum.inl a:aV)=Sum.inl b)=(a==b):=by
 by_cases e:a=b
 ·subst e;simp
 ·have h:¬(Sum.inl a:aV)=Sum.inl b:=fun q=>e (Sum.inl.inj q);rw[decide_eq_false h];exact(beq_eq_false_iff_ne.mpr e).symm
theorem AK (a b:Str):decide ((Sum.inr a:aV)=Sum.inr b)=decide (a=b):=by
 by_cases e:a=b
 ·subst e;simp
 ·have h:¬(Sum.inr a:aV)=Sum.inr b:=fun q=>e (Sum.inr.inj q);rw[decide_eq_false h,decide_eq_false e]
theorem AI (a:Int)(b:Str):decide ((Sum.inl a:aV)=Sum.inr b)=false:=decide_eq_false (fun q=>nomatch q)
theorem AJ (a:Str)(b:Int):decide ((Sum.inr a:aV)=Sum.inl b)=false:=decide_eq_false (fun q=>nomatch q)
noncomputable def a8 (prog:Program)(w:World):PySem.KeyKind prog w aV where
 is:=mn
 hash:=Do w
 inj:=fun v a b ha hb=>by
  rcases ba ha with ⟨i,t,rfl,rfl⟩|⟨x,t,rfl,rfl⟩
  ·rcases ba hb with ⟨j,u,rfl,e⟩|⟨y,u,rfl,e⟩
   ·injection e with e1 _;rw[e1]
   ·exact nomatch e
  ·rcases ba hb with ⟨j,u,rfl,e⟩|⟨y,u,rfl,e⟩
   ·exact nomatch e
   ·injection e with e1 _;rw[e1]
 byValue:=fun k v h=>by
  rcases ba h with ⟨i,t,rfl,rfl⟩|⟨x,t,rfl,rfl⟩ <;> rfl
 pyHash:=fun hv h=>by
  rcases ba hv with ⟨i,t,rfl,rfl⟩|⟨x,t,rfl,rfl⟩
  ·exact wpAny_pyHash_int h
  ·exact wpAny_pyHash_str h
 eqBool:=fun hu hv h=>by
  rcases ba hu with ⟨i,t,rfl,rfl⟩|⟨x,t,rfl,rfl⟩
  ·rcases ba hv with ⟨j,u,rfl,rfl⟩|⟨y,u,rfl,rfl⟩
   ·rw[AH]at h;exact wpAny_eqBool_int h
   ·rw[AI]at h;exact SeqAt.EqAt.int_str i t y u _ _ _ _ h
  ·rcases ba hv with ⟨j,u,rfl,rfl⟩|⟨y,u,rfl,rfl⟩
   ·rw[AJ]at h;exact SeqAt.EqAt.str_int x t j u _ _ _ _ h
   ·rw[AK]at h;exact wpAny_eqBool_str h
 «strs»:=fun k x t v h=>by
  rcases ba h with ⟨i,u,rfl,e⟩|⟨y,u,rfl,e⟩
  ·exact nomatch e
  ·injection e with e1 _
   subst e1;cases v <;> rfl
theorem pT (prog:Program)(w:World)(i:Int)(t:Tok):(a8 prog w).is (.inl i) (.int i t)=true:=tQ i t
theorem pU (prog:Program)(w:World)(x:Str)(t:Tok):(a8 prog w).is (.inr x) (.str x t)=true:=tS x t
inductive V where
 |non|bl (b:Bool)|int (i:Int)|str (x:Str)|byt (b:Array UInt8)|flt (b:UInt64)|ref (a:Addr)|ty (n:String)
 deriving DecidableEq
noncomputable def RelV:V→Value→Prop
 |.non,u=>u=Value.none
 |.bl b,u=>u=Value.bool b
 |.int i,u=>∃t,u=Value.int i t
 |.str x,u=>∃t,u=Value.str x t
 |.byt b,u=>∃t,u=Value.bytes b t
 |.flt b,u=>∃t,u=Value.float b t
 |.ref a,u=>u=Value.ref a
 |.ty n,u=>u=Value.type n
noncomputable abbrev Vals:List V→List Value→Prop:=Paired RelV
theorem Vals.length {xs:List V}{us:List Value}(r:Vals xs us):xs.length=us.length:=Paired.length r
theorem Vals.get:∀{xs:List V} {us:List Value} {i:Nat} {x:V},Vals xs us→xs[i]?=some x→∃u,us[i]?=some u∧RelV x u
 |_,_,_,_,.nil,e=>by simp at e
 |_,_,0,_,.cons r _,e=>by simp at e;subst e;exact⟨_,rfl,r⟩
 |_,_,i+1,x,.cons _ t,e=>by
  obtain⟨u,h1,h2⟩:=Vals.get (i:=i) (x:=x) t (by simpa using e);exact⟨u,by simpa using h1,h2⟩
theorem Vals.append:∀{xs ys:List V} {us ws:List Value},Vals xs us→Vals ys ws→Vals (xs ++ ys) (us ++ ws)
 |_,_,_,_,.nil,s=>s
 |_,_,_,_,.cons r t,s=>.cons r (Vals.append t s)
theorem Vals.take:∀{xs:List V} {us:List Value} (n:Nat),Vals xs us→Vals (xs.take n) (us.take n)
 |_,_,0,_=>.nil
 |_,_,_+1,.nil=>.nil
 |_,_,n+1,.cons r t=>.cons r (Vals.take n t)
theorem Vals.drop:∀{xs:List V} {us:List Value} (n:Nat),Vals xs us→Vals (xs.drop n) (us.drop n)
 |_,_,0,r=>r
 |_,_,_+1,.nil=>.nil
 |_,_,n+1,.cons _ t=>Vals.drop n t
noncomputable def RelO:Option V→Option Value→Prop
 |some v,some u=>RelV v u
 |none,none=>True
 |_,_=>False
noncomputable def KV {κ:Type}:List (κ×V)→List (κ×Value)→Prop:=Paired fun (p:κ×V) (q:κ×Value)=>p.1=q.1∧RelV p.2 q.2
noncomputable def kV:aV→V
 |.inl i=>.int i
 |.inr x=>.str x
inductive HO where
 /-- a list -/
 |lst (xs:List V)
 /-- a tuple (never changes) -/
 |tup (xs:List V)
 /-- a dict whose keys are ints and texts;one whose keys are tuples of ints and texts (the empty one is both) -/
 |dK (kvs:List (aV×V))|dT (kvs:List (List aV×V))
 /-- a set of ints:its members,its size -/
 |set (S:Int→Bool) (n:Nat)
 /-- an instance of the class at C,its dict at dx,its attributes -/
 |ins (C dx:Addr) (fs:List (Str×V))
 /-- the dict of the instance at x -/
 |own (x:Addr)
 /-- the dict of an exception -/
 |xd (fs:List (Str×V))
 /-- a bound method,f of x -/
 |met (f x:Addr)
 /-- a range object lo,lo+1,.. below hi -/
 |rng (lo hi:Int)
 /-- a thing that is known to the object (the script;a dict while a loop walks it):read,never written while it is so -/
 |frz (o:Obj) (u:HO)
 /-- a code object's table -/
 |tbl (ps:Array Value)
 /-- any other thing,by what is true of its one object (a def of one's own:SetO a S n:=HO.ext fun h=> ..) -/
 |ext (φ:Heap→Prop)
noncomputable abbrev Hp:=Addr→Option HO
noncomputable def aS (H:Hp)(a:Addr)(o:HO):Hp:=fun b=>if b=a then some o else H b
theorem ao {H:Hp}{a:Addr}{o:HO}:aS H a o a=some o:=by unfold aS;rw[if_pos rfl]
theorem ai {H:Hp}{a b:Addr}{o:HO}(h:b≠a):aS H a o b=H b:=by unfold aS;rw[if_neg h]
theorem Cu {H:Hp}{a b:Addr}{o u:HO}(h:H a=some o)(h':H b=some u)(d:o≠u):a≠b:=by
 intro e;subst e;rw[h]at h';exact d (Option.some.inj h')
theorem ap {H:Hp}{a b:Addr}{o:HO}(h:H a=some o)(h':H b=none):a≠b:=by
 intro e;subst e;rw[h]at h';cases h'
section
variable(P:Program)(w:World)
noncomputable def ObjOk (H:Hp)(h:Heap)(a:Addr):HO→Prop
 |.lst xs=>xs.length≤sizeLine∧∃(its:List Value) (n:Nat),Vals xs its∧h.get? a=some {cls:=.type "list",data:=.seq its.toArray n}
 |.tup xs=>xs.length≤sizeLine∧∃its:List Value,Vals xs its∧IsTup h a its.toArray
 |.dK kvs=>kvs.length≤sizeLine∧(a==sysModules)=false∧∃vs,KV kvs vs∧h.DictOf (a8 P w) a vs
 |.dT kvs=>kvs.length≤sizeLine∧(a==sysModules)=false∧∃xs:List (List aV×Addr×Value),
   Paired (fun (p:List aV×V) (q:List aV×Addr×Value)=>p.1=q.1∧H q.2.1=some (.tup (p.1.map kV))∧RelV p.2 q.2.2) kvs xs∧
   ∃o es ep,h.get? a=some o∧o.ExactDict∧o.data= .dict es ep∧es.toList=xs.map (entryOfKey (tupleKind (a8 P w)))∧(xs.map (·.1)).Nodup
 |.set S n=>h.SetOf (intKind P w) a S n
 |.ins C dx fs=>H dx=some (.own a)∧fs.length≤1000∧dx≠a∧h.get? a=some (W.instObj C dx)∧
   ∃mA,h.Ns1 dx mA∧(∀f,RelO (fs.lookup f) (mA f))∧PySem.Within mA (fs.map (·.1))
 |.own _=>∃o,h.get? a=some o
 |.xd fs=>∃mA,h.Ns1 a mA∧∀f,RelO (fs.lookup f) (mA f)
 |.rng lo hi=>∃t u v,h.get? a=some {cls:=.type "range",data:=.fields #[.int lo t,.int hi u,.int 1 v]}
 |.frz o u=>h.get? a=some o∧ObjOk H h a u
 |.tbl ps=>h.get? a=some {cls:=.none,data:=.fields ps}
 |.met f x=>h.get? a=some (W.methodObj (.ref f) (.ref x))
 |.ext φ=>φ h∧(∃o,h.get? a=some o)∧∀h1 h2:Heap,φ h1→(∀o,h1.get? a=some o→h2.get? a=some o)→φ h2
noncomputable def HOk (H:Hp)(h:Heap):Prop:=∀a o,H a=some o→ObjOk P w H h a o
end
section
variable{P:Program}{w:World}{H H':Hp}{h h':Heap}{a:Addr}{o:HO}
theorem ObjOk.lt (x:ObjOk P w H h a o):a<h.objs.size:=by
 cases o with
 |lst xs=>obtain⟨_,_,_,_,e⟩:=x;exact Heap.lt_size e
 |tup xs=>obtain⟨_,_,_,p⟩:=x;exact p.lt
 |dK kvs=>obtain⟨_,_,_,_,o,_,_,e,_⟩:=x;exact Heap.lt_size e
 |dT kvs=>obtain⟨_,_,_,_,o,_,_,e,_⟩:=x;exact Heap.lt_size e
 |set S n=>obtain⟨o,_,_,_,e,_⟩:=x;exact Heap.lt_size e
 |ins C dx fs=>obtain⟨_,_,_,e,_⟩:=x;exact Heap.lt_size e
 |own y=>obtain⟨_,e⟩:=x;exact Heap.lt_size e
 |xd fs=>obtain⟨_,⟨_,_,_,e,_⟩,_⟩:=x;exact Heap.lt_size e
 |rng lo hi=>obtain⟨_,_,_,e⟩:=x;exact Heap.lt_size e
 |frz ob u=>obtain⟨e,_⟩:=x;exact Heap.lt_size e
 |tbl ps=>exact Heap.lt_size (show h.get? a=some _ from x)
 |met f y=>exact Heap.lt_size (show h.get? a=some _ from x)
 |ext φ=>obtain⟨_,⟨_,e⟩,_⟩:=x;exact Heap.lt_size e
theorem Paired.mapP {α β:Type}{F G:α→β→Prop}:∀{l₁:List α} {l₂:List β},Paired F l₁ l₂→(∀a b,F a b→G a b)→Paired G l₁ l₂
 |_,_,.nil,_=>.nil
 |_,_,.cons r t,f=>.cons (f _ _ r) (Paired.mapP t f)
theorem ObjOk.stay (x:ObjOk P w H h a o)(k:∀b u,(b=a∨H b=some (.own a))→h.get? b=some u→h'.get? b=some u)
  (ho:∀b,H b=some (.own a)→H' b=some (.own a)) (ht:∀b xs,H b=some (.tup xs)→H' b=some (.tup xs)):ObjOk P w H' h' a o:=by
 induction o with
 |lst xs=>obtain⟨z,its,n,r,e⟩:=x;exact⟨z,its,n,r,k _ _ (.inl rfl) e⟩
 |tup xs=>obtain⟨z,its,r,g,e,c⟩:=x;exact⟨z,its,r,g,k _ _ (.inl rfl) e,c⟩
 |dK kvs=>obtain⟨z,y,vs,r,g,j,i,e,c⟩:=x;exact⟨z,y,vs,r,g,j,i,k _ _ (.inl rfl) e,c⟩
 |dT kvs=>
  obtain⟨z,y,xs,r,g,j,i,e,c⟩:=x;exact⟨z,y,xs,Paired.mapP r fun p q z=>⟨z.1,ht _ _ z.2.1,z.2.2⟩,g,j,i,k _ _ (.inl rfl) e,c⟩
 |set S n=>obtain⟨g,j,i,t,e,c⟩:=x;exact⟨g,j,i,t,k _ _ (.inl rfl) e,c⟩
 |ins C dx fs=>
  obtain⟨d,z,ne,e,mA,⟨od,j,i,e2,c⟩,r⟩:=x;exact⟨ho _ d,z,ne,k _ _ (.inl rfl) e,mA,⟨od,j,i,k _ _ (.inr d) e2,c⟩,r⟩
 |own y=>obtain⟨g,e⟩:=x;exact⟨g,k _ _ (.inl rfl) e⟩
 |xd fs=>obtain⟨mA,⟨od,j,i,e,c⟩,r⟩:=x;exact⟨mA,⟨od,j,i,k _ _ (.inl rfl) e,c⟩,r⟩
 |rng lo hi=>obtain⟨t,u,v,e⟩:=x;exact⟨t,u,v,k _ _ (.inl rfl) e⟩
 |frz g u ih=>obtain⟨e,q⟩:=x;exact⟨k _ _ (.inl rfl) e,ih q⟩
 |tbl ps=>
  have e:h.get? a=some {cls:=.none,data:=.fields ps}:=x;show h'.get? a=some {cls:=.none,data:=.fields ps};exact k a _ (.inl rfl) e
 |met f y=>
  have e:h.get? a=some (W.methodObj (.ref f) (.ref y)):=x;show h'.get? a=some (W.methodObj (.ref f) (.ref y));exact k a _ (.inl rfl) e
 |ext φ=>obtain⟨p,⟨o,e⟩,st⟩:=x;exact⟨st _ _ p fun o q=>k _ _ (.inl rfl) q,⟨o,k _ _ (.inl rfl) e⟩,st⟩
theorem HOk.lt (x:HOk P w H h)(e:H a=some o):a<h.objs.size:=(x a o e).lt
theorem HOk.fresh (x:HOk P w H h)(e:h.objs.size≤a):H a=none:=by
 cases q:H a with
 |none=>rfl
 |some u=>exact absurd (lt_of_lt_of_le (x.lt q) e) (lt_irrefl _)
theorem HOk.kept (x:HOk P w H h)(k:∀b u,h.get? b=some u→h'.get? b=some u):HOk P w H h':=fun a o e=>
 (x a o e).stay (fun b u _ q=>k b u q) (fun _ q=>q) fun _ _ q=>q
theorem HOk.laid (x:HOk P w H h)(k:∀b u,h.get? b=some u→h'.get? b=some u)(hp:h.objs.size≤a)(new:ObjOk P w (aS H a o) h' a o):HOk P w (aS H a o) h':=fun b u e=>by
 have hn:=x.fresh hp;by_cases hb:b=a
 ·subst hb;rw[ao]at e;cases e;exact new
 ·rw[ai hb]at e;exact(x b u e).stay (fun c v _ q=>k c v q) (fun c q=>by rw[ai (ap q hn)];exact q) fun c xs q=>by rw[ai (ap q hn)];exact q
end
noncomputable def Rd (H:Hp)(a:Addr)(u:HO):Prop:=H a=some u∨∃o,H a=some (.frz o u)
theorem Rd.ok {P:Program}{w:World}{H:Hp}{h:Heap}{a:Addr}{u:HO}(r:Rd H a u)(x:HOk P w H h):ObjOk P w H h a u:=by
 rcases r with r|⟨o,r⟩
 ·exact x a u r
 ·obtain⟨_,q⟩:=x a _ r;exact q
noncomputable def BK:Option HO→Prop
 |some (.lst _)=>True
 |some (.dK _)=>True
 |some (.dT _)=>True
 |some (.set _ _)=>True
 |some (.ins _ _ _)=>True
 |some (.ext _)=>True
 |_=>False
section
variable{P:Program}{w:World}{H:Hp}{h h':Heap}{x e:Addr}{o':HO}
theorem HOk.write (ok:HOk P w H h)(mu:BK (H x))(he:e=x∨H e=some (.own x))(k:∀b u,b≠e→h.get? b=some u→h'.get? b=some u)(heo:∃u,h'.get? e=some u)
  (new:ObjOk P w (aS H x o') h' x o'):HOk P w (aS H x o') h':=fun b u q=>by
 have nown:∀c y,H c=some (.own y)→c≠x:=fun c y r z=>by subst z;rw[r]at mu;exact mu
 have ntup:∀c xs,H c=some (.tup xs)→c≠x:=fun c xs r z=>by subst z;rw[r]at mu;exact mu
 by_cases hb:b=x
 ·subst hb;rw[ao]at q;cases q;exact new
 ·rw[ai hb]at q;by_cases d:b=e
  ·have q':H b=some (.own x):=by
    rcases he with z|z
    ·exact absurd (d.trans z) hb
    ·rw[d];exact z
   rw[q]at q';cases q';obtain⟨v,hv⟩:=heo;exact⟨v,by rw[d];exact hv⟩
  ·refine(ok b u q).stay (fun c v hc r=>k c v ?_ r) (fun c r=>by rw[ai (nown c b r)];exact r) fun c xs r=>by rw[ai (ntup c xs r)];exact r
   rcases hc with rfl|hc
   ·exact d
   ·rintro rfl
    rcases he with z|z
    ·exact nown c b hc z
    ·rw[hc]at z;cases z;exact hb rfl
end
structure Un (fs ex:List Addr)(H H':Hp)(h h':Heap):Prop where
 keep:∀b o,h.get? b=some o→H b=none→b∉fs→b∉ex→h'.get? b=some o
 slot:∀b o,h.get? b=some o→H b=none→b∈fs→b∉ex→∃sl,h'.get? b=some {o with slots:=sl}
 free:∀b o,h.get? b=some o→H b=none→b∉ex→H' b=none
 there:∀b o,h.get? b=some o→b∉ex→∃o',h'.get? b=some o'
 tups:∀b xs,H b=some (.tup xs)→H' b=some (.tup xs)
 frzs:∀b o u,H b=some (.frz o u)→H' b=some (.frz o u)
 tbls:∀b ps,H b=some (.tbl ps)→∃more,H' b=some (.tbl (ps ++ more))
section
variable{fs fs' ex ex':List Addr}{H H1 H2:Hp}{h h1 h2 h':Heap}{a x e:Addr}{o:HO}
theorem Un.any (u:Un fs ex H H1 h h1){b:Addr}{ob:Obj}(q:h.get? b=some ob)(n:H b=none)(hx:b∉ex):∃sl,h1.get? b=some {ob with slots:=sl}:=by
 by_cases hb:b∈fs
 ·exact u.slot b ob q n hb hx
 ·exact⟨ob.slots,u.keep b ob q n hb hx⟩
theorem Un.kept (k:∀b u,h.get? b=some u→h'.get? b=some u):Un fs ex H H h h':=
 ⟨fun b ob q _ _ _=>k b ob q,fun b ob q _ _ _=>⟨ob.slots,k b ob q⟩,fun _ _ _ n _=>n,fun b ob q _=>⟨ob,k b ob q⟩,fun _ _ q=>q,fun _ _ _ q=>q,fun _ ps q=>⟨#[],by rw[q];simp⟩⟩
theorem Un.refl:Un fs ex H H h h:=Un.kept fun _ _ q=>q
theorem Un.laid (k:∀b u,h.get? b=some u→h'.get? b=some u)(hp:h.objs.size≤a)(hn:H a=none):Un fs ex H (aS H a o) h h' where
 keep:=fun b u q _ _ _=>k b u q
 slot:=fun b u q _ _ _=>⟨u.slots,k b u q⟩
 free:=fun b u q n _=>by rw[ai (ne_of_lt (lt_of_lt_of_le (Heap.lt_size q) hp))];exact n
 there:=fun b u q _=>⟨u,k b u q⟩
 tups:=fun b xs q=>by rw[ai (ap q hn)];exact q
 frzs:=fun b u xs q=>by rw[ai (ap q hn)];exact q
 tbls:=fun b ps q=>⟨#[],by rw[ai (ap q hn),q];simp⟩
theorem Un.write (mu:BK (H x))(he:e=x∨H e=some (.own x))(k:∀b u,b≠e→h.get? b=some u→h'.get? b=some u)(heo:∃u,h'.get? e=some u):Un fs ex H (aS H x o) h h':=by
 have hx:∀b,H b=none→b≠x:=fun b n z=>by subst z;rw[n]at mu;exact mu
 have hb:∀b,H b=none→b≠e:=fun b n z=>by
  subst z
  rcases he with r|r
  ·exact hx b n r
  ·rw[n]at r;cases r
 have hm:∀b u,H b=some u→¬BK (some u)→b≠x:=fun b u q nm z=>by subst z;rw[q]at mu;exact nm mu
 refine⟨fun b u q n _ _=>k b u (hb b n) q,fun b u q n _ _=>⟨u.slots,k b u (hb b n) q⟩,fun b u q n _=>by rw[ai (hx b n)];exact n,fun b u q _=>?_,
  fun b xs q=>by rw[ai (hm b _ q fun z=>z)];exact q,fun b u xs q=>by rw[ai (hm b _ q fun z=>z)];exact q,fun b ps q=>⟨#[],by rw[ai (hm b _ q fun z=>z),q];simp⟩⟩
 by_cases hbe:b=e
 ·subst hbe;exact heo
 ·exact⟨u,k b u hbe q⟩
end
noncomputable def C9 (h:Heap)(H:Hp):List Addr:=(List.range h.objs.size).filter fun a=>(H a).isSome
noncomputable def nK (h:Heap)(H:Hp):Heap:=W.hideAll h (C9 h H)
theorem tO (h:Heap)(H:Hp):(nK h H).objs.size=h.objs.size:=W.hideAll_size _ _
theorem va {h:Heap}{H:Hp}{b:Addr}{o:Obj}(e:h.get? b=some o)(n:H b=none):(nK h H).get? b=some o:=
 W.hideAll_get _ e fun hm=>by
  have q:(H b).isSome=true:=(mem_filter.mp hm).2;rw[n]at q;simp at q
theorem yp {h:Heap}{H:Hp}{b:Addr}{o:Obj}(e:(nK h H).get? b=some o):h.get? b=some o∧H b=none:=by
 have e':h.get? b=some o:=W.of_hideAll (C9 h H) e;refine⟨e',?_⟩;cases q:H b with
 |none=>rfl
 |some x=>
  have hm:b∈C9 h H:=mem_filter.mpr ⟨mem_range.mpr (Heap.lt_size e'),by simp[q]⟩;have z:(nK h H).get? b=none:=W.hideAll_none (C9 h H) hm;rw[z]at e;cases e
structure Mod (K:W.Frag)(mg:Str→Option Value)(base:Heap):Prop where
 kin:K.In base
 glob:base.Ns mainGlobals mg
 blt:∃mb,base.Ns builtinsNs mb∧∀x:Str,x≠ "__name__" →mb x=bootBuiltins x
 nolimit:base.NoLimit
structure Cx where
 prog:Program
 w:World
 K:W.Frag
 mg:Str→Option Value
 base:Heap
 A:Around
 N:List Str
 s₀:Shared
 H₀:Hp
 env:Env
 outer:List Env
 stack:List Env
 ex:List Addr
 fn:Str→Bool
 calm:Bool
 pn:List (Addr×Obj)
 xe:Value→Shared→Prop
noncomputable def dN (l:List Env):List Addr:=l.filterMap (·.frame)
noncomputable abbrev Cx.fs (X:Cx):List Addr:=dN X.outer
noncomputable def xg (sc:Scope)(x:Str):Prop:=sc.names.lookup x=some .local∨sc.names.lookup x=some .cell∨sc.names.lookup x=some .free
noncomputable def rM (sc:Scope)(x:Str):Prop:=sc.names.lookup x=some .local∨sc.names.lookup x=some .cell
noncomputable def zK (env:Env)(h:Heap)(m:Str→Option Value)(x:Str)(u:Value):Prop:=
 (env.kindOf x=some .local∧m x=some u)∨((env.kindOf x=some .cell∨env.kindOf x=some .free)∧∃c,env.cells.lookup x=some c∧h.IsCell c (some u))
structure Cx.Ok (X:Cx):Prop where
 mod:Mod X.K X.mg X.base
 kind:X.env.scope.kind= .function
 glob:X.env.globals=mainGlobals
 blt:X.env.builtins=builtinsNs
 above:X.s₀.heap.objs.size≤X.env.locals
 inj:∀x y c,X.env.cells.lookup x=some c→X.env.cells.lookup y=some c→x=y
 has:∀x,(X.env.kindOf x=some .cell∨X.env.kindOf x=some .free)→∃c,X.env.cells.lookup x=some c
 cab:∀x c,X.fn x=true→X.env.cells.lookup x=some c→X.s₀.heap.objs.size≤c
 hd:X.calm=true→X.A.handled=none
 frames:X.A.frames=some X.stack
 stk:X.stack=X.outer∨(X.stack=X.env::X.outer∧X.env.frame=some X.env.locals)
 exf:∀b∈X.ex,b≠X.env.locals∧∀x c,X.env.cells.lookup x=some c→c≠b
 bs:∀b o,X.base.get? b=some o→X.s₀.heap.get? b=some o∧X.H₀ b=none
 bsz:X.base.objs.size≤X.s₀.heap.objs.size
 noex:∀b o,X.base.get? b=some o→b∉X.ex
 exfs:∀b∈X.ex,b∉X.fs
 funs:X.s₀.heap.FunFrames X.base X.outer
 frf:∀b∈X.fs,X.H₀ b=none
structure Inv (X:Cx)(pins:List (Addr×Obj))(σ:List (Option V))(H:Hp)(s:Shared):Prop where
 ok:X.Ok
 os:s.os=X.s₀.os
 bare:AllBare s.gens
 base:Un X.fs X.ex X.H₀ H X.s₀.heap s.heap
 loc:∃m,s.heap.Ns X.env.locals m∧∀(i:Nat) (x:Str) (v:V),X.N[i]?=some x→σ[i]?=some (some v)→xg X.env.scope x→∃u,RelV v u∧zK X.env s.heap m x u
 cell:∀x c,X.env.cells.lookup x=some c→∃v,s.heap.IsCell c v
 free:H X.env.locals=none
 freeC:∀x c,X.env.cells.lookup x=some c→H c=none
 pin:∀p∈X.pn ++ pins,s.heap.get? p.1=some p.2∧H p.1=none∧p.1≠X.env.locals∧p.1∉X.fs∧∀v,p.2.data≠ .cell v
 hok:HOk X.prog X.w H s.heap
 len:σ.length=X.N.length
section
variable{X:Cx}{pins:List (Addr×Obj)}{σ:List (Option V)}{H H':Hp}{s:Shared}{h':Heap}
theorem Cx.Ok.nofr (ok:X.Ok){b:Addr}{o:Obj}(e:X.base.get? b=some o):b∉X.fs:=fun hb=>by
 have:=(ok.funs.mem hb).1;rw[e]at this;cases this
theorem Inv.bs (I:Inv X pins σ H s):∀b o,X.base.get? b=some o→s.heap.get? b=some o∧H b=none:=fun b o e=>
 ⟨I.base.keep b o (I.ok.bs b o e).1 (I.ok.bs b o e).2 (I.ok.nofr e) (I.ok.noex b o e),I.base.free b o (I.ok.bs b o e).1 (I.ok.bs b o e).2 (I.ok.noex b o e)⟩
theorem Inv.bk (I:Inv X pins σ H s):∀b o,X.base.get? b=some o→s.heap.get? b=some o:=fun b o e=>(I.bs b o e).1
theorem Inv.mod (I:Inv X pins σ H s):Mod X.K X.mg X.base:=I.ok.mod
theorem Inv.kIn (I:Inv X pins σ H s):X.K.In s.heap:=I.ok.mod.kin.keeps I.bk
theorem Inv.lt (I:Inv X pins σ H s):X.env.locals<s.heap.objs.size:=let ⟨_,hn,_⟩:=I.loc;hn.lt
theorem Inv.sz (I:Inv X pins σ H s):X.s₀.heap.objs.size≤s.heap.objs.size:=le_trans I.ok.above (le_of_lt I.lt)
theorem Inv.nofs (I:Inv X pins σ H s){a:Addr}(h:s.heap.objs.size≤a):a∉X.fs:=fun hb=>by
 obtain⟨_,o,ho,_⟩:=I.ok.funs.mem hb;exact absurd (lt_of_lt_of_le (Heap.lt_size ho) (le_trans I.sz h)) (lt_irrefl _)
theorem Inv.cne (I:Inv X pins σ H s):∀x c,X.env.cells.lookup x=some c→c≠X.env.locals:=fun x c e z=>by
 obtain⟨v,o,ho,hd⟩:=I.cell x c e;obtain⟨m,⟨o',es,ep,ho',hd',_⟩,_⟩:=I.loc;rw[z,ho']at ho;cases ho;rw[hd']at hd;cases hd
theorem Inv.funs (I:Inv X pins σ H s):s.heap.FunFrames X.base X.outer:=by
 have all:∀(l:List Env),(∀b∈dN l,b∈X.fs)→X.s₀.heap.FunFrames X.base l→s.heap.FunFrames X.base l:=by
  intro l
  induction l with
  |nil=>intro _ _;trivial
  |cons env r ih=>
   intro hs hl;obtain⟨hk,⟨L,o,hf,hn,ho,hd⟩,hr⟩:=hl;have hL:L∈X.fs:=hs L (by unfold dN;rw[List.filterMap_cons,hf];exact mem_cons_self);obtain⟨sl,e⟩:=I.base.slot L o ho (I.ok.frf L hL) hL fun z=>I.ok.exfs L z hL;exact⟨hk,⟨L,_,hf,hn,e,hd⟩,ih (fun b hb=>hs b (by unfold dN;rw[List.filterMap_cons,hf];exact dQ hb)) hr⟩
 exact all X.outer (fun _ hb=>hb) I.ok.funs
theorem Inv.stack (I:Inv X pins σ H s):s.heap.FunFrames X.base X.stack:=by
 rcases I.ok.stk with e|⟨e,hf⟩
 ·rw[e];exact I.funs
 ·rw[e];obtain⟨m,hn,_⟩:=I.loc;refine .cons (by rw[I.ok.kind];decide) hf hn ?_ I.funs;exact Heap.get?_none_of_le (le_trans I.ok.bsz I.ok.above)
theorem Inv.stkSub (I:Inv X pins σ H s):∀b∈dN X.stack,b∈X.env.locals::X.fs:=fun b hb=>by
 rcases I.ok.stk with e|⟨e,hf⟩
 ·rw[e]at hb;exact dQ hb
 ·rw[e]at hb;unfold dN at hb;rw[List.filterMap_cons,hf]at hb;exact hb
theorem Inv.stkFree (I:Inv X pins σ H s):∀b∈dN X.stack,H b=none:=fun b hb=>by
 rcases mem_cons.mp (I.stkSub b hb) with e|hb
 ·rw[e];exact I.free
 ·obtain⟨_,o,ho,_⟩:=I.ok.funs.mem hb;exact I.base.free b o ho (I.ok.frf b hb) fun z=>I.ok.exfs b z hb
theorem Inv.step {g':Array GenState}{t':Nat}{d':Drawn}{ch:List Addr}(I:Inv X pins σ H s)
  (hch:∀b∈ch,(b∈X.ex∨X.s₀.heap.objs.size≤b)∧b≠X.env.locals∧(∀x c,X.env.cells.lookup x=some c→c≠b)∧∀p∈X.pn ++ pins,p.1≠b)
  (keep:∀b o,b≠X.env.locals→b∉X.fs→b∉ch→s.heap.get? b=some o→H b=none→h'.get? b=some o)
  (slot:∀b o,b≠X.env.locals→b∈X.fs→b∉ch→s.heap.get? b=some o→H b=none→∃sl,h'.get? b=some {o with slots:=sl}) (free:∀b o,b∉ch→s.heap.get? b=some o→H b=none→H' b=none)
  (there:∀b o,b∉ch→s.heap.get? b=some o→∃o',h'.get? b=some o')
  (tups:∀b xs,H b=some (.tup xs)→H' b=some (.tup xs)) (frzs:∀b o u,H b=some (.frz o u)→H' b=some (.frz o u)) (tbls:∀b ps,H b=some (.tbl ps)→∃more,H' b=some (.tbl (ps ++ more)))
  (ns:∀m,s.heap.Ns X.env.locals m→h'.Ns X.env.locals m) (hok:HOk X.prog X.w H' h') (hg:AllBare g') :
  Inv X pins σ H' {s with heap:=h',gens:=g',drawn:=d',toks:=t'}:=by
 have neL:∀b o,X.s₀.heap.get? b=some o→b≠X.env.locals:=fun b o e=>ne_of_lt (lt_of_lt_of_le (Heap.lt_size e) I.ok.above);have j:∀b o,X.s₀.heap.get? b=some o→b∉X.ex→b∉ch:=fun b o e f hb=>by
  rcases (hch b hb).1 with z|z
  ·exact f z
  ·exact absurd (lt_of_lt_of_le (Heap.lt_size e) z) (lt_irrefl _)
 have h:∀x c,X.env.cells.lookup x=some c→∀v,s.heap.IsCell c v→h'.IsCell c v:=fun x c e v hZ37=>by
  obtain⟨o,ho,hd⟩:=hZ37;have g:c∉ch:=fun z=>(hch c z).2.2.1 x c e rfl;by_cases hc:c∈X.fs
  ·obtain⟨sl,q⟩:=slot c o (I.cne x c e) hc g ho (I.freeC x c e);exact⟨_,q,hd⟩
  ·exact⟨o,keep c o (I.cne x c e) hc g ho (I.freeC x c e),hd⟩
 refine⟨I.ok,I.os,hg,⟨fun b o e n hb f=>?_,fun b o e n hb f=>?_,fun b o e n f=>?_,fun b o e f=>?_,fun b xs e=>tups b xs (I.base.tups b xs e),fun b o xs e=>frzs b o xs (I.base.frzs b o xs e),fun b ps e=>?_⟩,?_,fun x c e=>?_,?_,fun x c e=>?_,fun p hp=>?_,hok,I.len⟩
 ·exact keep b o (neL b o e) hb (j b o e f) (I.base.keep b o e n hb f) (I.base.free b o e n f)
 ·obtain⟨sl,t⟩:=I.base.slot b o e n hb f;obtain⟨sl',e2⟩:=slot b _ (neL b o e) hb (j b o e f) t (I.base.free b o e n f);exact⟨sl',e2⟩
 ·obtain⟨o',t⟩:=I.base.there b o e f;exact free b o' (j b o e f) t (I.base.free b o e n f)
 ·obtain⟨o',t⟩:=I.base.there b o e f;exact there b o' (j b o e f) t
 ·obtain⟨m1,t⟩:=I.base.tbls b ps e;obtain⟨m2,e2⟩:=tbls b _ t;exact⟨m1 ++ m2,by rw[e2,Array.append_assoc]⟩
 ·obtain⟨m,hn,hl⟩:=I.loc;refine⟨m,ns m hn,fun i x v t e2 e3=>?_⟩;obtain⟨u,r,l⟩:=hl i x v t e2 e3;refine⟨u,r,?_⟩
  rcases l with l|⟨k,c,e,z⟩
  ·exact .inl l
  ·exact .inr ⟨k,c,e,h x c e _ z⟩
 ·obtain⟨v,z⟩:=I.cell x c e;exact⟨v,h x c e v z⟩
 ·obtain⟨m,⟨o,_,_,ho,_⟩,_⟩:=I.loc;exact free _ o (fun z=>(hch _ z).2.1 rfl) ho I.free
 ·obtain⟨v,o,ho,hd⟩:=I.cell x c e;exact free c o (fun z=>(hch c z).2.2.1 x c e rfl) ho (I.freeC x c e)
 ·obtain⟨e,n,ne,nf,d⟩:=I.pin p hp;have g:p.1∉ch:=fun z=>(hch p.1 z).2.2.2 p hp rfl;exact⟨keep p.1 p.2 ne nf g e n,free p.1 p.2 g e n,ne,nf,d⟩
theorem Inv.un {t':Nat}(I:Inv X pins σ H s)(u:Un X.fs [] H H' s.heap h')(hok:HOk X.prog X.w H' h'):Inv X pins σ H' {s with heap:=h',toks:=t'}:=by
 obtain⟨m,⟨o,es,ep,ho,r⟩,_⟩:=id I.loc;obtain⟨sl,hL⟩:=u.any ho I.free (by simp);exact I.step (g':=s.gens) (d':=s.drawn) (ch:=[]) (fun _ z=>nomatch z) (fun b o _ hb _ e n=>u.keep b o e n hb (by simp)) (fun b o _ hb _ e n=>u.slot b o e n hb (by simp)) (fun b o _ e n=>u.free b o e n (by simp)) (fun b o _ e=>u.there b o e (by simp)) u.tups u.frzs u.tbls (fun m' hm=>by
  obtain⟨o',es',ep',ho',r'⟩:=hm;rw[ho]at ho';cases ho';exact⟨_,es',ep',hL,r'⟩) hok I.bare
theorem Inv.call {g':Array GenState}{t':Nat}{d':Drawn}{ch:List Addr}(I:Inv X pins σ H s)(u:Un (dN X.stack) ch H H' s.heap h')(hok:HOk X.prog X.w H' h')(hg:AllBare g')
  (hch:∀b∈ch,(b∈X.ex∨X.s₀.heap.objs.size≤b)∧b≠X.env.locals∧(∀x c,X.env.cells.lookup x=some c→c≠b)∧∀p∈X.pn ++ pins,p.1≠b) :
  Inv X pins σ H' {s with heap:=h',gens:=g',drawn:=d',toks:=t'}:=by
 obtain⟨m,⟨o,es,ep,ho,r⟩,_⟩:=id I.loc;obtain⟨sl,hL⟩:=u.any ho I.free fun z=>(hch _ z).2.1 rfl;exact I.step (ch:=ch) hch (fun b o hL hb hc e n=>u.keep b o e n (fun z=>(mem_cons.mp (I.stkSub b z)).elim hL hb) hc) (fun b o _ _ hc e n=>u.any e n hc) (fun b o hc e n=>u.free b o e n hc) (fun b o hc e=>u.there b o e hc) u.tups u.frzs u.tbls (fun m' hm=>by
  obtain⟨o',es',ep',ho',r'⟩:=hm;rw[ho]at ho';cases ho';exact⟨_,es',ep',hL,r'⟩) hok hg
theorem Inv.turned {t':Nat}{it:Addr}(I:Inv X pins σ H s)(k:∀b o,b≠it→s.heap.get? b=some o→h'.get? b=some o)(hn:H it=none)(hL:it≠X.env.locals)
  (h1:it∈X.ex∨X.s₀.heap.objs.size≤it) (h2:∀x c,X.env.cells.lookup x=some c→c≠it) (h3:∀p∈X.pn ++ pins,p.1≠it):Inv X pins σ H {s with heap:=h',toks:=t'}:=by
 have nit:∀b u,H b=some u→b≠it:=fun b u e z=>by rw[z,hn]at e;cases e
 refine I.step (g':=s.gens) (d':=s.drawn) (ch:=[it]) (fun b hb=>?_) (fun b o _ _ hc e _=>k b o (fun z=>hc (by simp[z])) e) (fun b o _ _ hc e _=>⟨o.slots,k b o (fun z=>hc (by simp[z])) e⟩) (fun _ _ _ _ n=>n)
  (fun b o hc e=>⟨o,k b o (fun z=>hc (by simp[z])) e⟩) (fun _ _ e=>e) (fun _ _ _ e=>e) (fun b ps e=>⟨#[],by rw[e];simp⟩) (fun m hm=>?_) (fun b u e=>?_) I.bare
 ·have e:b=it:=by simpa using hb
  subst e;exact⟨h1,hL,h2,h3⟩
 ·obtain⟨o,es,ep,ho,r⟩:=hm;exact⟨o,es,ep,k _ o (Ne.symm hL) ho,r⟩
 ·refine(I.hok b u e).stay (fun c v hc q=>k c v ?_ q) (fun _ q=>q) fun _ _ q=>q
  rcases hc with z|z
  ·rw[z];exact nit b u e
  ·exact nit c _ z
theorem Inv.tok (I:Inv X pins σ H s)(t:Nat):Inv X pins σ H {s with toks:=t}:=I.un (h':=s.heap) (t':=t) Un.refl I.hok
theorem Inv.kept {t':Nat}(I:Inv X pins σ H s)(k:∀b u,s.heap.get? b=some u→h'.get? b=some u):Inv X pins σ H {s with heap:=h',toks:=t'}:=I.un (Un.kept k) (I.hok.kept k)
theorem Inv.laid {a:Addr}{o:HO}{t':Nat}(I:Inv X pins σ H s)(k:∀b u,s.heap.get? b=some u→h'.get? b=some u)(hp:s.heap.objs.size≤a)(new:ObjOk X.prog X.w (aS H a o) h' a o) :
  Inv X pins σ (aS H a o) {s with heap:=h',toks:=t'}:=I.un (Un.laid k hp (I.hok.fresh hp)) (I.hok.laid k hp new)
theorem Inv.write {x e:Addr}{o:HO}{t':Nat}(I:Inv X pins σ H s)(mu:BK (H x))(he:e=x∨H e=some (.own x))(k:∀b u,b≠e→s.heap.get? b=some u→h'.get? b=some u)(heo:∃u,h'.get? e=some u)
  (new:ObjOk X.prog X.w (aS H x o) h' x o):Inv X pins σ (aS H x o) {s with heap:=h',toks:=t'}:=I.un (Un.write mu he k heo) (I.hok.write mu he k heo new)
theorem Inv.weak {σ':List (Option V)}(I:Inv X pins σ H s)(hl:σ'.length=σ.length)(w:∀(i:Nat) v,σ'[i]?=some (some v)→σ[i]?=some (some v)):Inv X pins σ' H s:=
 ⟨I.ok,I.os,I.bare,I.base,let ⟨m,hn,hl'⟩:=I.loc;⟨m,hn,fun i x v e1 e2 e3=>hl' i x v e1 (w i v e2) e3⟩,I.cell,I.free,I.freeC,I.pin,I.hok,hl.trans I.len⟩
theorem Inv.pins_of {pins':List (Addr×Obj)}(I:Inv X pins σ H s)(h:∀p∈pins',s.heap.get? p.1=some p.2∧H p.1=none∧p.1≠X.env.locals∧p.1∉X.fs∧∀v,p.2.data≠ .cell v):Inv X pins' σ H s:=
 ⟨I.ok,I.os,I.bare,I.base,I.loc,I.cell,I.free,I.freeC,fun p hp=>(mem_append.mp hp).elim (fun z=>I.pin p (mem_append_left _ z)) (h p),I.hok,I.len⟩
theorem lj {N:List Str}(hN:N.Nodup){i j:Nat}{x:Str}(a:N[i]?=some x)(b:N[j]?=some x):i=j:=by
 obtain⟨h1,e1⟩:=jj a;obtain⟨h2,e2⟩:=jj b;exact(List.getElem_inj hN).mp (e1.trans e2.symm)
theorem mL {M:Model}{A:Around}{E:Value→Shared→Prop}{i:Nat}{x:Str}{v:V}{u:Value}{Q:Unit→Shared→Prop}(I:Inv X pins σ H s)(hN:X.N.Nodup)(hi:X.N[i]?=some x)(hx:rM X.env.scope x)(r:RelV v u)
  (h:∀s',Inv X pins (σ.set i (some v)) H s'→(∃a,Heap.SameBut a s.heap s'.heap∧(a=X.env.locals∨X.env.cells.lookup x=some a))→Q () s') (hf:X.fn x=true∨X.env.scope.names.lookup x=some .local:=by first|exact .inl rfl|exact .inr rfl|assumption):wpAny M A (storeName X.env x u) Q E s:=by
 obtain⟨m,hn,hl⟩:=id I.loc;have hcls:(X.env.scope.kind==.class||(X.env.scope.kind==.module&&X.env.locals != X.env.globals))=false:=by rw[I.ok.kind];rfl
 have hiσ:i<σ.length:=by rw[I.len];exact(jj hi).1
 have cne:=I.cne;have B:∀{a:Addr} {h':Heap},(∃o,s.heap.get? a=some o∧H a=none)→Heap.SameBut a s.heap h'→HOk X.prog X.w H h':=fun {a h'} ha l b ob e=>by
  obtain⟨_,_,C⟩:=ha;refine(I.hok b ob e).stay (fun c w' hc q=>(l.2 c ?_).trans q) (fun _ q=>q) fun _ _ q=>q;rintro rfl
  rcases hc with rfl|hc
  ·rw[C]at e;cases e
  ·rw[C]at hc;cases hc
 rcases hx with hk|hk
 ·refine wpAny_storeName_local hk hn (fun h' hn' l=>?_) hcls;obtain⟨oL,_,_,hoL,_⟩:=id hn;refine h _ ⟨I.ok,I.os,I.bare,⟨fun b o e n hb hx=>?_,fun b o e n hb hx=>?_,I.base.free,fun b o e hx=>?_,I.base.tups,I.base.frzs,I.base.tbls⟩,⟨_,hn',fun j y v' t D e3=>?_⟩,fun y c e=>?_,I.free,I.freeC,fun p hp=>?_,B ⟨oL,hoL,I.free⟩ l,by simpa using I.len⟩ ⟨_,l,.inl rfl⟩
  ·exact(l.2 b (ne_of_lt (lt_of_lt_of_le (Heap.lt_size e) I.ok.above))).trans (I.base.keep b o e n hb hx)
  ·obtain⟨sl,t⟩:=I.base.slot b o e n hb hx;exact⟨sl,(l.2 b (ne_of_lt (lt_of_lt_of_le (Heap.lt_size e) I.ok.above))).trans t⟩
  ·obtain⟨o',t⟩:=I.base.there b o e hx;exact⟨o',(l.2 b (ne_of_lt (lt_of_lt_of_le (Heap.lt_size e) I.ok.above))).trans t⟩
  ·by_cases hj:j=i
   ·subst hj;rw[hi]at t;cases t;rw[getElem?_set_self hiσ]at D;cases D;exact⟨u,r,.inl ⟨hk,by simp⟩⟩
   ·rw[getElem?_set_ne (Ne.symm hj)]at D;obtain⟨u',r',q⟩:=hl j y v' t D e3;refine⟨u',r',?_⟩
    rcases q with ⟨k,e⟩|⟨k,c,e,z⟩
    ·refine .inl ⟨k,?_⟩;have:y≠x:=fun e=>hj (lj hN t (e ▸ hi));simp[this,e]
    ·exact .inr ⟨k,c,e,z.sameBut l (cne y c e)⟩
  ·obtain⟨w',z⟩:=I.cell y c e;exact⟨w',z.sameBut l (cne y c e)⟩
  ·obtain⟨e,n,ne,nf,d⟩:=I.pin p hp;exact⟨(l.2 p.1 ne).trans e,n,ne,nf,d⟩
 ·have hfn:X.fn x=true:=by
   rcases hf with z|z
   ·exact z
   ·rw[z]at hk;cases hk
  obtain⟨c,hc⟩:=I.ok.has x (.inl hk);obtain⟨w',z⟩:=I.cell x c hc;refine wpAny_storeName_cell I.ok.kind hk hc z (fun h' hc' l=>?_);obtain⟨oc,hoc,hocd⟩:=id z;refine h {s with heap:=h'} ⟨I.ok,I.os,I.bare,⟨fun b o e n hb hx=>?_,fun b o e n hb hx=>?_,I.base.free,fun b o e hx=>?_,I.base.tups,I.base.frzs,I.base.tbls⟩,⟨m,hn.sameBut l (Ne.symm (cne x c hc)),fun j y v' t D e3=>?_⟩,fun y c' e=>?_,I.free,I.freeC,fun p hp=>?_,B ⟨oc,hoc,I.freeC x c hc⟩ l,by simpa using I.len⟩ ⟨c,l,.inr hc⟩
  ·exact(l.2 b (ne_of_lt (lt_of_lt_of_le (Heap.lt_size e) (I.ok.cab x c hfn hc)))).trans (I.base.keep b o e n hb hx)
  ·obtain⟨sl,t⟩:=I.base.slot b o e n hb hx;exact⟨sl,(l.2 b (ne_of_lt (lt_of_lt_of_le (Heap.lt_size e) (I.ok.cab x c hfn hc)))).trans t⟩
  ·obtain⟨o',t⟩:=I.base.there b o e hx;exact⟨o',(l.2 b (ne_of_lt (lt_of_lt_of_le (Heap.lt_size e) (I.ok.cab x c hfn hc)))).trans t⟩
  ·by_cases hj:j=i
   ·subst hj;rw[hi]at t;cases t;rw[getElem?_set_self hiσ]at D;cases D;exact⟨u,r,.inr ⟨.inl hk,c,hc,hc'⟩⟩
   ·rw[getElem?_set_ne (Ne.symm hj)]at D;obtain⟨u',r',q⟩:=hl j y v' t D e3;refine⟨u',r',?_⟩
    rcases q with q|⟨k,c',e,z'⟩
    ·exact .inl q
    ·refine .inr ⟨k,c',e,z'.sameBut l ?_⟩;rintro rfl;exact hj (lj hN t (I.ok.inj _ _ _ e hc ▸ hi))
  ·by_cases hcc:c'=c
   ·subst hcc;exact⟨_,hc'⟩
   ·obtain⟨w2,z2⟩:=I.cell y c' e;exact⟨w2,z2.sameBut l hcc⟩
  ·obtain⟨e,n,ne,nf,d⟩:=I.pin p hp;refine⟨(l.2 p.1 ?_).trans e,n,ne,nf,d⟩;intro q;rw[q,hoc]at e;have q':oc=p.2:=Option.some.inj e;exact d w' (by rw[←q'];exact hocd)
theorem lE {M:Model}{A:Around}{E:Value→Shared→Prop}{i:Nat}{x:Str}{v:V}{u:Value}{Q:Unit→Shared→Prop}(I:Inv X pins σ H s)(hN:X.N.Nodup)(hi:X.N[i]?=some x)(hx:rM X.env.scope x)(r:RelV v u)
  (h:∀s',Inv X pins (σ.set i (some v)) H s'→Q () s') (hf:X.fn x=true∨X.env.scope.names.lookup x=some .local:=by first|exact .inl rfl|exact .inr rfl|assumption):wpAny M A (storeName X.env x u) Q E s:=
 mL I hN hi hx r (fun s' I' _=>h s' I') hf
theorem Inv.call' {s':Shared}{ch:List Addr}(I:Inv X pins σ H s)(ho:s'.os=s.os)(u:Un (dN X.stack) ch H H' s.heap s'.heap)(hok:HOk X.prog X.w H' s'.heap)(hg:AllBare s'.gens)
  (hch:∀b∈ch,(b∈X.ex∨X.s₀.heap.objs.size≤b)∧b≠X.env.locals∧(∀x c,X.env.cells.lookup x=some c→c≠b)∧∀p∈X.pn ++ pins,p.1≠b):Inv X pins σ H' s':=by
 obtain⟨h',g',d',t',o'⟩:=s';have e:o'=s.os:=ho;subst e;exact I.call (g':=g') (t':=t') (d':=d') u hok hg hch
end
noncomputable abbrev XK:=Value→Option Addr→Hp→Prop
noncomputable abbrev St:=List (Option V)
noncomputable abbrev VK:=V→Hp→Prop
noncomputable abbrev TE:=St→Hp→VK→Prop
noncomputable abbrev TT:=St→Hp→(Bool→Hp→Prop)→Prop
noncomputable abbrev TA:=St→Hp→(List V→Hp→Prop)→Prop
structure Ends where
 nx:St→Hp→Prop
 rt:VK
 bk:St→Hp→Prop:=fun _ _=>False
 ct:St→Hp→Prop:=fun _ _=>False
noncomputable abbrev TS:=Ends→St→Hp→Prop
inductive EP (X:Cx)(pins:List (Addr×Obj))(σ:St)(Q:VK)(u:Value)(s':Shared):Prop
 |mk (v:V) (H':Hp) (i:Inv X pins σ H' s') (r:RelV v u) (q:Q v H')
inductive TP (X:Cx)(pins:List (Addr×Obj))(σ:St)(Q:Bool→Hp→Prop)(b:Bool)(s':Shared):Prop
 |mk (H':Hp) (i:Inv X pins σ H' s') (q:Q b H')
inductive AP (X:Cx)(pins:List (Addr×Obj))(σ:St)(Q:List V→Hp→Prop)(us:List Value)(s':Shared):Prop
 |mk (vs:List V) (H':Hp) (i:Inv X pins σ H' s') (r:Vals vs us) (q:Q vs H')
inductive SN (X:Cx)(pins:List (Addr×Obj))(P:St→Hp→Prop)(s':Shared):Prop
 |mk (σ':St) (H':Hp) (i:Inv X pins σ' H' s') (q:P σ' H')
inductive SRt (X:Cx)(pins:List (Addr×Obj))(P:VK)(u:Value)(s':Shared):Prop
 |mk (v:V) (σ':St) (H':Hp) (i:Inv X pins σ' H' s') (r:RelV v u) (q:P v H')
noncomputable def SP (X:Cx)(pins:List (Addr×Obj))(D:Ends)(f:Flow)(s':Shared):Prop:=
 match f with
 |.next=>SN X pins D.nx s'
 |.brk=>SN X pins D.bk s'
 |.cont=>SN X pins D.ct s'
 |.ret u=>SRt X pins D.rt u s'
noncomputable def PE (X:Cx)(e:Expr)(t:TE):Prop:=
 ∀(pins:List (Addr×Obj)) (s:Shared) (σ:St) (H:Hp) (Q:VK),Inv X pins σ H s→t σ H Q→wpAny (model X.prog X.w) X.A (eval e X.env) (EP X pins σ Q) X.xe s
noncomputable def PT (X:Cx)(e:Expr)(t:TT):Prop:=
 ∀(pins:List (Addr×Obj)) (s:Shared) (σ:St) (H:Hp) (Q:Bool→Hp→Prop),Inv X pins σ H s→t σ H Q→wpAny (model X.prog X.w) X.A (isTrue e X.env (eval e X.env)) (TP X pins σ Q) X.xe s
noncomputable def PA (X:Cx)(es:List Expr)(t:TA):Prop:=
 ∀(pos:Pos) (pins:List (Addr×Obj)) (s:Shared) (σ:St) (H:Hp) (Q:List V→Hp→Prop),Inv X pins σ H s→t σ H Q→wpAny (model X.prog X.w) X.A (spliced (backTo pos (starEach es X.env))) (AP X pins σ Q) X.xe s
noncomputable def PS (X:Cx)(st:Stmt)(t:TS):Prop:=
 ∀(pins:List (Addr×Obj)) (s:Shared) (σ:St) (H:Hp) (D:Ends),Inv X pins σ H s→t D σ H→wpAny (model X.prog X.w) X.A (exec st X.env) (SP X pins D) X.xe s
noncomputable def BP (X:Cx)(st:List Stmt)(t:TS):Prop:=
 ∀(pins:List (Addr×Obj)) (s:Shared) (σ:St) (H:Hp) (D:Ends),Inv X pins σ H s→t D σ H→wpAny (model X.prog X.w) X.A (execs st X.env) (SP X pins D) X.xe s
theorem aE {α:Type}{t:Sem α}{Q Q':α→Shared→Prop}{M:Model}{A:Around}{E:Value→Shared→Prop}{s:Shared}(h:wpAny M A t Q E s)(hQ:∀a s,Q a s→Q' a s):wpAny M A t Q' E s:=wpAny_mono h hQ fun _ _ x=>x
section
variable{X:Cx}
noncomputable def ze (i:Nat):TE:=fun σ H Q=>∃v,σ[i]?=some (some v)∧Q v H
noncomputable def tC (v:V):TE:=fun _ H Q=>Q v H
theorem ls {i:Nat}{x:Str}{pos:Pos}(hN:X.N[i]?=some x)(hv:xg X.env.scope x)(hd:(x==("__debug__" :Str))=false:=by decide)(hcd:(x==("__classdict__" :Str))=false:=by decide):PE X (.Name x pos) (ze i):=by
 intro pins s σ H Q I h;obtain⟨v,e,h⟩:=h;obtain⟨m,hn,hl⟩:=I.loc;obtain⟨u,r,l⟩:=hl i x v hN e hv;have fin:EP X pins σ Q u s:=⟨v,H,I,r,h⟩
 rcases l with ⟨hk,hm⟩|⟨hk,c,hc,n⟩
 ·exact wpAny_Name (wpAny_loadName_local I.ok.kind hk hn hm fin) hd
 ·rcases hk with hk|hk
  ·exact wpAny_Name (wpAny_loadName_cell I.ok.kind hk hc n fin) hd
  ·exact wpAny_Name (wpAny_loadName_free I.ok.kind hk hc n fin hcd) hd
theorem Bg {i j pos}:PE X (.Constant (.int i) j pos) (tC (.int i)):=fun _ _ _ H _ I h=>wpAny_Constant_int ⟨.int i,H,I.tok _,⟨_,rfl⟩,h⟩
theorem CI {b j pos}:PE X (.Constant (.bool b) j pos) (tC (.bl b)):=fun _ _ _ H _ I h=>Constant_bool ⟨.bl b,H,I,rfl,h⟩
theorem wd {x j pos}:PE X (.Constant (.str x) j pos) (tC (.str x)):=fun _ _ _ H _ I h=>Calls.Constant_str ⟨.str x,H,I.tok _,⟨_,rfl⟩,h⟩
noncomputable def Gl (X:Cx)(x:Str):Prop:=X.env.kindOf x=some .globalImplicit
theorem fL {E:Value→Shared→Prop}{pins:List (Addr×Obj)}{s:Shared}{σ:St}{H:Hp}{x:Str}{u:Value}{pos:Pos}{Q:Value→Shared→Prop}(I:Inv X pins σ H s)(hg:Gl X x)(hm:X.mg x=some u)(h:Q u s)
  (hd:(x==("__debug__" :Str))=false:=by decide):wpAny (model X.prog X.w) X.A (eval (.Name x pos) X.env) Q E s:=
 Calls.Name_function_global I.ok.kind hg (Calls.loadGlobal_global (by rw[I.ok.glob];exact I.mod.glob.keeps I.bk) hm h) hd
theorem gC {E:Value→Shared→Prop}{pins:List (Addr×Obj)}{s:Shared}{σ:St}{H:Hp}{x:Str}{u:Value}{pos:Pos}{Q:Value→Shared→Prop}(I:Inv X pins σ H s)(hg:Gl X x)(hm:X.mg x=none)(hv:bootBuiltins x=some u)(h:Q u s)
  (hn:x≠ "__name__" :=by decide) (hd:(x==("__debug__" :Str))=false:=by decide):wpAny (model X.prog X.w) X.A (eval (.Name x pos) X.env) Q E s:=by
 obtain⟨mb,h1,h2⟩:=I.mod.blt;exact Calls.Name_function_global I.ok.kind hg (Calls.loadGlobal_builtin (by rw[I.ok.glob];exact I.mod.glob.keeps I.bk) hm (by rw[I.ok.blt];exact h1.keeps I.bk) ((h2 x hn).trans hv) h) hd
theorem km {x:Str}{v:V}{u:Value}{pos:Pos}(hg:Gl X x)(hm:X.mg x=some u)(r:RelV v u)(hd:(x==("__debug__" :Str))=false:=by decide):PE X (.Name x pos) (tC v):=
 fun _ _ _ H _ I h=>fL I hg hm ⟨v,H,I,r,h⟩ hd
theorem yD {x:Str}{v:V}{u:Value}{pos:Pos}(hg:Gl X x)(hm:X.mg x=none)(hv:bootBuiltins x=some u)(r:RelV v u)(hn:x≠ "__name__" :=by decide)(hd:(x==("__debug__" :Str))=false:=by decide):PE X (.Name x pos) (tC v):=
 fun _ _ _ H _ I h=>gC I hg hm hv ⟨v,H,I,r,h⟩ hn hd
variable{a b:Expr}{ta tb:TE}{pos:Pos}
variable{tA tB':TT}{rest:List Expr}
end
noncomputable def f6 (K:W.Frag)(H:Hp)(a:Addr)(xs:List V):Prop:=
 Rd H a (.lst xs)∨
  ∃(o:Obj) (its:Array Value) (n:Nat),K.lookup a=some o∧o.cls= .type "list" ∧o.dict=none∧o.data= .seq its n∧its.size≤sizeLine∧Vals xs its.toList
noncomputable def kG (K:W.Frag)(H:Hp)(a:Addr)(xs:List V):Prop:=
 Rd H a (.tup xs)∨
  ∃(o:Obj) (its:Array Value) (n:Nat),K.lookup a=some o∧o.cls= .type "tuple" ∧o.data= .seq its n∧its.size≤sizeLine∧Vals xs its.toList
noncomputable def Dg:Value→Option V
 |.none=>some .non
 |.bool b=>some (.bl b)
 |.int i _=>some (.int i)
 |.str x _=>some (.str x)
 |.bytes b _=>some (.byt b)
 |.float b _=>some (.flt b)
 |.ref a=>some (.ref a)
 |.type n=>some (.ty n)
 |_=>none
theorem RelV.abs {x:V}{u:Value}(r:RelV x u):Dg u=some x:=by
 cases x with
 |non=>cases r;rfl
 |bl _=>cases r;rfl
 |int _=>obtain⟨t,rfl⟩:=r;rfl
 |str _=>obtain⟨t,rfl⟩:=r;rfl
 |byt _=>obtain⟨t,rfl⟩:=r;rfl
 |flt _=>obtain⟨t,rfl⟩:=r;rfl
 |ref _=>cases r;rfl
 |ty _=>cases r;rfl
theorem RelV.inj {x y:V}{u:Value}(r:RelV x u)(q:RelV y u):x=y:=Option.some.inj (r.abs.symm.trans q.abs)
theorem Vals.inj:∀{xs ys:List V} {us:List Value},Vals xs us→Vals ys us→xs=ys
 |_,_,_,.nil,.nil=>rfl
 |_,_,_,.cons r t,.cons r' t'=>by rw[r.inj r',Vals.inj t t']
section
variable{X:Cx}{pins:List (Addr×Obj)}{σ:St}{H:Hp}{s:Shared}{a:Addr}{xs ys:List V}
theorem Inv.list (I:Inv X pins σ H s)(h:f6 X.K H a xs):∃its:List Value,Vals xs its∧PlainL s.heap a its.toArray∧xs.length≤sizeLine:=by
 rcases h with h|⟨o,its,n,hk,hc,hd,hs,hz,r⟩
 ·obtain⟨z,its,n,r,e⟩:=h.ok I.hok;exact⟨its,r,⟨_,n,e,rfl,rfl,rfl⟩,z⟩
 ·refine⟨its.toList,r,⟨o,n,I.kIn a o hk,hc,hd,by simpa using hs⟩,?_⟩;have e:=r.length;simp only[length_toList]at e;omega
theorem Inv.tuple (I:Inv X pins σ H s)(h:kG X.K H a xs):∃its:List Value,Vals xs its∧IsTup s.heap a its.toArray∧xs.length≤sizeLine:=by
 rcases h with h|⟨o,its,n,hk,hc,hs,hz,r⟩
 ·obtain⟨z,its,r,p⟩:=h.ok I.hok;exact⟨its,r,p,z⟩
 ·refine⟨its.toList,r,⟨o,I.kIn a o hk,hc,n,by simpa using hs⟩,?_⟩;have e:=r.length;simp only[length_toList]at e;omega
theorem Inv.list_inj (I:Inv X pins σ H s)(h:f6 X.K H a xs)(h':f6 X.K H a ys):xs=ys:=by
 obtain⟨its,r,⟨o,n,e,_,_,d⟩,_⟩:=I.list h;obtain⟨its',r',⟨o',n',e',_,_,d'⟩,_⟩:=I.list h';rw[e]at e';cases e';rw[d]at d';injection d' with d1 _
 have:its=its':=by simpa using congrArg toList d1
 subst this;exact r.inj r'
theorem Inv.tuple_inj (I:Inv X pins σ H s)(h:kG X.K H a xs)(h':kG X.K H a ys):xs=ys:=by
 obtain⟨its,r,⟨o,e,_,n,d⟩,_⟩:=I.tuple h;obtain⟨its',r',⟨o',e',_,n',d'⟩,_⟩:=I.tuple h';rw[e]at e';cases e';rw[d]at d';injection d' with d1 _
 have:its=its':=by simpa using congrArg toList d1
 subst this;exact r.inj r'
end
section
variable{X:Cx}{pins:List (Addr×Obj)}{σ:St}{H:Hp}{s:Shared}{E:Value→Shared→Prop}
end
section
variable{X:Cx}{st:Stmt}{rest:List Stmt}{t u:TS}{e:Expr}{te:TE}{pos:Pos}
noncomputable def DG (t u:TS):TS:=fun D σ H=>t {D with nx:=u D} σ H
theorem qh (h1:PS X st t)(h2:BP X rest u):BP X (st::rest) (DG t u):=by
 intro pins s σ H D I h;refine wpAny_execs_cons (aE (h1 pins s σ H {D with nx:=u D} I h) fun f s1 q=>?_)
 cases f with
 |next=>
  obtain⟨σ',H',I',q⟩:=q;exact h2 pins s1 σ' H' D I' q
 |ret v=>exact q
 |brk=>exact q
 |cont=>exact q
theorem yV (h1:PS X st t):BP X [st] t:=by
 intro pins s σ H D I h;refine wpAny_execs_cons (aE (h1 pins s σ H D I h) fun f s1 q=>?_);cases f with
 |next=>exact wpAny_execs_nil q
 |ret v=>exact q
 |brk=>exact q
 |cont=>exact q
theorem Inv.quiet {pins:List (Addr×Obj)}{σ:St}{H:Hp}{s:Shared}(I:Inv X pins σ H s):interactive X.env=false:=by simp[interactive,I.ok.kind]
noncomputable def CY (te:TE):TS:=fun D σ H=>te σ H fun _ H1=>D.nx σ H1
theorem ku (he:PE X e te)(hs:swapsWith e none pos.line X.env=pure false:=by rfl):PS X (.Expr e pos) (CY te):=by
 intro pins s σ H D I h;exact wpAny_Expr_any (aE (he pins s σ H _ I h) fun v s1 hZ38=>(by obtain⟨x,H1,I1,r1,q1⟩:=hZ38;exact⟨σ,H1,I1,q1⟩)) I.quiet hs
noncomputable def DF (te:TE):TS:=fun D σ H=>te σ H D.rt
theorem rf (he:PE X e te):PS X (.Return (some e) pos) (DF te):=by
 intro pins s σ H D I h;exact wpAny_Return_some (aE (he pins s σ H _ I h) fun v s1 hZ39=>(by obtain⟨x,H1,I1,r1,q1⟩:=hZ39;exact⟨x,σ,H1,I1,r1,q1⟩))
end
noncomputable abbrev TG:=V→St→Hp→(St→Hp→Prop)→Prop
noncomputable abbrev zN:=List V→St→Hp→(St→Hp→Prop)→Prop
noncomputable def PG (X:Cx)(target:Expr)(t:TG):Prop:=
 ∀(pins:List (Addr×Obj)) (s:Shared) (σ:St) (H:Hp) (v:V) (u:Value) (Q:St→Hp→Prop),Inv X pins σ H s→RelV v u→t v σ H Q→
  wpAny (model X.prog X.w) X.A (assign target X.env u) (fun _ s'=>SN X pins Q s') X.xe s
noncomputable def C5 (X:Cx)(ts:List Expr)(t:zN):Prop:=
 ∀(pins:List (Addr×Obj)) (s:Shared) (σ:St) (H:Hp) (vs:List V) (us:List Value) (Q:St→Hp→Prop),Inv X pins σ H s→Vals vs us→t vs σ H Q→
  wpAny (model X.prog X.w) X.A (assignInOrder ((assignEach ts X.env).map (·.2)) us) (fun _ s'=>SN X pins Q s') X.xe s
section
variable{X:Cx}{pos:Pos}
noncomputable def bw (i:Nat):TG:=fun v σ H Q=>Q (σ.set i (some v)) H
theorem fP {i:Nat}{x:Str}(hN:X.N.Nodup)(hi:X.N[i]?=some x)(hx:rM X.env.scope x)(hf:X.fn x=true∨X.env.scope.names.lookup x=some .local:=by first|exact .inl rfl|exact .inr rfl|assumption):PG X (.Name x pos) (bw i):=by
 intro pins s σ H v u Q I r h;exact wpAny_assign_Name (lE I hN hi hx r (fun s' I'=>⟨_,H,I',h⟩) hf)
noncomputable def tJ:zN:=fun vs σ H Q=>vs=[]∧Q σ H
noncomputable def gw (t:TG)(u:zN):zN:=fun vs σ H Q=>∃v r,vs=v::r∧t v σ H fun σ' H'=>u r σ' H' Q
theorem sC:C5 X [] tJ:=by
 intro pins s σ H vs us Q I r h;obtain⟨e,h⟩:=h;subst e;cases r;exact assignInOrder_nil ⟨σ,H,I,h⟩
theorem i_ {e:Expr}{es:List Expr}{t:TG}{u:zN}(h1:PG X e t)(h2:C5 X es u)
  (hs:(assignEach (e::es) X.env).map (·.2)=assign e X.env::(assignEach es X.env).map (·.2):=by rfl):C5 X (e::es) (gw t u):=by
 intro pins s σ H vs us Q I r h;obtain⟨v,vr,e1,h⟩:=h;subst e1;cases r with
 |cons r rr=>
  rw[hs];refine assignInOrder_cons (aE (h1 pins s σ H _ _ _ I r h) fun _ s1 hZ40=>?_);obtain⟨σ1,H1,I1,q1⟩:=hZ40;exact h2 pins s1 σ1 H1 _ _ Q I1 rr q1
noncomputable def tK (K:W.Frag)(n:Nat)(t:zN):TG:=fun v σ H Q=>∃a xs,v= .ref a∧kG K H a xs∧xs.length=n∧t xs σ H Q
theorem wf {es:List Expr}{k:Nat}{t:zN}{n:Nat}(hc:X.calm=true)(h:C5 X es t)
  (hn:(assignEach es X.env).length=n:=by rfl) (hst:(assignEach es X.env).findIdx? (·.1)=none:=by rfl):PG X (.Tuple es k pos) (tK X.K n t):=by
 intro pins s σ H v u Q I r hw;obtain⟨a,xs,e1,hq,hl,hw⟩:=hw;subst e1;cases r;obtain⟨its,rv,ht,hz⟩:=I.tuple hq;refine assign_Tuple_tuple (I.ok.hd hc) ht (by simp[hn,←hl,rv.length]) hst fun h' hx=>?_;have I1:Inv X pins σ H {s with heap:=h'}:=I.kept (t':=s.toks) fun b o e=>hx b o (ne_of_lt (Heap.lt_size e)) e
 exact h pins _ σ H xs _ Q I1 (by simpa using rv) hw
noncomputable def rB (te:TE)(g:TG):TS:=fun D σ H=>te σ H fun x H1=>g x σ H1 D.nx
theorem Bn {i:Nat}{x:Str}{e:Expr}{te:TE}{pos':Pos}(hN:X.N.Nodup)(hi:X.N[i]?=some x)(hx:rM X.env.scope x)(he:PE X e te)(hs:swapsWith e (some (.Name x pos')) pos.line X.env=pure false:=by rfl)(hf:X.fn x=true∨X.env.scope.names.lookup x=some .local:=by first|exact .inl rfl|exact .inr rfl|assumption) :
  PS X (.Assign [.Name x pos'] e pos) (rB te (bw i)):=by
 intro pins s σ H D I h;refine wpAny_Assign_Name (aE (he pins s σ H _ I h) fun v s1 hZ41=>?_) hs;obtain⟨y,H1,I1,r1,q1⟩:=hZ41;exact lE I1 hN hi hx r1 (fun s2 I2=>⟨_,H1,I2,q1⟩) hf
end
structure It where
 go:Nat→Hp→Prop
 yld:Nat→Hp→V→Hp→Prop
 stop:Nat→Hp→Prop
noncomputable def gd (X:Cx)(pins:List (Addr×Obj))(H:Hp)(b:Addr):Prop:=
 H b=none∧b≠X.env.locals∧b∉X.fs∧(b∈X.ex∨X.s₀.heap.objs.size≤b)∧(∀x c,X.env.cells.lookup x=some c→c≠b)∧∀p∈X.pn ++ pins,p.1≠b
theorem Inv.fpOk {X:Cx}{pins:List (Addr×Obj)}{σ:St}{H H':Hp}{s:Shared}{b:Addr}(I:Inv X pins σ H s)(hb:s.heap.objs.size≤b)(hn:H' b=none):gd X pins H' b:=by
 refine⟨hn,ne_of_gt (lt_of_lt_of_le I.lt hb),I.nofs hb,.inr (le_trans I.sz hb),fun x c e z=>?_,fun p hp z=>?_⟩
 ·obtain⟨v,q⟩:=I.cell x c e;exact absurd (lt_of_lt_of_le q.lt (by rw[z];exact hb)) (lt_irrefl _)
 ·exact absurd (lt_of_lt_of_le (Heap.lt_size (I.pin p hp).1) (by rw[z];exact hb)) (lt_irrefl _)
structure Turn (P:Program)(w:World)(K:W.Frag)(tg:Expr)(J:It)(fp:List Addr)(it:Addr)(tn:Nat→Heap→Prop):Prop where
 mem:it∈fp
 obj:∀i h,tn i h→∀b∈fp,∃o,h.get? b=some o∧∀v,o.data≠ .cell v
 keep:∀i h h',tn i h→(∀b∈fp,∀o,h.get? b=some o→h'.get? b=some o)→tn i h'
 item:∀(X:Cx),X.prog=P→X.w=w→X.K=K→X.calm=true→∀(i:Nat) (pins:List (Addr×Obj)) (s:Shared) (σ:St) (H:Hp) (E:Value→Shared→Prop),Inv X pins σ H s→(∀b∈fp,gd X pins H b)→tn i s.heap→J.go i H→
  wpAny (model P w) X.A (pyNext (.ref it)) (fun r s1=>∃u,r=some u∧
   wpAny (model P w) X.A (letOwnedTupleGo tg (.ref it) u) (fun _ s2=>∃x H',Inv X pins σ H' s2∧RelV x u∧J.yld i H x H'∧tn (i+1) s2.heap∧∀b∈fp,H' b=none) E s1) E s
 done:∀(X:Cx),X.prog=P→X.w=w→X.K=K→X.calm=true→∀(i:Nat) (pins:List (Addr×Obj)) (s:Shared) (σ:St) (H:Hp) (E:Value→Shared→Prop),Inv X pins σ H s→(∀b∈fp,gd X pins H b)→tn i s.heap→J.stop i H→
  wpAny (model P w) X.A (pyNext (.ref it)) (fun r s1=>r=none∧Inv X pins σ H s1) E s
 self:∀(A:Around) (i:Nat) (s:Shared) (Q:Value→Shared→Prop) (E:Value→Shared→Prop),tn i s.heap→Q (.ref it) s→wpAny (model P w) A (pyIter (.ref it)) Q E s
noncomputable abbrev TI:=St→Hp→(It→Hp→Prop)→Prop
inductive PIE (X:Cx)(pins:List (Addr×Obj))(σ:St)(tg:Expr)(R:It→Hp→Prop)(itv:Value)(s2:Shared):Prop
 |mk (it:Addr) (fp:List Addr) (tn:Nat→Heap→Prop) (J:It) (H':Hp) (e:itv= .ref it) (i:Inv X pins σ H' s2) (T:Turn X.prog X.w X.K tg J fp it tn) (st:tn 0 s2.heap) (f:∀b∈fp,gd X pins H' b) (q:R J H')
noncomputable def PI (X:Cx)(tg iter:Expr)(wi:TI):Prop:=
 ∀(pins:List (Addr×Obj)) (s:Shared) (σ:St) (H:Hp) (R:It→Hp→Prop),Inv X pins σ H s→wi σ H R→
  wpAny (model X.prog X.w) X.A (eval iter X.env) (fun v s1=>wpAny (model X.prog X.w) X.A (pyIter v) (PIE X pins σ tg R) X.xe s1) X.xe s
theorem sk {M:Model}{A:Around}{E:Value→Shared→Prop}{s:Shared}{tg:Expr}{it:Addr}{u:Value}{o:Obj}{n:String}{vs:Array Value}{Q:Unit→Shared→Prop}(ho:s.heap.get? it=some o)(hc:o.cls= .type n)(hd:o.data= .fields vs)
    (hn:["enumerate","zip","dict_itemiterator","dict_reverseitemiterator","odict_iterator","itertools.zip_longest","itertools.pairwise"].contains n=false) (hQ:Q () s):wpAny M A (letOwnedTupleGo tg (.ref it) u) Q E s:=by
  unfold letOwnedTupleGo;cases tg <;> first
    |exact wpAny_pure hQ
    | (cases u <;> first
        |exact wpAny_pure hQ
        | (refine wpAny_bind (wpAny_load ho ?_)
           rw[hc,hd];show wpAny M A (if (["enumerate","zip","dict_itemiterator","dict_reverseitemiterator","odict_iterator","itertools.zip_longest","itertools.pairwise"].contains n&&vs[0]?==some (rawInt _))=true then _ else _) Q E s
           rw[if_neg (by intro h;rw[hn,Bool.false_and]at h;cases h)];exact wpAny_pure hQ))
noncomputable def C3 (K:W.Frag)(a:Addr):It:=
 ⟨fun i H=>∃xs x,f6 K H a xs∧xs[i]?=some x,fun i H x H'=>H'=H∧∀xs,f6 K H a xs→xs[i]?=some x,fun i H=>∃xs,f6 K H a xs∧xs.length≤i⟩
noncomputable def C4 (K:W.Frag)(a:Addr):It:=
 ⟨fun i H=>∃xs x,kG K H a xs∧xs[i]?=some x,fun i H x H'=>H'=H∧∀xs,kG K H a xs→xs[i]?=some x,fun i H=>∃xs,kG K H a xs∧xs.length≤i⟩
noncomputable def BJ (lo:Int)(n:Nat):It:=⟨fun i _=>i<n,fun i H x H'=>H'=H∧x= .int (lo+i),fun i _=>n≤i⟩
theorem ut {P:Program}{w:World}{K:W.Frag}{tg:Expr}(a it:Addr):Turn P w K tg (C3 K a) [it] it (fun i h=>h.IsListIter it a i) where
 mem:=by simp
 obj:=fun i h q b hb=>by
  have e:b=it:=by simpa using hb
  subst e;obtain⟨o,e,c,d⟩:=q;exact⟨o,e,fun v z=>by rw[d]at z;cases z⟩
 keep:=fun i h h' q k=>q.at fun o e=>k it (by simp) o e
 item:=by
  intro X hP hw hK hc i pins s σ H E I hf q hg;subst hP hw hK;obtain⟨xs,x,hq,hx⟩:=hg;obtain⟨its,rv,p,hz⟩:=I.list hq;obtain⟨u,hu,ru⟩:=rv.get hx;obtain⟨f0,f1,f2,f3,f4,f5⟩:=hf it (by simp);refine wpAny_pyNext_list_item q p.isList (x:=u) (by simpa using hu) fun h' st' sb=>?_;have I1:Inv X pins σ H {s with heap:=h'}:=I.turned (t':=s.toks) (fun b o hb e=>(sb.2 b hb).trans e) f0 f1 f3 f4 f5
  obtain⟨o,e,c,d⟩:=id st';exact⟨u,rfl,sk (s:={s with heap:=h'}) e c d (by decide) ⟨x,H,I1,ru,⟨rfl,fun ys hy=>by rw[I.list_inj hy hq];exact hx⟩,st',fun b hb=>(hf b hb).1⟩⟩
 done:=by
  intro X hP hw hK hc i pins s σ H E I hf q hg;subst hP hw hK;obtain⟨xs,hq,hx⟩:=hg;obtain⟨its,rv,p,hz⟩:=I.list hq;obtain⟨f0,f1,f2,f3,f4,f5⟩:=hf it (by simp);have hl:=rv.length;exact wpAny_pyNext_list_end (I.ok.hd hc) q p.isList (by simp;omega) fun h' eb=>⟨rfl,I.turned (t':=s.toks) (fun b o hb e=>eb b o hb e) f0 f1 f3 f4 f5⟩
 self:=fun _ _ _ _ _ q h=>wpAny_pyIter_listiter q h
theorem rF {P:Program}{w:World}{K:W.Frag}{tg:Expr}(a it:Addr):Turn P w K tg (C4 K a) [it] it (fun i h=>h.IsTupleIter it a i) where
 mem:=by simp
 obj:=fun i h q b hb=>by
  have e:b=it:=by simpa using hb
  subst e;obtain⟨o,e,c,d⟩:=q;exact⟨o,e,fun v z=>by rw[d]at z;cases z⟩
 keep:=fun i h h' q k=>q.at fun o e=>k it (by simp) o e
 item:=by
  intro X hP hw hK hc i pins s σ H E I hf q hg;subst hP hw hK;obtain⟨xs,x,hq,hx⟩:=hg;obtain⟨its,rv,p,hz⟩:=I.tuple hq;obtain⟨u,hu,ru⟩:=rv.get hx;obtain⟨f0,f1,f2,f3,f4,f5⟩:=hf it (by simp);refine wpAny_pyNext_tuple_item q (show s.heap.IsTuple a its.toArray from p) (x:=u) (by simpa using hu) fun h' st' sb=>?_;have I1:Inv X pins σ H {s with heap:=h'}:=I.turned (t':=s.toks) (fun b o hb e=>(sb.2 b hb).trans e) f0 f1 f3 f4 f5
  obtain⟨o,e,c,d⟩:=id st';exact⟨u,rfl,sk (s:={s with heap:=h'}) e c d (by decide) ⟨x,H,I1,ru,⟨rfl,fun ys hy=>by rw[I.tuple_inj hy hq];exact hx⟩,st',fun b hb=>(hf b hb).1⟩⟩
 done:=by
  intro X hP hw hK hc i pins s σ H E I hf q hg;subst hP hw hK;obtain⟨xs,hq,hx⟩:=hg;obtain⟨its,rv,p,hz⟩:=I.tuple hq;obtain⟨f0,f1,f2,f3,f4,f5⟩:=hf it (by simp);have hl:=rv.length;exact wpAny_pyNext_tuple_end (I.ok.hd hc) q (show s.heap.IsTuple a its.toArray from p) (by simp;omega) fun h' eb=>⟨rfl,I.turned (t':=s.toks) (fun b o hb e=>eb b o hb e) f0 f1 f3 f4 f5⟩
 self:=fun _ _ _ _ _ q h=>wpAny_pyIter_tupleiter q h
theorem rE {P:Program}{w:World}{K:W.Frag}{tg:Expr}(it:Addr)(lo:Int)(n:Nat):Turn P w K tg (BJ lo n) [it] it (fun i h=>IsRangeIter h it (lo+(i:Nat)*1) ((n:Int)-(i:Nat)) 1) where
 mem:=by simp
 obj:=fun i h p b hb=>by
  have e:b=it:=by simpa using hb
  subst e;exact⟨_,p,fun v z=>by
   have z':Data.fields _=Data.cell v:=z;cases z'⟩
 keep:=fun i h h' p k=>k it (by simp) _ p
 item:=by
  intro X hP hw hK hc i pins s σ H E I hf p hg;subst hP hw hK;obtain⟨f0,f1,f2,f3,f4,f5⟩:=hf it (by simp);have W:=Walks.range (prog:=X.prog) (w:=X.w) (I.ok.hd hc) it lo 1 n;refine W.item i s _ _ hg p fun v h' tk hv st' kk=>?_;obtain⟨t,rfl⟩:=hv;have I1:Inv X pins σ H {s with heap:=h',toks:=tk}:=I.turned (fun b o hb e=>kk b o (by simpa using hb) e) f0 f1 f3 f4 f5
  refine⟨_,rfl,sk (s:={s with heap:=h',toks:=tk}) (n:= "range_iterator") st' rfl rfl (by decide) ⟨.int (lo+i),H,I1,⟨t,?_⟩,⟨rfl,rfl⟩,st',fun b hb=>(hf b hb).1⟩⟩
  rw[Int.mul_one]
 done:=by
  intro X hP hw hK hc i pins s σ H E I hf p hg;subst hP hw hK;obtain⟨f0,f1,f2,f3,f4,f5⟩:=hf it (by simp);exact wpAny_pyNext_range_end (I.ok.hd hc) p (by have:n≤i:=hg;omega) fun h' eb=>⟨rfl,I.turned (t':=s.toks) (fun b o hb e=>eb b o hb e) f0 f1 f3 f4 f5⟩
 self:=fun _ _ _ _ _ p h=>wpAny_pyIter_rangeiter p h
section
variable{X:Cx}{tg:Expr}
noncomputable def Cc (K:W.Frag)(tl:TE):TI:=fun σ H R=>tl σ H fun x H1=>∃a,x= .ref a∧(∃xs,f6 K H1 a xs)∧R (C3 K a) H1
noncomputable def Dk (K:W.Frag)(tl:TE):TI:=fun σ H R=>tl σ H fun x H1=>∃a,x= .ref a∧(∃xs,kG K H1 a xs)∧R (C4 K a) H1
theorem yL {l:Expr}{tl:TE}(hl:PE X l tl):PI X tg l (Cc X.K tl):=by
 intro pins s σ H R I h;refine aE (hl pins s σ H _ I h) fun v s1 hZ42=>?_;obtain⟨x,H1,I1,r1,q1⟩:=hZ42;obtain⟨a,e,⟨xs,hq⟩,q⟩:=q1;subst e;cases r1;obtain⟨its,rv,p,hz⟩:=I1.list hq;refine wpAny_pyIter_list p.isList ?_;refine⟨s1.heap.objs.size,[s1.heap.objs.size],_,_,H1,rfl,I1.kept (t':=s1.toks) fun b o e=>Heap.get?_push_of_some _ e,ut a _,⟨_,Heap.get?_push_size _ rfl,rfl,rfl⟩,fun b hb=>?_,q⟩;have e:b=s1.heap.objs.size:=by simpa using hb
 subst e;exact I1.fpOk (le_refl _) (I1.hok.fresh (le_refl _))
theorem Bk {l:Expr}{tl:TE}(hl:PE X l tl):PI X tg l (Dk X.K tl):=by
 intro pins s σ H R I h;refine aE (hl pins s σ H _ I h) fun v s1 hZ43=>?_;obtain⟨x,H1,I1,r1,q1⟩:=hZ43;obtain⟨a,e,⟨xs,hq⟩,q⟩:=q1;subst e;cases r1;obtain⟨its,rv,p,hz⟩:=I1.tuple hq;refine wpAny_pyIter_tuple (show s1.heap.IsTuple a its.toArray from p) ?_;refine⟨s1.heap.objs.size,[s1.heap.objs.size],_,_,H1,rfl,I1.kept (t':=s1.toks) fun b o e=>Heap.get?_push_of_some _ e,rF a _,⟨_,Heap.get?_push_size _ rfl,rfl,rfl⟩,fun b hb=>?_,q⟩;have e:b=s1.heap.objs.size:=by simpa using hb
 subst e;exact I1.fpOk (le_refl _) (I1.hok.fresh (le_refl _))
theorem qi {pins:List (Addr×Obj)}{σ:St}{H:Hp}{s:Shared}{R:It→Hp→Prop}{E:Value→Shared→Prop}{lo hi:Int}{t u v:Tok}{tk:Nat}(I:Inv X pins σ H s)(h1: -(2 ^ 62)≤lo)(h2:lo<2 ^ 62)(h3: -(2 ^ 62)≤hi)(h4:hi<2 ^ 62)
  (q:R (BJ lo (hi-lo).toNat) H):wpAny (model X.prog X.w) X.A (pyIter (.ref s.heap.objs.size)) (PIE X pins σ tg R) E {s with heap:=s.heap.push {cls:=.type "range",data:=.fields #[.int lo t,.int hi u,.int 1 v]},toks:=tk}:=by
 refine wpAny_pyIter_range (IsRange.new ..) (small_one h1 h2 h3 h4) ?_;have I1:Inv X pins σ H {s with heap:=s.heap.push {cls:=.type "range",data:=.fields #[.int lo t,.int hi u,.int 1 v]},toks:=tk}:=I.kept fun b o e=>Heap.get?_push_of_some _ e
 refine⟨(s.heap.push {cls:=.type "range",data:=.fields #[.int lo t,.int hi u,.int 1 v]}).objs.size,[(s.heap.push {cls:=.type "range",data:=.fields #[.int lo t,.int hi u,.int 1 v]}).objs.size],_,_,H,rfl,
  I1.kept (t':=tk) fun b o e=>Heap.get?_push_of_some _ e,rE _ lo (hi-lo).toNat,?_,fun b hb=>?_,q⟩
 ·have e1:lo+((0:Nat):Int)*1=lo:=by simp
  have e2:(((hi-lo).toNat:Nat):Int)-((0:Nat):Int)=Builtin.Range.rangeSize lo hi 1:=by rw[rangeSize_one];split <;> omega
  show IsRangeIter _ _ (lo+((0:Nat):Int)*1) ((((hi-lo).toNat:Nat):Int)-((0:Nat):Int)) 1;rw[e1,e2];exact Heap.get?_push_size _ rfl
 ·have e:b=(s.heap.push {cls:=.type "range",data:=.fields #[.int lo t,.int hi u,.int 1 v]}).objs.size:=by simpa using hb
  subst e;exact I1.fpOk (le_refl _) (I1.hok.fresh (le_refl _))
noncomputable def Cd (ta:TA):TI:=fun σ H R=>ta σ H fun vs H1=>∃j:Int,vs=[.int j]∧ -(2 ^ 62)≤j∧j<2 ^ 62∧R (BJ 0 j.toNat) H1
noncomputable def Ce (ta:TA):TI:=fun σ H R=>ta σ H fun vs H1=>∃i j:Int,vs=[.int i,.int j]∧(-(2 ^ 62)≤i∧i<2 ^ 62∧ -(2 ^ 62)≤j∧j<2 ^ 62)∧R (BJ i (j-i).toNat) H1
theorem ue {a:Expr}{ta:TA}{p pos:Pos}(hg:Gl X "range")(hm:X.mg "range" =none)(ha:PA X [a] ta)(hs:starEach [a] X.env=[(false,eval a X.env)]:=by rfl):PI X tg (.Call (.Name "range" p) [a] [] pos) (Cd ta):=by
 intro pins s σ H R I h;refine Call_ (gC I hg hm boot_range (PyProof.Rows.callWith_type1 (aE (ha pos pins s σ H _ I h) fun us s1 hZ44=>?_) hs rfl));obtain⟨vs,H1,I1,r1,q1⟩:=hZ44;obtain⟨j,e,q1,q2,q⟩:=q1;subst e;cases r1 with
 |cons r rr=>
  cases rr;obtain⟨t,rfl⟩:=r;exact call_range_1 (qi I1 (by omega) (by omega) q1 q2 (by simpa using q))
theorem uf {a b:Expr}{ta:TA}{p pos:Pos}(hg:Gl X "range")(hm:X.mg "range" =none)(ha:PA X [a,b] ta)(hs:starEach [a,b] X.env=[(false,eval a X.env),(false,eval b X.env)]:=by rfl)(hs2:starEach [b] X.env=[(false,eval b X.env)]:=by rfl) :
  PI X tg (.Call (.Name "range" p) [a,b] [] pos) (Ce ta):=by
 intro pins s σ H R I h;refine Call_ (gC I hg hm boot_range (PyProof.Rows.callWith_type1 (aE (ha pos pins s σ H _ I h) fun us s1 hZ45=>?_) (by rw[hs,hs2]) (by rw[hs2];rfl)));obtain⟨vs,H1,I1,r1,q1⟩:=hZ45;obtain⟨i,j,e,⟨q1,q2,q3,q4⟩,q⟩:=q1;subst e;cases r1 with
 |cons r rr=>
  cases rr with
  |cons r' rr=>
   cases rr;obtain⟨t,rfl⟩:=r;obtain⟨t',rfl⟩:=r';exact call_range_2 (qi I1 q1 q2 q3 q4 q)
noncomputable def lu (fp:List Addr)(h:Heap):List (Addr×Obj):=fp.filterMap fun b=>(h.get? b).map fun o=>(b,o)
theorem fN {fp:List Addr}{h:Heap}{b:Addr}{o:Obj}(hb:b∈fp)(e:h.get? b=some o):(b,o)∈lu fp h:=mem_filterMap.mpr ⟨b,hb,by rw[e];rfl⟩
theorem ud {fp:List Addr}{h:Heap}{p:Addr×Obj}(hp:p∈lu fp h):p.1∈fp∧h.get? p.1=some p.2:=by
 obtain⟨b,hb,e⟩:=mem_filterMap.mp hp;cases q:h.get? b with
 |none=>rw[q]at e;cases e
 |some o=>
  rw[q]at e;have e':(b,o)=p:=Option.some.inj e;subst e';exact⟨hb,q⟩
theorem Inv.pinned {pins:List (Addr×Obj)}{σ:St}{H:Hp}{s:Shared}{fp:List Addr}(I:Inv X pins σ H s)(hf:∀b∈fp,gd X pins H b)(ho:∀b∈fp,∃o,s.heap.get? b=some o∧∀v,o.data≠ .cell v):Inv X (pins ++ lu fp s.heap) σ H s:=
 I.pins_of fun p hp=>(mem_append.mp hp).elim (fun z=>I.pin p (mem_append_right _ z)) fun z=>by
  obtain⟨hb,e⟩:=ud z;obtain⟨f0,f1,f2,_⟩:=hf p.1 hb;obtain⟨o,e',d⟩:=ho p.1 hb;rw[e]at e';cases e';exact⟨e,f0,f1,f2,d⟩
theorem Inv.unpinned {pins pl:List (Addr×Obj)}{σ:St}{H:Hp}{s:Shared}(I:Inv X (pins ++ pl) σ H s):Inv X pins σ H s:=I.pins_of fun p hp=>I.pin p (mem_append_right _ (mem_append_left _ hp))
end
noncomputable abbrev R2:=V→V→Hp→VK→Prop
noncomputable def oU (X:Cx)(f:Value→Value→Sem Value)(r:R2):Prop:=
 ∀(pins:List (Addr×Obj)) (s:Shared) (σ:St) (H:Hp) (x y:V) (v u:Value) (Q:VK),Inv X pins σ H s→RelV x v→RelV y u→r x y H Q→
  wpAny (model X.prog X.w) X.A (f v u) (EP X pins σ Q) X.xe s
noncomputable def DM (X:Cx)(f:Value→Sem Value)(r:V→Hp→VK→Prop):Prop:=
 ∀(pins:List (Addr×Obj)) (s:Shared) (σ:St) (H:Hp) (x:V) (v:Value) (Q:VK),Inv X pins σ H s→RelV x v→r x H Q→
  wpAny (model X.prog X.w) X.A (f v) (EP X pins σ Q) X.xe s
noncomputable def dz (X:Cx)(f:Value)(r:List V→Hp→VK→Prop):Prop:=
 ∀(pins:List (Addr×Obj)) (s:Shared) (σ:St) (H:Hp) (xs:List V) (us:List Value) (Q:VK),Inv X pins σ H s→Vals xs us→r xs H Q→
  wpAny (model X.prog X.w) X.A (call f us) (EP X pins σ Q) X.xe s
noncomputable def DO (r:R2)(ta tb:TE):TE:=fun σ H Q=>ta σ H fun x H1=>tb σ H1 fun y H2=>r x y H2 Q
noncomputable def rI (C:Int→Int→Prop)(g:Int→Int→V):R2:=fun x y H Q=>∃i j,x= .int i∧y= .int j∧C i j∧Q (g i j) H
noncomputable def zD (g:Int→Int→V):R2:=fun x y H Q=>∃i j,x= .int i∧y= .int j∧Q (g i j) H
noncomputable def rU (g:Int→V):V→Hp→VK→Prop:=fun x H Q=>∃i,x= .int i∧Q (g i) H
section
variable{X:Cx}{a b c:Expr}{ta tb tc:TE}{pos:Pos}
theorem Di (ha:PE X a ta)(hb:PE X b tb){pins:List (Addr×Obj)}{s:Shared}{σ:St}{H:Hp}{R:V→V→Hp→Prop}(I:Inv X pins σ H s)
  (h:ta σ H fun x H1=>tb σ H1 fun y H2=>R x y H2) {Q:Value→Shared→Prop} {f:Value→Value→Sem Value}
  (hf:∀v u s2 x y H2,Inv X pins σ H2 s2→RelV x v→RelV y u→R x y H2→wpAny (model X.prog X.w) X.A (f v u) Q X.xe s2) :
  wpAny (model X.prog X.w) X.A (eval a X.env) (fun v s₁=>wpAny (model X.prog X.w) X.A (eval b X.env) (fun u s₂=>wpAny (model X.prog X.w) X.A (f v u) Q X.xe s₂) X.xe s₁) X.xe s:=by
 refine aE (ha pins s σ H _ I h) fun v s1 hZ46=>?_;obtain⟨x,H1,I1,r1,q1⟩:=hZ46;refine aE (hb pins s1 σ H1 _ I1 q1) fun u s2 hZ47=>?_;obtain⟨y,H2,I2,r2,q2⟩:=hZ47;exact hf v u s2 x y H2 I2 r1 r2 q2
theorem Dr {f:Value→Value→Sem Value}{C:Int→Int→Prop}{g:Int→Int→Int}
  (rule:∀(i j:Int) (t u:Tok) (s:Shared) (Q:Value→Shared→Prop) (E:Value→Shared→Prop),C i j→Q (.int (g i j) s.toks) {s with toks:=s.toks+1}→wpAny (model X.prog X.w) X.A (f (.int i t) (.int j u)) Q E s) :
  oU X f (rI C fun i j=>.int (g i j)):=by
 intro pins s σ H x y v u Q I rx ry h;obtain⟨i,j,rfl,rfl,hc,q⟩:=h;obtain⟨t,rfl⟩:=rx;obtain⟨t',rfl⟩:=ry;exact rule i j t t' s _ _ hc ⟨.int (g i j),H,I.tok _,⟨_,rfl⟩,q⟩
theorem CA {f:Value→Value→Sem Value}{g:Int→Int→Int}
  (rule:∀(i j:Int) (t u:Tok) (s:Shared) (Q:Value→Shared→Prop) (E:Value→Shared→Prop),Q (.int (g i j) s.toks) {s with toks:=s.toks+1}→wpAny (model X.prog X.w) X.A (f (.int i t) (.int j u)) Q E s) :
  oU X f (zD fun i j=>.int (g i j)):=by
 intro pins s σ H x y v u Q I rx ry h;obtain⟨i,j,rfl,rfl,q⟩:=h;obtain⟨t,rfl⟩:=rx;obtain⟨t',rfl⟩:=ry;exact rule i j t t' s _ _ ⟨.int (g i j),H,I.tok _,⟨_,rfl⟩,q⟩
theorem AY {f:Value→Value→Sem Value}{g:Int→Int→Bool}
  (rule:∀(i j:Int) (t u:Tok) (s:Shared) (Q:Value→Shared→Prop) (E:Value→Shared→Prop),Q (.bool (g i j)) s→wpAny (model X.prog X.w) X.A (f (.int i t) (.int j u)) Q E s) :
  oU X f (zD fun i j=>.bl (g i j)):=by
 intro pins s σ H x y v u Q I rx ry h;obtain⟨i,j,rfl,rfl,q⟩:=h;obtain⟨t,rfl⟩:=rx;obtain⟨t',rfl⟩:=ry;exact rule i j t t' s _ _ ⟨.bl (g i j),H,I,rfl,q⟩
noncomputable def ux (i j:Int):Prop:=0<j∧j<1073741824
noncomputable def CMul (i j:Int):Prop:=(-(2 ^ 64)<i∧i<2 ^ 64)∨(-(2 ^ 64)<j∧j<2 ^ 64)
theorem CMul.ok {i j:Int}(h:CMul i j):IntMulOk i j:=by
 rcases h with ⟨h1,h2⟩|⟨h1,h2⟩
 ·exact .of_left (intBits_le_64 h1 h2)
 ·exact .of_right (intBits_le_64 h1 h2)
theorem AZ:oU X (binaryOp .Add) (zD fun i j=>.int (i+j)):=CA fun _ _ _ _ _ _ _ q=>add_int q
theorem A5:oU X (binaryOp .Sub) (zD fun i j=>.int (i-j)):=CA fun _ _ _ _ _ _ _ q=>sub_int q
theorem A3:oU X (binaryOp .Mult) (rI CMul fun i j=>.int (i*j)):=Dr fun _ _ _ _ _ _ _ hc q=>mul_int q hc.ok
theorem yw:oU X (binaryOp .FloorDiv) (rI ux fun i j=>.int (i / j)):=Dr fun i j _ _ _ _ _ hc q=>by
 have h1:(0:Int)<j:=hc.1;have h2:j<1073741824:=hc.2;exact floordiv_int (by omega) (by rw[Int.fdiv_eq_ediv_of_nonneg i (by omega)];exact q) (.inl (PyProof.noPylong_small (by omega)))
theorem A1:oU X (binaryOp .Mod) (rI (fun _ j=>0<j) fun i j=>.int (i % j)):=Dr fun i j _ _ _ _ _ hc q=>by
 have h1:(0:Int)<j:=hc;exact mod_int' (by omega) (by rw[Int.fmod_eq_emod_of_nonneg i (by omega)];exact q)
theorem D1 {f:Value→Sem Value}{g:Int→Int}
  (rule:∀(i:Int) (t:Tok) (s:Shared) (Q:Value→Shared→Prop) (E:Value→Shared→Prop),Q (.int (g i) s.toks) {s with toks:=s.toks+1}→wpAny (model X.prog X.w) X.A (f (.int i t)) Q E s) :
  DM X f (rU fun i=>.int (g i)):=by
 intro pins s σ H x v Q I rx h;obtain⟨i,rfl,q⟩:=h;obtain⟨t,rfl⟩:=rx;exact rule i t s _ _ ⟨.int (g i),H,I.tok _,⟨_,rfl⟩,q⟩
theorem Bz:DM X (unaryOp .USub) (rU fun i=>.int (-i)):=D1 fun _ _ _ _ _ q=>neg_int q
theorem CD:oU X (compareOp .Lt) (zD fun i j=>.bl (decide (i<j))):=AY fun _ _ _ _ _ _ _ q=>lt_int q
theorem CC:oU X (compareOp .LtE) (zD fun i j=>.bl (decide (i≤j))):=AY fun _ _ _ _ _ _ _ q=>le_int q
theorem CB:oU X (compareOp .Gt) (zD fun i j=>.bl (decide (j<i))):=AY fun _ _ _ _ _ _ _ q=>gt_int q
theorem aW (b:Expr){op:CmpOp}(h:op≠ .In:=by decide)(h2:op≠ .NotIn:=by decide):behindInMarks op b=false:=by
 have e1:(op==CmpOp.In)=false:=by cases op <;> first|rfl|exact absurd rfl h
 have e2:(op==CmpOp.NotIn)=false:=by cases op <;> first|rfl|exact absurd rfl h2
 cases b <;> simp[behindInMarks,e1,e2]
theorem nY:(sizeLine:Nat)<2 ^ 63:=by rw[sizeLine_eq];decide
theorem qZ:oU X (binaryOp .Add) (fun x y H Q=>∃i j,x= .str i∧y= .str j∧i.length+j.length≤sizeLine∧Q (.str (i ++ j)) H):=by
 intro pins s σ H x y v u Q I rx ry h;obtain⟨i,j,rfl,rfl,hz,q⟩:=h;obtain⟨t,rfl⟩:=rx;obtain⟨t',rfl⟩:=ry;exact add_str (fun t' tk=>⟨.str (i ++ j),H,I.tok _,⟨_,rfl⟩,q⟩) hz
theorem ij {x:V}{us:List Value}(r:Vals [x] us):∃u,us=[u]∧RelV x u:=by
 cases r with
 |cons r1 r2=>cases r2;exact⟨_,rfl,r1⟩
theorem zI {x y:V}{us:List Value}(r:Vals [x,y] us):∃u w',us=[u,w']∧RelV x u∧RelV y w':=by
 cases r with
 |cons r1 r2=>
  cases r2 with
  |cons r3 r4=>cases r4;exact⟨_,_,rfl,r1,r3⟩
theorem nh:dz X (.type "str") (fun xs H Q=>∃i,xs=[.int i]∧i.natAbs.log2<1920∧Q (.str (toString i)) H):=by
 intro pins s σ H xs us Q I r h;obtain⟨i,rfl,hz,q⟩:=h;obtain⟨u,rfl,t,rfl⟩:=ij r;exact PySem.P.str_of_int hz ⟨.str _,H,I.tok _,⟨_,rfl⟩,q⟩
end
structure ObjM (h:Heap)(x dx C:Addr)(mA:Str→Option Value):Prop where
 obj:h.get? x=some (W.instObj C dx)
 ns:h.Ns1 dx mA
 ne:dx≠x
theorem tY {h:Heap}{dx:Addr}{mA:Str→Option Value}(n:h.Ns1 dx mA):∃od,h.get? dx=some od∧∀name,W.lookIn name od=some (mA name):=by
 obtain⟨o,es,ep,ho,hd,hk,_,hm⟩:=n;refine⟨o,ho,fun name=>?_⟩;have e:=hm name;unfold nsFind findBy at e;rw[←Array.find?_toList]at e;unfold W.lookIn;rw[hd];dsimp only;split
 ·rename_i y q;rw[q]at e;exact congrArg some e
 ·rename_i q;rw[q]at e;have a:es.toList.any (·.refKey)=false:=by
   rw[List.any_eq_false];intro y hy;obtain⟨z,t,hkey⟩:=hk y (Array.mem_toList_iff.mp hy);simp[DictEntry.refKey,hkey]
  have a':¬es.toList.any (·.refKey)=true:=by rw[a];exact Bool.false_ne_true
  rw[if_neg a'];exact congrArg some e
theorem ObjM.look {h:Heap}{x dx C:Addr}{mA:Str→Option Value}(I:ObjM h x dx C mA):∃od,W.InstAt h x (W.instObj C dx) C (some od)∧∀name,W.lookIn name od=some (mA name):=
 let ⟨od,ho,hl⟩:=tY I.ns
 ⟨od,⟨I.obj,rfl,rfl,ho⟩,hl⟩
section
variable{prog:Program}{w:World}{A:Around}{E:Value→Shared→Prop}{s:Shared}{K:W.Frag}{x dx C f:Addr}{mA:Str→Option Value}{name:Str}{v:Value}
theorem ye {expr:Bool}{Q:Value→Shared→Prop}(X:K.In s.heap)(I:ObjM s.heap x dx C mA)(hg:W.plainGet K C name=true)(hh:W.hasDictIn K C=true)
  (ha:W.findIn K (.ref C) name=some none) (hv:mA name=some v) (hv':W.handedIn v=true) (h:Q v {s with toks:=s.toks+1}) :
  wpAny (model prog w) A (getAttr (.ref x) name expr) Q E s:=by
 obtain⟨od,J,hl⟩:=I.look;exact W.get_value X J (W.plainGet_of hg).1 (W.findObj_own hh ha rfl (by rw[hl,hv])) hv' h
theorem u_ {pl:Sem Bool}{Q:Value×List Value→Shared→Prop}(X:K.In s.heap)(I:ObjM s.heap x dx C mA)(hg:W.plainGet K C name=true)
  (hf:W.findIn K (.ref C) name=some (some (.ref f))) (ht:W.isFn K (.ref f)=true) (hv:mA name=none) (h:Q (.ref f,[.ref x]) s) :
  wpAny (model prog w) A (getMethod (.ref x) name pl) Q E s:=by
 obtain⟨od,J,hl⟩:=I.look;exact W.method_fn X J (W.plainGet_of hg).1 (W.plainGet_of hg).2 hf (beq_iff_eq.mp ht) (by show (W.lookIn name od).map (·.isSome)=some false;rw[hl,hv];rfl) h
theorem y8 {ns:List Str}{Q:Unit→Shared→Prop}(X:K.In s.heap)(I:ObjM s.heap x dx C mA)
  (hs:W.findIn K (.ref C) "__setattr__" =some (some (.builtin "object.__setattr__"))) (hp:W.plainOver K C=true) (ht:W.takerIn K C name=some none) (hh:W.hasDictIn K C=true)
  (hw:PySem.Within mA ns) (hsz:ns.length≤sizeLine)
  (h:∀h',ObjM h' x dx C (fun y=>if y=name then some v else mA y)→Heap.SameBut dx s.heap h'→Q () {s with heap:=h',toks:=s.toks+2}) :
  wpAny (model prog w) A (setAttr (.ref x) name v) Q E s:=by
 obtain⟨od,J,hl⟩:=I.look;refine W.set_plain X J hs (W.osa_open (s:={s with toks:=s.toks+1}) (r:=none) X J hp ht fun b=>?_)
 obtain⟨cd,hc,hd'⟩:=W.any_some hh;have hx:s.heap.get? x=some ⟨.ref C,some dx,.plain,#[]⟩:=I.obj;refine wpAny_bind (wpAny_pure (wpAny_bind (wpAny_bind (wpAny_loadPart hx (wpAny_bind (W.Looks.here (s:={s with toks:=s.toks+1}) (W.looks_clsIn X hc) ?_))))))
 rw[hd'];refine wpAny_pure (a:=some dx) (wpAny_bind (wpAny_pure (wpAny_bind ?_)));refine wpAny_nsSet1 (s:={s with toks:=s.toks+1}) I.ns fun h' hn2 hs2=>?_
 obtain⟨oD,esD,epD,hoD,hdD,hcD⟩:=hn2.count (PySem.Within.cons name v hw);refine wpAny_bind (wpAny_lookBehind hoD (by rw[hdD];exact pastItsLine_dict (le_trans hcD (by rw[length_cons];omega))) ?_);exact wpAny_pure (h _ ⟨(hs2.2 _ (Ne.symm I.ne)).trans I.obj,hn2,I.ne⟩ hs2)
theorem vC {R:Result→Shared→Prop}{vs:List Value}{kw:List (Str×Value)}(X:K.In s.heap)(hm:W.makesIn K C=true)
  (hi:W.findIn K (.ref C) "__init__" =some (some (.ref f))) (hf:W.typeIn K (.ref f)=some (.type "function"))
  (h:codeAny (model prog w) (A.under (.builtin "type.__call__" ⟨.ref C::vs,kw⟩)) (.call (.ref f) ⟨.ref (s.heap.objs.size+1)::vs,kw⟩) (W.InitBack (s.heap.objs.size+1) R)
   {s with heap:=(s.heap.push W.emptyDict).push (W.instObj C s.heap.objs.size)}) :
  codeAny (model prog w) A (.call (.ref C) ⟨vs,kw⟩) R s:=by
 obtain⟨hh,g,d,t,os⟩:=s;exact W.make_core (W.makes_of X hm) (W.looks_findIn X hi) (fun self=>W.bind_fn X self hf) (.inl rfl) h
end
noncomputable def fR (f:Str)(v:V):List (Str×V)→List (Str×V)
 | []=>[(f,v)]
 |(g,x)::r=>if g=f then (g,v)::r else (g,x)::fR f v r
theorem jQ (f g:Str)(v:V):∀fs:List (Str×V),(fR f v fs).lookup g=if g=f then some v else fs.lookup g
 | []=>by
  show List.lookup g [(f,v)]=_;by_cases h:g=f
  ·have p:(g==f)=true:=beq_iff_eq.mpr h;simp only[List.lookup,p,if_pos h]
  ·have p:(g==f)=false:=beq_eq_false_iff_ne.mpr h;simp only[List.lookup,p,if_neg h]
 |(k,x)::r=>by
  have ih:=jQ f g v r;rw[show fR f v ((k,x)::r)=(if k=f then (k,v)::r else (k,x)::fR f v r) from rfl]
  by_cases hk:k=f
  ·rw[if_pos hk];by_cases h:g=k
   ·have p:(g==k)=true:=beq_iff_eq.mpr h;simp only[List.lookup,p,if_pos (h.trans hk)]
   ·have p:(g==k)=false:=beq_eq_false_iff_ne.mpr h;simp only[List.lookup,p,if_neg (fun e:g=f=>h (e.trans hk.symm))]
  ·rw[if_neg hk];by_cases h:g=k
   ·have p:(g==k)=true:=beq_iff_eq.mpr h;simp only[List.lookup,p,if_neg (fun e:g=f=>hk (h.symm.trans e))]
   ·have p:(g==k)=false:=beq_eq_false_iff_ne.mpr h;simp only[List.lookup,p];exact ih
theorem jB (f:Str)(v:V):∀fs:List (Str×V),f∈(fR f v fs).map (·.1)∧∀g,g∈fs.map (·.1)→g∈(fR f v fs).map (·.1)
 | []=>⟨by simp[fR],fun g h=>by simp at h⟩
 |(k,x)::r=>by
  obtain⟨i1,i2⟩:=jB f v r;rw[show fR f v ((k,x)::r)=(if k=f then (k,v)::r else (k,x)::fR f v r) from rfl]
  by_cases hk:k=f
  ·rw[if_pos hk];subst hk;exact⟨by simp,fun g h=>by simpa using h⟩
  ·rw[if_neg hk];refine⟨?_,fun g h=>?_⟩
   ·rw[map_cons];exact dQ i1
   ·rw[map_cons]at h ⊢
    rcases mem_cons.mp h with e|e
    ·exact mem_cons.mpr (.inl e)
    ·exact dQ (i2 g e)
theorem jN (f:Str)(v:V):∀fs:List (Str×V),(fR f v fs).length≤fs.length+1
 | []=>by simp[fR]
 |(k,x)::r=>by
  have ih:=jN f v r;rw[show fR f v ((k,x)::r)=(if k=f then (k,v)::r else (k,x)::fR f v r) from rfl]
  by_cases hk:k=f
  ·rw[if_pos hk,length_cons,length_cons];omega
  ·rw[if_neg hk,length_cons,length_cons];omega
theorem RelO.some_of {v:V}{o:Option Value}(r:RelO (some v) o):∃u,o=some u∧RelV v u:=by
 cases o with
 |none=>exact(show False from r).elim
 |some u=>exact⟨u,rfl,r⟩
theorem RelO.none_of {o:Option Value}(r:RelO none o):o=none:=by
 cases o with
 |none=>rfl
 |some u=>exact(show False from r).elim
theorem tL {v:V}{u:Value}(r:RelV v u):W.handedIn u=true:=by
 cases v with
 |non=>cases (show u=Value.none from r);rfl
 |bl b=>cases (show u=Value.bool b from r);rfl
 |int i=>obtain⟨t,e⟩:=(show ∃t,u=Value.int i t from r);cases e;rfl
 |str x=>obtain⟨t,e⟩:=(show ∃t,u=Value.str x t from r);cases e;rfl
 |byt b=>obtain⟨t,e⟩:=(show ∃t,u=Value.bytes b t from r);cases e;rfl
 |flt b=>obtain⟨t,e⟩:=(show ∃t,u=Value.float b t from r);cases e;rfl
 |ref a=>cases (show u=Value.ref a from r);rfl
 |ty n=>cases (show u=Value.type n from r);rfl
section
variable{P:Program}{w:World}{H H':Hp}{h h':Heap}{a C dx:Addr}{fs fs':List (Str×V)}
theorem nQ (hok:HOk P w H h)(e:H a=some (.ins C dx fs)):∃mA,ObjM h a dx C mA∧(∀f,RelO (fs.lookup f) (mA f))∧PySem.Within mA (fs.map (·.1))∧fs.length≤1000∧H dx=some (.own a):=by
 obtain⟨d,z,ne,ob,mA,n,r,q⟩:=(show ObjOk P w H h a (.ins C dx fs) from hok a _ e);exact⟨mA,⟨ob,n,ne⟩,r,q,z,d⟩
end
structure Cls (K:W.Frag)(C:Addr):Prop where
 pg:W.plainGet K C Str.empty=true
 hd:W.hasDictIn K C=true
 po:W.plainOver K C=true
 sa:W.findIn K (.ref C) "__setattr__" =some (some (.builtin "object.__setattr__"))
theorem Cls.get {K:W.Frag}{C:Addr}(c:Cls K C)(f:Str):W.plainGet K C f=true:=c.pg
noncomputable def NoAttr (K:W.Frag)(C:Addr)(f:Str):Prop:=W.findIn K (.ref C) f=some none
theorem NoAttr.taker {K:W.Frag}{C:Addr}{f:Str}(n:NoAttr K C f):W.takerIn K C f=some none:=by
 unfold W.takerIn;rw[show W.findIn K (.ref C) f=some none from n];rfl
structure Meth (K:W.Frag)(C:Addr)(m:Str)(f:Addr):Prop where
 at_:W.findIn K (.ref C) m=some (some (.ref f))
 fn:W.isFn K (.ref f)=true
 kp:W.keepIn K (.ref f)=true
section
variable{X:Cx}{pins:List (Addr×Obj)}{σ:St}{H:Hp}{s:Shared}{a C dx:Addr}{fs:List (Str×V)}{f:Str}{v:V}{A:Around}{E:Value→Shared→Prop}
theorem qQ {b:Bool}{Q:Value→Shared→Prop}(I:Inv X pins σ H s)(e:H a=some (.ins C dx fs))(c:Cls X.K C)(n:NoAttr X.K C f)(l:fs.lookup f=some v)
  (h:∀u s',Inv X pins σ H s'→RelV v u→Q u s'):wpAny (model X.prog X.w) A (getAttr (.ref a) f b) Q E s:=by
 obtain⟨mA,O,r,_,_,_⟩:=nQ I.hok e;obtain⟨u,hu,ru⟩:=RelO.some_of (v:=v) (o:=mA f) (by rw[←l];exact r f);exact ye I.kIn O (c.get f) c.hd n hu (tL ru) (h u _ (I.tok _) ru)
theorem qR {m:Str}{g:Addr}{pl:Sem Bool}{Q:Value×List Value→Shared→Prop}(I:Inv X pins σ H s)(e:H a=some (.ins C dx fs))(c:Cls X.K C)(k:Meth X.K C m g)(l:fs.lookup m=none)
  (h:Q (.ref g,[.ref a]) s):wpAny (model X.prog X.w) A (getMethod (.ref a) m pl) Q E s:=by
 obtain⟨mA,O,r,_,_,_⟩:=nQ I.hok e;have hn:mA m=none:=RelO.none_of (by rw[←l];exact r m);exact u_ I.kIn O (c.get m) k.at_ k.fn hn h
theorem rq {y:V}{u:Value}{Q:Unit→Shared→Prop}(I:Inv X pins σ H s)(e:H a=some (.ins C dx fs))(c:Cls X.K C)(n:NoAttr X.K C f)(hl:fs.length<1000)(ry:RelV y u)
  (h:∀s',Inv X pins σ (aS H a (.ins C dx (fR f y fs))) s'→Q () s'):wpAny (model X.prog X.w) A (setAttr (.ref a) f u) Q E s:=by
 obtain⟨mA,O,r,wi,_,ho⟩:=nQ I.hok e;have hz:(fs.map (·.1)).length≤sizeLine:=by rw[length_map,sizeLine_eq];omega
 refine y8 I.kIn O c.sa c.po n.taker c.hd wi hz fun h' O' sb=>h _ ?_;have hd:∃o,h'.get? dx=some o:=let ⟨o,_,_,e',_⟩:=O'.ns;⟨o,e'⟩
 refine I.write (x:=a) (e:=dx) (by rw[e];exact True.intro) (.inr ho) (fun b q hb z=>(sb.2 b hb).trans z) hd ?_;refine⟨by rw[ai O.ne];exact ho,?_,O.ne,O'.obj,_,O'.ns,fun g=>?_,fun g hg=>?_⟩
 ·have:=jN f y fs;omega
 ·show RelO ((fR f y fs).lookup g) (if g=f then some u else mA g)
  rw[jQ];by_cases q:g=f
  ·rw[if_pos q,if_pos q];exact ry
  ·rw[if_neg q,if_neg q];exact r g
 ·by_cases q:g=f
  ·rw[q];exact(jB f y fs).1
  ·refine(jB f y fs).2 g (wi g fun z=>hg ?_);show (if g=f then some u else mA g)=none
   rw[if_neg q];exact z
theorem Inv.made (I:Inv X pins σ H s):Inv X pins σ (aS (aS H s.heap.objs.size (.own (s.heap.objs.size+1))) (s.heap.objs.size+1) (.ins C s.heap.objs.size []))
  {s with heap:=(s.heap.push W.emptyDict).push (W.instObj C s.heap.objs.size)}:=by
 have e1:(s.heap.push W.emptyDict).get? s.heap.objs.size=some W.emptyDict:=Heap.get?_push_size s.heap rfl;have e2:((s.heap.push W.emptyDict).push (W.instObj C s.heap.objs.size)).get? (s.heap.objs.size+1)=some (W.instObj C s.heap.objs.size):=by
  have:=Heap.get?_push_size (s.heap.push W.emptyDict) (o:=W.instObj C s.heap.objs.size) rfl;rwa[Heap.size_push]at this
 have e3:(s.heap.push W.emptyDict).Ns s.heap.objs.size (fun _=>none):=⟨W.emptyDict,#[],_,e1,rfl,(fun e he=>absurd he (by simp)),fun _=>rfl⟩;have I1:=I.laid (a:=s.heap.objs.size) (o:=.own (s.heap.objs.size+1)) (h':=s.heap.push W.emptyDict) (t':=s.toks) (fun b u q=>Heap.get?_push_of_some _ q) (le_refl _) ⟨_,e1⟩;refine I1.laid (a:=s.heap.objs.size+1) (o:=.ins C s.heap.objs.size []) (t':=s.toks) (fun b u q=>Heap.get?_push_of_some _ q) (Nat.le_of_eq (Heap.size_push _ _)) ?_;have ne:s.heap.objs.size≠s.heap.objs.size+1:=ne_of_lt (lt_succ_self _);refine⟨by rw[ai ne,ao],zero_le _,ne,e2,fun _=>none,(Heap.Ns1.of_empty e3).at fun o q=>Heap.get?_push_of_some _ q,fun _=>True.intro,fun y hy=>absurd rfl hy⟩
theorem xu {prog:Program}{w:World}{env:Env}{e:Expr}{f:Str}{pos:Pos}{s:Shared}{Q:Value→Shared→Prop}(hb:attributeBase e f env (eval e env)=eval e env)
  (h:wpAny (model prog w) A (eval e env) (fun o s₁=>wpAny (model prog w) A (getAttr o f true) Q E s₁) E s):wpAny (model prog w) A (eval (.Attribute e f pos) env) Q E s:=
 Attribute_any_ h (by rw[arm_eval_Attribute,hb])
end
noncomputable def DC (K:W.Frag)(ta:TE)(f:Str):TE:=fun σ H Q=>ta σ H fun x H1=>∃a C dx fs v,x= .ref a∧H1 a=some (.ins C dx fs)∧Cls K C∧NoAttr K C f∧fs.lookup f=some v∧Q v H1
noncomputable def Dy (K:W.Frag)(ta tv:TE)(f:Str):TS:=fun D σ H=>tv σ H fun y H1=>ta σ H1 fun x H2=>∃a C dx fs,x= .ref a∧H2 a=some (.ins C dx fs)∧Cls K C∧NoAttr K C f∧fs.length<1000∧
 D.nx σ (aS H2 a (.ins C dx (fR f y fs)))
section
variable{X:Cx}{o e value:Expr}{f:Str}{pos pos' tpos:Pos}{ta tv:TE}
theorem Bf (he:PE X e ta)(hb:attributeBase e f X.env (eval e X.env)=eval e X.env):PE X (.Attribute e f pos) (DC X.K ta f):=by
 intro pins s σ H Q I h;refine xu hb (aE (he pins s σ H _ I h) fun u s1 hZ48=>?_);obtain⟨x,H1,I1,rx,a,C,dx,fs,v,ex,ea,c,n,l,q⟩:=hZ48;subst ex;obtain rfl:u=Value.ref a:=rx;exact qQ I1 ea c n l fun u' s2 I2 ru=>⟨v,H1,I2,ru,q⟩
theorem ww (ha:PE X o ta)(hv:PE X value tv)(hs:swapsWith value (some (.Attribute o f pos')) pos.line X.env=pure false):PS X (.Assign [.Attribute o f pos'] value pos) (Dy X.K ta tv f):=by
 intro pins s σ H D I h;refine plainObj_wpAny_Assign_Attribute (aE (hv pins s σ H _ I h) fun u s1 ⟨y,H1,I1,ry,q⟩=>aE (ha pins s1 σ H1 _ I1 q) fun ov s2 hZ50=>?_) hs;obtain⟨x,H2,I2,rx,a,C,dx,fs,ex,ea,c,n,l,q2⟩:=hZ50;subst ex;obtain rfl:ov=Value.ref a:=rx;exact rq I2 ea c n l ry fun s3 I3=>⟨σ,_,I3,q2⟩
end
section
variable{X:Cx}{pins:List (Addr×Obj)}{σ:St}{H:Hp}{s:Shared}{A:Around}{E:Value→Shared→Prop}{Q:Value→Shared→Prop}{c:Value}{b:Bool}
end
structure Room (k:Nat)(A:Around):Prop where
 hd:A.handled=none
 dp:A.depth+3*k+5<recursionLimit
 un:A.units+16*k+200<cLine
theorem Room.mono {j k:Nat}{A:Around}(r:Room k A)(h:j≤k):Room j A:=⟨r.hd,by have:=r.dp;omega,by have:=r.un;omega⟩
theorem Room.deeper {k:Nat}{A:Around}(r:Room (k+1) A)(env:Env):Room k (A.deeper env):=
 ⟨r.hd,by have:=r.dp;show A.depth+1+3*k+5<_;omega,by have:=r.un;show A.units+3+16*k+200<_;omega⟩
theorem qW {A:Around}{C:Addr}{us:List Value}{kw:List (Str×Value)}:(A.under (.builtin "type.__call__" ⟨.ref C::us,kw⟩)).depth=A.depth+1:=by
 first|rfl|simp[Around.under,Code.weight,Code.isCreation,Code.isGuard,Code.isCaller,Code.frames,Code.isFrame,guardIds]
theorem qX {A:Around}{C:Addr}{us:List Value}{kw:List (Str×Value)}:(A.under (.builtin "type.__call__" ⟨.ref C::us,kw⟩)).units=A.units+1:=by
 first|rfl|simp[Around.under,Code.cUnits,Code.frames,Code.isFrame]
theorem Room.make {k:Nat}{A:Around}(r:Room (k+1) A)(C:Addr)(us:List Value)(kw:List (Str×Value)):Room k (A.under (.builtin "type.__call__" ⟨.ref C::us,kw⟩)):=
 ⟨r.hd,by have:=r.dp;rw[qW];omega,by have:=r.un;rw[qX];omega⟩
theorem Room.depth {k:Nat}{A:Around}(r:Room k A):A.depth<recursionLimit:=by have:=r.dp;omega
theorem Room.units {k:Nat}{A:Around}(r:Room k A):A.units+64<cLine:=by have:=r.un;omega
noncomputable def zc:TA:=fun _ H Q=>Q [] H
noncomputable def sR (ta:TE)(tr:TA):TA:=fun σ H Q=>ta σ H fun x H1=>tr σ H1 fun xs H2=>Q (x::xs) H2
section
variable{X:Cx}{e:Expr}{es:List Expr}{te:TE}{t:TA}{pos:Pos}
theorem gI:PA X [] zc:=fun _ _ _ _ H Q I h=>Calls.spliced_nil ⟨[],H,I,.nil,h⟩
theorem cM (ha:PE X e te)(hr:PA X es t)(hs:starEach (e::es) X.env=(false,eval e X.env)::starEach es X.env:=by rfl):PA X (e::es) (sR te t):=by
 intro pos pins s σ H Q I h;rw[hs];show wpAny _ _ (spliced ((false,eval e X.env)::backTo pos (starEach es X.env))) _ _ s;refine Calls.spliced_cons (aE (ha pins s σ H _ I h) fun u s1 hZ51=>?_);obtain⟨x,H1,I1,r1,q1⟩:=hZ51;exact aE (hr pos pins s1 σ H1 _ I1 q1) fun us s2 hZ52=>(by obtain⟨xs,H2,I2,r2,q2⟩:=hZ52;exact⟨x::xs,H2,I2,.cons r1 r2,q2⟩)
noncomputable def DH (t:TA):TE:=fun σ H Q=>t σ H fun xs H1=>xs.length≤sizeLine∧∀p,H1 p=none→Q (.ref p) (aS H1 p (.tup xs))
noncomputable def DE (t:TA):TE:=fun σ H Q=>t σ H fun xs H1=>xs.length≤sizeLine∧∀p,H1 p=none→Q (.ref p) (aS H1 p (.lst xs))
theorem Bj {x1}(h:PA X es t):PE X (.Tuple es x1 pos) (DH t):=by
 intro pins s σ H Q I hq;refine wpAny_Tuple_spliced (aE (h pos pins s σ H _ I hq) fun us s1 ⟨xs,H1,I1,r,z,q⟩=>⟨by rw[←r.length];exact z,?_⟩);have hf:H1 s1.heap.objs.size=none:=I1.hok.fresh (le_refl _);refine⟨.ref s1.heap.objs.size,aS H1 s1.heap.objs.size (.tup xs),I1.laid (t':=s1.toks) (fun b u e=>Heap.get?_push_of_some _ e) (le_refl _) ?_,rfl,q _ hf⟩;exact⟨z,us,r,⟨_,Heap.get?_push_size _ rfl,rfl,_,rfl⟩⟩
theorem v8 (h:PA X es t):PE X (.List es pos) (DE t):=by
 intro pins s σ H Q I hq;refine wpAny_List_spliced (aE (h pos pins s σ H _ I hq) fun us s1 ⟨xs,H1,I1,r,z,q⟩=>⟨by rw[←r.length];exact z,?_⟩);have hf:H1 s1.heap.objs.size=none:=I1.hok.fresh (le_refl _);refine⟨.ref s1.heap.objs.size,aS H1 s1.heap.objs.size (.lst xs),I1.laid (t':=s1.toks) (fun b u e=>Heap.get?_push_of_some _ e) (le_refl _) ?_,rfl,q _ hf⟩;exact⟨z,us,0,r,Heap.get?_push_size _ rfl⟩
end
noncomputable abbrev Sp:=List V→Hp→VK→XK→Prop
noncomputable abbrev oR:=List Env→Hp→Shared→XK→Value→Shared→Prop
structure Env0 (P:Program)(w:World)(K:W.Frag)(mg:Str→Option Value)(base:Heap)(A:Around)(outer:List Env)(s:Shared)(H:Hp):Prop where
 frames:A.frames=some outer
 mod:Mod K mg base
 bs:∀b o,base.get? b=some o→s.heap.get? b=some o∧H b=none
 bsz:base.objs.size≤s.heap.objs.size
 funs:s.heap.FunFrames base outer
 frf:∀b∈dN outer,H b=none
 hok:HOk P w H s.heap
 bare:AllBare s.gens
inductive CE (outer:List Env)(P:Program)(w:World)(H:Hp)(s:Shared)(Q:VK)(u:Value)(s':Shared):Prop
 |mk (v:V) (H':Hp) (o:s'.os=s.os) (g:AllBare s'.gens) (n:Un (dN outer) [] H H' s.heap s'.heap) (h:HOk P w H' s'.heap) (r:RelV v u) (q:Q v H')
noncomputable def CR (CX:oR)(outer:List Env)(P:Program)(w:World)(H:Hp)(s:Shared)(Q:VK)(E:XK)(r:Result)(s':Shared):Prop:=
 match r with
 |.ok (.ret u)=>CE outer P w H s Q u s'
 |.ok _=>False
 |.error e=>CX outer H s E e s'
structure FnOk (P:Program)(w:World)(K:W.Frag)(mg:Str→Option Value)(base:Heap)(CX:oR)(k:Nat)(f:Addr)(fd:FuncData)(ps:List Str)(sp:Sp):Prop where
 len:∀vs H Q E,sp vs H Q E→vs.length=ps.length
 run:∀(A:Around) (outer:List Env) (s:Shared) (H:Hp) (args:Args) (us:List Value) (vs:List V) (Q:VK) (E:XK),Room k A→Env0 P w K mg base A outer s H→BindsTo s fd args (ps.zip us)→Vals vs us→sp vs H Q E→
  codeAny (model P w) A (.call (.ref f) args) (CR CX outer P w H s Q E) s
theorem FnOk.imp {P:Program}{w:World}{K:W.Frag}{mg:Str→Option Value}{base:Heap}{CX:oR}{k:Nat}{f:Addr}{fd:FuncData}{ps:List Str}{sp sp':Sp}(F:FnOk P w K mg base CX k f fd ps sp)
  (h:∀vs H Q E,sp' vs H Q E→sp vs H Q E):FnOk P w K mg base CX k f fd ps sp':=
 ⟨fun vs H Q E q=>F.len vs H Q E (h _ _ _ _ q),fun A outer s H args us vs Q E hr he hb hv hs=>F.run A outer s H args us vs Q E hr he hb hv (h _ _ _ _ hs)⟩
theorem Env0.make {P:Program}{w:World}{K:W.Frag}{mg:Str→Option Value}{base:Heap}{A:Around}{outer:List Env}{s:Shared}{H:Hp}(e:Env0 P w K mg base A outer s H)(C:Addr)(us:List Value)(kw:List (Str×Value)) :
  Env0 P w K mg base (A.under (.builtin "type.__call__" ⟨.ref C::us,kw⟩)) outer s H:=⟨by first|exact e.frames|(simpa [Around.under,Code.envs,Code.isFrame,pushEnvs] using e.frames),e.mod,e.bs,e.bsz,e.funs,e.frf,e.hok,e.bare⟩
section
variable{X:Cx}{pins:List (Addr×Obj)}{σ:St}{H:Hp}{s s':Shared}
theorem Inv.env0 (I:Inv X pins σ H s):Env0 X.prog X.w X.K X.mg X.base X.A X.stack s H:=
 ⟨I.ok.frames,I.ok.mod,I.bs,le_trans I.ok.bsz I.sz,I.stack,I.stkFree,I.hok,I.bare⟩
theorem Inv.after {Q:VK}{u:Value}(I:Inv X pins σ H s)(h:CE X.stack X.prog X.w H s Q u s'):EP X pins σ Q u s':=by
 obtain⟨v,H',os,bare,un,hok,r,q⟩:=h;obtain⟨hh,g,d,t,os'⟩:=s';obtain rfl:os'=s.os:=os;exact⟨v,H',I.call (h':=hh) (g':=g) (d':=d) (t':=t) (ch:=[]) un hok bare (fun b z=>absurd z (by simp)),r,q⟩
end
noncomputable def CW (sp:Sp)(dvs:List V)(E:XK)(t:TA):TE:=fun σ H Q=>t σ H fun vs H1=>sp (vs ++ dvs) H1 Q E
noncomputable def zG (C:Addr)(m:Str)(sp:Sp)(dvs:List V)(E:XK)(ta:TE)(t:TA):TE:=fun σ H Q=>ta σ H fun x H1=>∃a dx fs,x= .ref a∧H1 a=some (.ins C dx fs)∧fs.lookup m=none∧
 t σ H1 fun vs H2=>sp (x::(vs ++ dvs)) H2 Q E
noncomputable def zF (C:Addr)(sp:Sp)(dvs:List V)(E:XK)(t:TA):TE:=fun σ H Q=>t σ H fun vs H1=>∀x dx,H1 x=none→H1 dx=none→dx≠x→
 sp (.ref x::(vs ++ dvs)) (aS (aS H1 dx (.own x)) x (.ins C dx [])) (fun v H2=>v= .non∧Q (.ref x) H2) E
noncomputable def Binds (K:W.Frag)(fd:FuncData)(ps:List Str)(ds:List Value):Prop:=
 ∀(s:Shared) (us:List Value),K.In s.heap→(us ++ ds).length=ps.length→BindsTo s fd ⟨us,[]⟩ (ps.zip (us ++ ds))
theorem Binds.all {K:W.Frag}{fd:FuncData}{ps:List Str}(h:∀us:List Value,us.length=ps.length→bindArgs fd ⟨us,[]⟩=pure (ps.zip us)):Binds K fd ps []:=fun s us _ hl=>by
 rw[append_nil]at hl ⊢;exact .of_eq (h us hl)
noncomputable def bZ (CX:oR)(X:Cx)(E:XK):Prop:=∀(pins:List (Addr×Obj)) (σ:St) (H:Hp) (s:Shared) (e:Value) (s':Shared),Inv X pins σ H s→CX X.stack H s E e s'→X.xe e s'
section
variable{X:Cx}{CX:oR}{k:Nat}{f C:Addr}{fd:FuncData}{ps:List Str}{sp:Sp}{dvs:List V}{ds:List Value}{E:XK}{x m:Str}{p pos apos:Pos}{e o:Expr}{es:List Expr}{ta:TE}{t:TA}
theorem wL {pins:List (Addr×Obj)}{σ:St}{H:Hp}{s:Shared}{Q:VK}{us:List Value}{vs:List V}(F:FnOk X.prog X.w X.K X.mg X.base CX k f fd ps sp)(hr:Room k X.A)(hb:Binds X.K fd ps ds)(hd:Vals dvs ds)(hx:bZ CX X E)
  (I:Inv X pins σ H s) (r:Vals vs us) (h:sp (vs ++ dvs) H Q E):wpAny (model X.prog X.w) X.A (call (.ref f) us) (EP X pins σ Q) X.xe s:=by
 have r2:Vals (vs ++ dvs) (us ++ ds):=r.append hd;have hl:(us ++ ds).length=ps.length:=by rw[←r2.length];exact F.len _ _ _ _ h
 refine wpAny_call (codeAny_mono (F.run X.A X.stack s H ⟨us,[]⟩ (us ++ ds) (vs ++ dvs) Q E hr I.env0 (hb s us I.kIn hl) r2 h) fun r s' hq=>?_);cases r with
 |error e=>exact hx pins σ H s e s' I hq
 |ok fl=>
  cases fl with
  |ret u=>exact I.after hq
  |next=>exact False.elim hq
  |brk=>exact False.elim hq
  |cont=>exact False.elim hq
theorem yE (F:FnOk X.prog X.w X.K X.mg X.base CX k f fd ps sp)(hr:Room k X.A)(hg:Gl X x)(hm:X.mg x=some (.ref f))(hk:W.keepIn X.K (.ref f)=true)(hb:Binds X.K fd ps ds)(hd:Vals dvs ds)(hx:bZ CX X E)
  (ha:PA X (e::es) t) (hdb:(x==("__debug__" :Str))=false:=by decide) (he:starEach (e::es) X.env=(false,eval e X.env)::starEach es X.env:=by rfl) (hpl:(backTo pos (starEach es X.env)).any (·.1)=false:=by rfl) :
  PE X (.Call (.Name x p) (e::es) [] pos) (CW sp dvs E t):=by
 intro pins s σ H Q I h;refine wpAny_Call_Name_kw (fL I hg hm ?_ hdb);refine W.callWith_K (h₀:=X.base) I.ok.mod.kin hk (aE (ha pos pins s σ H _ I h) fun us s1 ⟨vs,H1,I1,r,q⟩=>⟨I1.kIn,?_⟩) he hpl;exact wL F hr hb hd hx I1 r q
theorem v_ {pl:Sem Bool}(he:PE X o ta)(c:Cls X.K C)(hm:Meth X.K C m f)(F:FnOk X.prog X.w X.K X.mg X.base CX k f fd ps sp)(hr:Room k X.A)(hb:Binds X.K fd ps ds)(hd:Vals dvs ds)(hx:bZ CX X E)
  (ht:eval (.Call (.Attribute o m apos) [] [] pos) X.env=(do
   let ov ←eval o X.env
   standAt apos.atName
   let (f,first) ←holding [ov] (getMethod ov m pl)
   callWith pos f first (backTo pos (starEach [] X.env)) (backToKw pos (keywordEach [] X.env))):=by rfl) :
  PE X (.Call (.Attribute o m apos) [] [] pos) (zG C m sp dvs E ta zc):=by
 intro pins s σ H Q I h;refine W.methodCall_KW (pl:=pl) (aE (he pins s σ H _ I h) fun u s1 hZ56=>?_) ht;obtain⟨x,H1,I1,rx,a,dx,fs,ex,ea,l,q⟩:=hZ56;subst ex;obtain rfl:u=Value.ref a:=rx;refine qR I1 ea c hm l ?_;exact W.callWith_K0 (first:=[.ref a]) I1.kIn hm.kp (wL (us:=[.ref a]) (vs:=[.ref a]) F hr hb hd hx I1 (.cons rfl .nil) q)
structure Mk (K:W.Frag)(C f:Addr):Prop where
 makes:W.makesIn K C=true
 init:W.findIn K (.ref C) "__init__" =some (some (.ref f))
 fn:W.isFn K (.ref f)=true
 kp:W.keepIn K (.ref C)=true
theorem wN {pins:List (Addr×Obj)}{σ:St}{H:Hp}{s:Shared}{Q:VK}{us:List Value}{vs:List V}(M:Mk X.K C f)(F:FnOk X.prog X.w X.K X.mg X.base CX k f fd ps sp)(hr:Room (k+1) X.A)(hb:Binds X.K fd ps ds)(hd:Vals dvs ds)
  (hx:bZ CX X E) (I:Inv X pins σ H s) (r:Vals vs us)
  (h:∀x dx,H x=none→H dx=none→dx≠x→sp (.ref x::(vs ++ dvs)) (aS (aS H dx (.own x)) x (.ins C dx [])) (fun v H2=>v= .non∧Q (.ref x) H2) E) :
  wpAny (model X.prog X.w) X.A (call (.ref C) us) (EP X pins σ Q) X.xe s:=by
 have hq:=h (s.heap.objs.size+1) s.heap.objs.size (I.hok.fresh (le_succ _)) (I.hok.fresh (le_refl _)) (ne_of_lt (lt_succ_self _));have I2:=Inv.made (C:=C) I;have r2:Vals (V.ref (s.heap.objs.size+1)::(vs ++ dvs)) (Value.ref (s.heap.objs.size+1)::(us ++ ds)):=.cons rfl (r.append hd);have hl:(Value.ref (s.heap.objs.size+1)::us ++ ds).length=ps.length:=by
  have e:=r2.length;rw[F.len _ _ _ _ hq]at e;exact e.symm
 refine wpAny_call (vC (f:=f) I.kIn M.makes M.init (beq_iff_eq.mp M.fn) (codeAny_mono (F.run _ X.stack _ _ ⟨Value.ref (s.heap.objs.size+1)::us,[]⟩ (Value.ref (s.heap.objs.size+1)::(us ++ ds)) _ _ E (hr.make C us [])
  (I2.env0.make C us []) (hb _ (Value.ref (s.heap.objs.size+1)::us) I2.kIn hl) r2 hq) fun r s' q=>?_))
 cases r with
 |error e=>exact hx pins σ _ _ e s' I2 q
 |ok fl=>
  cases fl with
  |ret u=>
   obtain⟨v,H',I3,rv,ev,q3⟩:=I2.after q;subst ev;exact⟨rv,⟨V.ref (s.heap.objs.size+1),H',I3,rfl,q3⟩⟩
  |next=>exact False.elim q
  |brk=>exact False.elim q
  |cont=>exact False.elim q
theorem yH (M:Mk X.K C f)(F:FnOk X.prog X.w X.K X.mg X.base CX k f fd ps sp)(hr:Room (k+1) X.A)(hg:Gl X x)(hm:X.mg x=some (.ref C))(hb:Binds X.K fd ps ds)(hd:Vals dvs ds)(hx:bZ CX X E)
  (ha:PA X (e::es) t) (hdb:(x==("__debug__" :Str))=false:=by decide) (he:starEach (e::es) X.env=(false,eval e X.env)::starEach es X.env:=by rfl) (hpl:(backTo pos (starEach es X.env)).any (·.1)=false:=by rfl) :
  PE X (.Call (.Name x p) (e::es) [] pos) (zF C sp dvs E t):=by
 intro pins s σ H Q I h;refine wpAny_Call_Name_kw (fL I hg hm ?_ hdb);refine W.callWith_K (h₀:=X.base) I.ok.mod.kin M.kp (aE (ha pos pins s σ H _ I h) fun us s1 ⟨vs,H1,I1,r,q⟩=>⟨I1.kIn,?_⟩) he hpl;exact wN M F hr hb hd hx I1 r q
end
section
variable{X:Cx}{CX:oR}{k:Nat}{f C:Addr}{fd:FuncData}{ps ks:List Str}{sp:Sp}{E:XK}{x m:Str}{p pos apos kpos:Pos}{e o:Expr}{es:List Expr}{kws:List Keyword}{te ta:TE}{t tk:TA}{nm:Option Str}
variable{g:List Value→List Value→List Value}{gV:List V→List V→List V}
end
structure FnScope (N P:List Str)(sc:Scope):Prop where
 kind:sc.kind= .function
 co:sc.isCoroutine=false
 gen:sc.isGenerator=false
 nd:N.Nodup
 pre:N.take P.length=P
 par:∀x∈P,sc.names.lookup x=some .local∨sc.names.lookup x=some .cell
 nofree:∀y∈sc.names,y.2≠ .free
theorem l9 {kindOf:Str→Option NameKind}{x:Str}:∀{binds:List (Str×Value)} {m:Str→Option Value},(∀v,(x,v)∉binds)→bindL kindOf binds m x=m x
 | [],_,_=>rfl
 |(n,v)::r,m,h=>by
  unfold bindL;rw[l9 fun w hw=>h w (dQ hw)];split
  ·have:x≠n:=by rintro rfl;exact h v mem_cons_self
   simp[this]
  ·rfl
theorem l5 {kindOf:Str→Option NameKind}{x:Str}:∀{binds:List (Str×Value)} {m:Str→Option Value},(∀v,(x,v)∉binds)→bindC kindOf binds m x=m x
 | [],_,_=>rfl
 |(n,v)::r,m,h=>by
  unfold bindC;rw[l5 fun w hw=>h w (dQ hw)];split
  ·rfl
  ·have:x≠n:=by rintro rfl;exact h v mem_cons_self
   simp[this]
theorem l7 {kindOf:Str→Option NameKind}{x:Str}{v:Value}:∀{P:List Str} {vs:List Value} {i:Nat} {m:Str→Option Value},P.Nodup→P[i]?=some x→vs[i]?=some v→kindOf x=some .local→
  bindL kindOf (P.zip vs) m x=some v
 | [],_,_,_,_,h,_,_=>by simp at h
 |_::_,[],_,_,_,_,h,_=>by simp at h
 |p::P,w::vs,0,m,nd,h1,h2,hk=>by
  simp at h1 h2;subst h1;subst h2;show bindL kindOf ((p,w)::P.zip vs) m p=_;unfold bindL;rw[l9 fun v hv=>(nodup_cons.mp nd).1 (of_mem_zip hv).1,if_pos hk];simp
 |p::P,w::vs,i+1,m,nd,h1,h2,hk=>by
  show bindL kindOf ((p,w)::P.zip vs) m x=_;unfold bindL;exact l7 (i:=i) (nodup_cons.mp nd).2 (by simpa using h1) (by simpa using h2) hk
theorem l0 {kindOf:Str→Option NameKind}{x:Str}{v:Value}:∀{P:List Str} {vs:List Value} {i:Nat} {m:Str→Option Value},P.Nodup→P[i]?=some x→vs[i]?=some v→kindOf x≠some .local→
  bindC kindOf (P.zip vs) m x=some v
 | [],_,_,_,_,h,_,_=>by simp at h
 |_::_,[],_,_,_,_,h,_=>by simp at h
 |p::P,w::vs,0,m,nd,h1,h2,hk=>by
  simp at h1 h2;subst h1;subst h2;show bindC kindOf ((p,w)::P.zip vs) m p=_;unfold bindC;rw[l5 fun v hv=>(nodup_cons.mp nd).1 (of_mem_zip hv).1,if_neg hk];simp
 |p::P,w::vs,i+1,m,nd,h1,h2,hk=>by
  show bindC kindOf ((p,w)::P.zip vs) m x=_;unfold bindC;exact l0 (i:=i) (nodup_cons.mp nd).2 (by simpa using h1) (by simpa using h2) hk
noncomputable def cW (N:List Str)(vs:List V):St:=vs.map some ++ replicate (N.length-vs.length) none
noncomputable def lP (CX:oR)(P:Program)(w:World)(K:W.Frag)(mg:Str→Option Value)(base:Heap)(N:List Str)(qual:Str)(scope:Scope)(f:Addr)(cd:Value)(A:Around)(outer:List Env)(s:Shared)(H:Hp)(E:XK):Cx where
 prog:=P
 w:=w
 K:=K
 mg:=mg
 base:=base
 A:=A.deeper (envOfC qual scope s.heap.objs.size f cd)
 N:=N
 s₀:=s
 H₀:=H
 env:=envOfC qual scope s.heap.objs.size f cd
 outer:=outer
 stack:=envOfC qual scope s.heap.objs.size f cd::outer
 ex:=[]
 calm:=true
 fn:=fun _=>true
 pn:=[]
 xe:=fun e s'=>wpAny (model P w) (A.deeper (envOfC qual scope s.heap.objs.size f cd)) (leaving (envOfC qual scope s.heap.objs.size f cd) e) (fun _ s''=>CX outer H s E e s'') (fun e' s''=>CX outer H s E e' s'') s'
theorem pc {sc:Scope}{n:Nat}{x:Str}(h:sc.names.lookup x=some .cell):∃c,(cellsFrom n sc.names []).lookup x=some c:=by
 have q:=W.cellsFrom_some sc.names n [] (.inl h);exact Option.isSome_iff_exists.mp q
theorem ml {CX:oR}{P:Program}{w:World}{K:W.Frag}{mg:Str→Option Value}{base:Heap}{N ps:List Str}{qual:Str}{scope:Scope}{f:Addr}{cd:Value}{A:Around}{outer:List Env}{s s1:Shared}{H:Hp}{E:XK}{us:List Value}{vs:List V}
  (S:FnScope N ps scope) (hd:A.handled=none) (e0:Env0 P w K mg base A outer s H) (hl:vs.length=ps.length) (r:Vals vs us)
  (x:InCallC s s.heap.objs.size (bindL (envOfC qual scope s.heap.objs.size f cd).kindOf (ps.zip us) fun _=>none) (cellsFrom (s.heap.objs.size+1) scope.names []) (bindC (envOfC qual scope s.heap.objs.size f cd).kindOf (ps.zip us) fun _=>none) s1) :
  Inv (lP CX P w K mg base N qual scope f cd A outer s H E) [] (cW N vs) H s1:=by
 have hpl:ps.length≤N.length:=by have:=congrArg List.length S.pre;rw[length_take]at this;omega
 obtain ⟨h1,tk,rfl,hk⟩:=x.done;have noA:∀ b:Addr,b∉(lP CX P w K mg base N qual scope f cd A outer s H E).ex:=fun b z=>absurd (show b∈([]:List Addr) from z) (by simp);refine ⟨⟨e0.mod,S.kind,rfl,rfl,le_refl _,fun y z c h1 t=> ?_,fun y hy=> ?_,fun y c _ h=> ?_,fun _=>hd,Around.frames_deeper e0.frames,.inr ⟨rfl,rfl⟩,fun b z=>absurd z (noA b),e0.bs,e0.bsz,fun b _ _=>noA b,fun b z=>absurd z (noA b),e0.funs,e0.frf⟩,
  rfl,e0.bare,Un.kept hk,⟨_,x.toInCall.ns,fun i y v h1 t h3=>?_⟩,fun y c h=>⟨_,x.cell y c h⟩,e0.hok.fresh (le_refl _),fun y c h=>?_,fun p hp=>absurd (show p∈([]:List (Addr×Obj)) from hp) (by simp),e0.hok.kept hk,?_⟩
 ·exact name_of_addr x.apart (PySem.mem_of_lookup h1) (PySem.mem_of_lookup t)
 ·have hy:scope.names.lookup y=some .cell∨scope.names.lookup y=some .free:=hy
  rcases hy with hy|hy
  ·exact pc hy
  ·exact absurd rfl (S.nofree _ (PySem.mem_of_lookup hy))
 ·exact le_of_lt (x.above y c (PySem.mem_of_lookup h))
 ·have hi:i<vs.length:=by
   unfold cW at t;by_cases hi:i<vs.length
   ·exact hi
   ·rw[List.getElem?_append_right (by simpa using hi)]at t;rw[getElem?_replicate]at t;split at t <;> cases t
  have ha:vs[i]?=some v:=by
   unfold cW at t;rw[List.getElem?_append_left (by simpa using hi),getElem?_map]at t;cases e:vs[i]? with
   |none=>rw[e]at t;cases t
   |some a=>rw[e]at t;cases t;rfl
  obtain⟨u,hu,rv⟩:=r.get ha;have hp:ps[i]?=some y:=by
   rw[←S.pre,List.getElem?_take_of_lt (by omega)];exact h1
  have ndP:ps.Nodup:=by rw[←S.pre];exact S.nd.sublist (List.take_sublist _ _)
  refine⟨u,rv,?_⟩
  rcases S.par y (mem_of_getElem? hp) with k|k
  ·exact .inl ⟨k,l7 ndP hp hu k⟩
  ·obtain⟨c,e⟩:=pc (n:=s.heap.objs.size+1) k;refine .inr ⟨.inl k,c,e,?_⟩;have q:=x.cell y c e;rw[l0 ndP hp hu (by show scope.names.lookup y≠_;rw[k];decide)]at q;exact q
 ·exact e0.hok.fresh (le_of_lt (x.above y c (PySem.mem_of_lookup h)))
 ·unfold cW;show _=N.length;rw[length_append,length_map,length_replicate];omega
theorem u7 {CX:oR}{P:Program}{w:World}{K:W.Frag}{mg:Str→Option Value}{base:Heap}{k:Nat}{f:Addr}{name qual:Str}{params:Arguments}{body:List Stmt}{scope:Scope}{dV kV doc pm cdv ct oc:Value}{an od:Option Addr}
  {osl:Array (Option Value)} {N ps:List Str} {sp:Sp} (lk:K.lookup f=some ⟨oc,od,.func (W.fnOf name qual params body scope dV kV doc pm an cdv ct),osl⟩) (hcd:W.codeIn K cdv qual=true) (S:FnScope N ps scope)
  (len:∀vs H Q E,sp vs H Q E→vs.length=ps.length)
  (hbody:∀(A:Around) (outer:List Env) (s:Shared) (H:Hp) (vs:List V) (Q:VK) (E:XK),Room k (A.deeper (envOfC qual scope s.heap.objs.size f cdv))→sp vs H Q E→
   ∃t,BP (lP CX P w K mg base N qual scope f cdv A outer s H E) body t∧t {nx:=fun _ H'=>Q .non H',rt:=Q} (cW N vs) H) :
  FnOk P w K mg base CX (k+1) f (W.fnOf name qual params body scope dV kV doc pm an cdv ct) ps sp:=by
 refine⟨len,fun A outer s H args us vs Q E hr e0 hb r hsp=>?_⟩;have hl:=len _ _ _ _ hsp;have KX:K.In s.heap:=e0.mod.kin.keeps fun b o e=>(e0.bs b o e).1;have lim:s.heap.NoLimit:=e0.mod.nolimit.keeps fun b o e=>(e0.bs b o e).1;have hkind:∀y∈ps.zip us,scope.names.lookup y.1=some .local∨(scope.names.lookup y.1=some .cell∧((cellsFrom (s.heap.objs.size+1) scope.names []).lookup y.1).isSome=true):=fun ⟨n,v⟩ hy=>by
  rcases S.par n (of_mem_zip hy).1 with q|q
  ·exact .inl q
  ·exact .inr ⟨q,W.cellsFrom_some _ _ _ (.inl q)⟩
 refine codeAny_call_function hr.depth (KX _ _ lk) rfl S.co S.gen rfl (W.codeRec_of KX hcd) (hb _ _ _ _ ?_);refine wpAny_newFunctionEnv_cells S.kind hkind fun env he s1 x=>?_;subst he;refine⟨lim.keeps x.toInCall.keep,codeAny_func ?_⟩;obtain⟨t,ht,hq⟩:=hbody A outer s H vs Q E (hr.deeper _) hsp;have I:Inv (lP CX P w K mg base N qual scope f cdv A outer s H E) [] (cW N vs) H s1:=ml S hr.hd e0 hl r x;refine wpAny_mono (ht [] s1 (cW N vs) H _ I hq) (fun fl s' hs=>?_) fun e s' hs=>hs;have fin:∀{z:St} {H':Hp} {v:V} {u:Value},Inv (lP CX P w K mg base N qual scope f cdv A outer s H E) [] z H' s'→RelV v u→Q v H'→CE outer P w H s Q u s':=
  fun {z H' v u} J rv q=>⟨v,H',J.os,J.bare,J.base,J.hok,rv,q⟩
 cases fl with
 |ret u=>
  obtain⟨v,z,H',J,rv,q⟩:=hs;exact fin J rv q
 |next=>
  obtain⟨z,H',J,q⟩:=hs;exact fin (v:=V.non) (u:=Value.none) J rfl q
 |brk=>
  obtain⟨_,_,_,q⟩:=hs;exact False.elim q
 |cont=>
  obtain⟨_,_,_,q⟩:=hs;exact False.elim q
section
variable{X:Cx}{x:Str}{p pos:Pos}{e:Expr}{es:List Expr}{t:TA}{id T:String}{r:List V→Hp→VK→Prop}
noncomputable def DA (r:List V→Hp→VK→Prop)(t:TA):TE:=fun σ H Q=>t σ H fun vs H1=>r vs H1 Q
theorem qd (hc:dz X (.builtin id) r)(hg:Gl X x)(hm:X.mg x=none)(hv:bootBuiltins x=some (.builtin id))(ha:PA X (e::es) t)(hn:x≠ "__name__" :=by decide)(hdb:(x==("__debug__" :Str))=false:=by decide)
  (he:starEach (e::es) X.env=(false,eval e X.env)::starEach es X.env:=by rfl) (hpl:(backTo pos (starEach es X.env)).any (·.1)=false:=by rfl):PE X (.Call (.Name x p) (e::es) [] pos) (DA r t):=by
 intro pins s σ H Q I h;refine wpAny_Call_Name_kw (gC I hg hm hv ?_ hn hdb);exact PyProof.Rows.callWith_builtin1 (aE (ha pos pins s σ H _ I h) fun us s1 hZ58=>(by obtain⟨vs,H1,I1,r1,q1⟩:=hZ58;exact hc pins s1 σ H1 vs us Q I1 r1 q1)) he hpl
theorem fg (hc:dz X (.type T) r)(hg:Gl X x)(hm:X.mg x=none)(hv:bootBuiltins x=some (.type T))(ha:PA X (e::es) t)(hn:x≠ "__name__" :=by decide)(hdb:(x==("__debug__" :Str))=false:=by decide)
  (he:starEach (e::es) X.env=(false,eval e X.env)::starEach es X.env:=by rfl) (hpl:(backTo pos (starEach es X.env)).any (·.1)=false:=by rfl):PE X (.Call (.Name x p) (e::es) [] pos) (DA r t):=by
 intro pins s σ H Q I h;refine wpAny_Call_Name_kw (gC I hg hm hv ?_ hn hdb);exact PyProof.Rows.callWith_type1 (aE (ha pos pins s σ H _ I h) fun us s1 hZ59=>(by obtain⟨vs,H1,I1,r1,q1⟩:=hZ59;exact hc pins s1 σ H1 vs us Q I1 r1 q1)) he hpl
end
end L2
namespace HT
open PySem PyProof.Rows
section
open PySem.SeqAt
open PySem.AutoSeq1 (wpAny_loadPart')
open PySem.MeetsSeq PySem.MeetsSeq2 PySem.MeetsSeq3
end
section
variable{prog:Program}{w:World}{A:Around}{E:Value→Shared→Prop}{s:Shared}
noncomputable def cb (n d:Nat):Option Int→Nat
 |none=>d
 |some v=>if v<0 then (v+(n:Int)).toNat else min v.toNat n
theorem yZ (n d k:Nat):cb n d (some (k:Int))=min k n:=by
 show (if (k:Int)<0 then ((k:Int)+(n:Int)).toNat else min (k:Int).toNat n)=min k n
 rw[if_neg (by omega),toNat_natCast]
theorem Bq (n d:Nat)(hd:d≤n)(o:Option Int):cb n d o≤n:=by
 cases o with
 |none=>exact hd
 |some v=>
  show (if v<0 then (v+(n:Int)).toNat else min v.toNat n)≤n
  by_cases hv:v<0
  ·rw[if_pos hv];omega
  ·rw[if_neg hv];exact Nat.min_le_right _ _
theorem kb (v:Int)(n d:Nat):(if v<0 then max (v+(n:Int)) 0 else min v (n:Int))=((cb n d (some v):Nat):Int):=by
 show (if v<0 then max (v+(n:Int)) 0 else min v (n:Int))=(((if v<0 then (v+(n:Int)).toNat else min v.toNat n):Nat):Int)
 by_cases hv:v<0
 ·simp only[if_pos hv];omega
 ·simp only[if_neg hv];omega
theorem qB (lo hi:Option Int)(n:Nat):Builtin.Slice.sliceAdjust lo hi 1 (n:Int)=(((cb n 0 lo:Nat):Int),((cb n n hi:Nat):Int)):=by
 have h1:¬((1:Int)<0):=by omega
 unfold Builtin.Slice.sliceAdjust;simp only[h1,if_false];refine Prod.ext ?_ ?_
 ·cases lo with
  |none=>rfl
  |some v=>exact kb v n 0
 ·cases hi with
  |none=>rfl
  |some v=>exact kb v n n
theorem rb (i j:Nat):Builtin.Slice.slicePlaces (i:Int) (j:Int) 1=j-i:=by
 unfold Builtin.Slice.slicePlaces;have h1:(1:Int)>0:=by omega
 simp only[h1,if_true,Int.ediv_one];split <;> omega
theorem lC {v:Value}{o:Option Int}{Q:Option Int→Shared→Prop}(p:IsPart v o)(h:Q o s):wpAny (model prog w) A (Builtin.Slice.slicePartIndex v) Q E s:=by
 cases p with
 |none=>exact slicePart_none h
 |int i t=>exact slicePart_int h
theorem jH {sl:Addr}{vl vu:Value}{lo hi:Option Int}{n:Nat}{Q:Int×Int×Nat→Shared→Prop}(hs:s.heap.IsSliceOf sl vl vu .none)(pl:IsPart vl lo)(pu:IsPart vu hi)
  (h:Q (((cb n 0 lo:Nat):Int),1,cb n n hi-cb n 0 lo) s):wpAny (model prog w) A (Builtin.Slice.sliceApplied (.ref sl) (pure (n:Int))) Q E s:=by
 obtain⟨os,hos,hcs,hds⟩:=id hs;unfold Builtin.Slice.sliceApplied Builtin.Slice.sliceFields;refine wpAny_bind (wpAny_bind (wpAny_field hos hds (x:=vl) rfl (wpAny_bind (wpAny_field hos hds (x:=vu) rfl (wpAny_bind (wpAny_field hos hds (x:=.none) rfl (wpAny_pure ?_)))))));refine wpAny_bind (slicePart_none ?_);show wpAny _ _ (if ((1:Int)==0)=true then _ else _) _ _ s
 rw[if_neg (by decide)];refine wpAny_bind (lC pl (wpAny_bind (lC pu (wpAny_bind (wpAny_pure ?_)))));show wpAny _ _ (match Builtin.Slice.sliceAdjust lo hi 1 (n:Int) with|(lo,hi)=>pure (lo,(1:Int),Builtin.Slice.slicePlaces lo hi 1)) _ _ s
 rw[qB lo hi n];show wpAny _ _ (pure (((cb n 0 lo:Nat):Int),(1:Int),Builtin.Slice.slicePlaces ((cb n 0 lo:Nat):Int) ((cb n n hi:Nat):Int) 1)) _ _ s;rw[rb];exact wpAny_pure h
theorem wg (xs:Array Value)(i k:Nat):((List.range k).filterMap fun (m:Nat)=>xs[((i:Int)+(m:Int)*1).toNat]?).toArray=((xs.toList.drop i).take k).toArray:=by
 have e:(fun (m:Nat)=>xs[((i:Int)+(m:Int)*1).toNat]?)=fun m=>xs[i+m]?:=by
  funext m;have:((i:Int)+(m:Int)*1).toNat=i+m:=by omega
  rw[this]
 rw[e];have:=pick_run xs i k;rw[filterMap_map]at this;have e2:((fun x=>xs[x]?) ∘ fun x=>i+x)=fun m=>xs[i+m]?:=rfl;rw[e2]at this;rw[this]
theorem iP {t sl:Addr}{items:Array Value}{vl vu:Value}{lo hi:Option Int}{Q:Value→Shared→Prop}(ht:IsTup s.heap t items)(hs:s.heap.IsSliceOf sl vl vu .none)(pl:IsPart vl lo)(pu:IsPart vu hi)
  (hw:¬(cb items.size 0 lo=0∧cb items.size items.size hi=items.size))
  (h:Q (.ref s.heap.objs.size) {s with heap:=s.heap.push {cls:=.type "tuple",data:=.seq ((items.toList.drop (cb items.size 0 lo)).take (cb items.size items.size hi-cb items.size 0 lo)).toArray}})
  (hsz:items.size≤sizeLine):wpAny (model prog w) A (getItem (.ref t) (.ref sl)) Q E s:=by
 have u:sizeOk (.seq ((items.toList.drop (cb items.size 0 lo)).take (cb items.size items.size hi-cb items.size 0 lo)).toArray):=by
  show ((items.toList.drop (cb items.size 0 lo)).take (cb items.size items.size hi-cb items.size 0 lo)).toArray.size≤sizeLine;rw[size_toArray,length_take,List.length_drop,length_toList];omega
 have hj:cb items.size items.size hi≤items.size:=Bq _ _ (le_refl _) hi;obtain⟨os,hos,hcs,hds⟩:=id hs;have hTs:s.TypeIs (.ref sl) "slice" :=⟨os,hos,hcs⟩;unfold getItem
 try with_reducible refine wpAny_holding ?_
 first|refine wpAny_bind (wpAny_pure ?_)|skip
 refine wpAny_bind (wpAny_sequenceKey ht.typeIs (by decide) ?_);refine wpAny_bind (wpAny_callSpecial?_slot (name:=Str.ofString "__getitem__") ht.typeIs PyProof.Rows.slot_tuple_getitem
  (wpAny_call_entry PyProof.Rows.slot_tuple_getitem ht.typeIs entry_tuple_getitem ?_ (args_tuple_getitem _ _)))
 show wpAny _ _ (Builtin.Tuple.tupleItemsOf (.ref t) >>= _) _ _ s;refine wpAny_bind (tupleItemsOf_ ht ?_);refine wpAny_bind (wpAny_typeOf hTs ?_);rw[if_pos (by decide)];refine wpAny_bind (jH hs pl pu ?_);have hno:¬((((cb items.size 0 lo:Nat):Int)==0&&(1:Int)==1&&(cb items.size items.size hi-cb items.size 0 lo)==items.size)=true):=by
  intro q;rw[and_eq_true,and_eq_true]at q;have q1:((cb items.size 0 lo:Nat):Int)=0:=eq_of_beq q.1.1;have q2:cb items.size items.size hi-cb items.size 0 lo=items.size:=eq_of_beq q.2;exact hw ⟨by omega,by omega⟩
 show wpAny _ _ (if (((cb items.size 0 lo:Nat):Int)==0&&(1:Int)==1&&(cb items.size items.size hi-cb items.size 0 lo)==items.size)=true then _ else _) _ _ s
 rw[if_neg hno,wg]
 first
  |exact wpAny_bind (m:=Builtin.Tuple.tupleExact _) (wpAny_newObj_type (wpAny_pure ⟨_,rfl,wpAny_pure h⟩) u)
  |exact wpAny_bind (m:=Builtin.Tuple.tupleExact _) (wpAny_newObj_type (wpAny_bind (wpAny_pure (wpAny_pure ⟨_,rfl,wpAny_pure h⟩))) u)
  |exact wpAny_bind (wpAny_bind (m:=Builtin.Tuple.tupleExact _) (wpAny_newObj_type (wpAny_pure (wpAny_pure ⟨_,rfl,wpAny_pure h⟩)) u))
  |exact wpAny_bind (wpAny_bind (m:=Builtin.Tuple.tupleExact _) (wpAny_newObj_type (wpAny_pure ⟨_,rfl,wpAny_pure h⟩) u))
end
end HT
namespace L2
open PySem PySem.Spec PyProof.Rows
noncomputable abbrev TO:=St→Hp→(Option Int→Hp→Prop)→Prop
noncomputable def PO (X:Cx)(e:Option Expr)(t:TO):Prop:=
 ∀(pins:List (Addr×Obj)) (s:Shared) (σ:St) (H:Hp) (Q:Option Int→Hp→Prop),Inv X pins σ H s→t σ H Q→
  wpAny (model X.prog X.w) X.A (evalPart e X.env) (fun u s'=>∃o H',Inv X pins σ H' s'∧IsPart u o∧Q o H') X.xe s
noncomputable def zd:TO:=fun _ H Q=>Q none H
noncomputable def C0 (t:TE):TO:=fun σ H Q=>t σ H fun x H1=>∃i,x= .int i∧Q (some i) H1
theorem k9 {ns:List Int}:∀{us:List Value},Vals (ns.map V.int) us→IntsAre us ns:=by
 induction ns with
 |nil=>intro us r;rw[map_nil]at r;cases r;exact .nil
 |cons n ns ih=>
  intro us r;rw[map_cons]at r;cases r with
  |cons r1 r2=>
   obtain⟨t,e⟩:=r1;subst e;exact .cons n t (ih r2)
section
variable{X:Cx}{e:Expr}{te:TE}{lo hi:Option Expr}{tl th:TO}{pos p2:Pos}
theorem yS:PO X none zd:=by
 intro pins s σ H Q I h;rw[evalPart_none];exact wpAny_pure ⟨none,H,I,.none,h⟩
theorem yT (h:PE X e te):PO X (some e) (C0 te):=by
 intro pins s σ H Q I hw;rw[evalPart_some];refine aE (h pins s σ H _ I hw) fun u s1 hZ60=>?_;obtain⟨x,H1,I1,r1,q1⟩:=hZ60;obtain⟨i,rfl,q⟩:=q1;obtain⟨t,rfl⟩:=r1;exact⟨some i,H1,I1,.int i t,q⟩
noncomputable def SlR (X:Cx)(r:V→Option Int→Option Int→Hp→VK→Prop):Prop:=
 ∀(pins:List (Addr×Obj)) (s:Shared) (σ:St) (H:Hp) (x:V) (v vl vu:Value) (lo hi:Option Int) (sl:Addr) (Q:VK),Inv X pins σ H s→RelV x v→s.heap.IsSliceOf sl vl vu .none→IsPart vl lo→IsPart vu hi→r x lo hi H Q→
  ∃T id,typeLookup (.type T) "__getitem__" =pure (some (.builtin id))∧s.TypeIs v T∧wpAny (model X.prog X.w) X.A (getItem v (.ref sl)) (EP X pins σ Q) X.xe s
theorem SlR.or {r r':V→Option Int→Option Int→Hp→VK→Prop}(h:SlR X r)(h':SlR X r'):SlR X (fun x lo hi H Q=>r x lo hi H Q∨r' x lo hi H Q):=by
 intro pins s σ H x v vl vu lo hi sl Q I rx hs pl pu q
 rcases q with q|q
 ·exact h pins s σ H x v vl vu lo hi sl Q I rx hs pl pu q
 ·exact h' pins s σ H x v vl vu lo hi sl Q I rx hs pl pu q
noncomputable def D0 (r:V→Option Int→Option Int→Hp→VK→Prop)(te:TE)(tl th:TO):TE:=fun σ H Q=>te σ H fun x H1=>tl σ H1 fun l H2=>th σ H2 fun u H3=>r x l u H3 Q
theorem wc {r:V→Option Int→Option Int→Hp→VK→Prop}(hr:SlR X r)(he:PE X e te)(hl:PO X lo tl)(hu:PO X hi th):PE X (.Subscript e (.Slice lo hi none p2) pos) (D0 r te tl th):=by
 intro y s σ H Q I h;refine Subscript_ (aE (he y s σ H _ I h) fun v s1 hZ61=>?_);obtain⟨x,H1,I1,r1,q1⟩:=hZ61;refine wpAny_Slice (aE (hl y s1 σ H1 _ I1 q1) fun vl s2 ⟨l,H2,I2,pl,q2⟩=>aE (hu y s2 σ H2 _ I2 q2) fun vu z hZ63=>?_);obtain⟨u,H3,I3,pu,q3⟩:=hZ63;rw[evalPart_none];refine wpAny_pure ?_;have I4:Inv X y σ H3 {z with heap:=z.heap.push {cls:=.type "slice",data:=.fields #[vl,vu,.none]}}:=I3.kept (t':=z.toks) fun b ob q=>Heap.get?_push_of_some _ q
 obtain⟨T,id,hT,ht,hg⟩:=hr y {z with heap:=z.heap.push {cls:=.type "slice",data:=.fields #[vl,vu,.none]}} σ H3 x v vl vu l u z.heap.objs.size Q I4 r1 (Heap.IsSliceOf.new ..) pl pu q3
 show wpAny (model X.prog X.w) X.A (subscriptTail e (.Slice lo hi none p2) v (.ref z.heap.objs.size)) (EP X y σ Q) X.xe {z with heap:=z.heap.push {cls:=.type "slice",data:=.fields #[vl,vu,.none]}}
 exact tail_any (ops:=[.ref z.heap.objs.size,v]) ht hT hg (by with_unfolding_all rfl)
noncomputable def pe (xs:List V)(lo hi:Option Int):List V:=(xs.drop (HT.cb xs.length 0 lo)).take (HT.cb xs.length xs.length hi-HT.cb xs.length 0 lo)
theorem jK (xs:List V)(lo hi:Option Int):(pe xs lo hi).length≤xs.length:=by
 unfold pe;rw[length_take,List.length_drop];omega
noncomputable def Dw (K:W.Frag):V→Option Int→Option Int→Hp→VK→Prop:=fun x lo hi H Q=>∃a xs,x= .ref a∧kG K H a xs∧
 ¬(HT.cb xs.length 0 lo=0∧HT.cb xs.length xs.length hi=xs.length)∧∀p,H p=none→Q (.ref p) (aS H p (.tup (pe xs lo hi)))
theorem Br:SlR X (Dw X.K):=by
 intro pins s σ H x v vl vu lo hi sl Q I rx hs pl pu h;obtain⟨a,xs,rfl,hx,hw,q⟩:=h;cases rx;obtain⟨its,r,ht,hz⟩:=I.tuple hx;have w:its.toArray.size=xs.length:=by rw[size_toArray];exact r.length.symm
 refine⟨"tuple",_,PyProof.Rows.slot_tuple_getitem.lookup,ht.typeIs,?_⟩;refine HT.iP ht hs pl pu (by rw[w];exact hw) ?_ (by rw[w];exact hz);rw[w];refine⟨.ref s.heap.objs.size,_,I.laid (t':=s.toks) (o:=.tup (pe xs lo hi)) (fun b ob q=>Heap.get?_push_of_some _ q) (le_refl _) ?_,rfl,q _ (I.hok.fresh (le_refl _))⟩;exact⟨le_trans (jK xs lo hi) hz,_,(r.drop (HT.cb xs.length 0 lo)).take (HT.cb xs.length xs.length hi-HT.cb xs.length 0 lo),IsTup.new _ _⟩
end
noncomputable def zn (n:Nat)(i:Int):Option Nat:=if 0≤i then (if i<n then some i.toNat else none) else if -(n:Int)≤i then some (i+n).toNat else none
noncomputable def atI {α:Type}(xs:List α)(i:Int):Option α:=(zn xs.length i).bind fun j=>xs[j]?
theorem yg {n:Nat}{i:Int}{j:Nat}(h:zn n i=some j):seqIndex? i n=some j∧j<n∧ -(n:Int)≤i∧i<n:=by
 unfold zn at h;by_cases h0:0≤i
 ·rw[if_pos h0]at h;by_cases x:i<n
  ·rw[if_pos x]at h;have e:i.toNat=j:=Option.some.inj h;exact⟨by rw[seqIndex_of h0 x,e],by omega,by omega,x⟩
  ·rw[if_neg x]at h;cases h
 ·rw[if_neg h0]at h;by_cases x: -(n:Int)≤i
  ·rw[if_pos x]at h;have e:(i+n).toNat=j:=Option.some.inj h;exact⟨by rw[seqIndex_neg (by omega) x,e],by omega,x,by omega⟩
  ·rw[if_neg x]at h;cases h
theorem m6 {α:Type}{xs:List α}{i:Int}{v:α}(h:atI xs i=some v):∃j,seqIndex? i xs.length=some j∧xs[j]?=some v∧j<xs.length∧ -(xs.length:Int)≤i∧i<xs.length:=by
 unfold atI at h;cases e:zn xs.length i with
 |none=>rw[e]at h;cases h
 |some j=>
  rw[e]at h;obtain⟨h1,h2,h3,h4⟩:=yg e;exact⟨j,h1,h,h2,h3,h4⟩
theorem rR {α:Type}{xs:List α}{j:Nat}{v:α}(h:xs[j]?=some v):atI xs (j:Int)=some v:=by
 have hj:j<xs.length:=(jj h).1;have e:zn xs.length (j:Int)=some j:=by
  unfold zn;rw[if_pos (by omega),if_pos (by omega)];simp
 unfold atI;rw[e];exact h
noncomputable def rO (b:Expr):Prop:=∀o i,subscripted b false o i=operate [o,i] (getItem o i)
noncomputable def IxR (X:Cx)(r:R2):Prop:=
 ∀(value slice:Expr) (pins:List (Addr×Obj)) (s:Shared) (σ:St) (H:Hp) (x y:V) (v u:Value) (Q:VK),Inv X pins σ H s→RelV x v→RelV y u→r x y H Q→
  subscripted slice false v u=operate [v,u] (getItem v u)→wpAny (model X.prog X.w) X.A (subscriptTail value slice v u) (EP X pins σ Q) X.xe s
noncomputable def BD (X:Cx)(id:String)(r:V→List V→Hp→VK→Prop):Prop:=
 ∀(pins:List (Addr×Obj)) (s:Shared) (σ:St) (H:Hp) (x:V) (xs:List V) (v:Value) (us:List Value) (Q:VK),Inv X pins σ H s→RelV x v→Vals xs us→r x xs H Q→
  wpAny (model X.prog X.w) X.A (call (.builtin id) (v::us)) (EP X pins σ Q) X.xe s
section
variable{X:Cx}{a b:Expr}{ta tb:TE}{pos:Pos}
theorem IxR.or {r r':R2}(h:IxR X r)(h':IxR X r'):IxR X (fun x y H Q=>r x y H Q∨r' x y H Q):=by
 intro A z pins s σ H x y v u Q I rx ry q hs
 rcases q with q|q
 ·exact h A z pins s σ H x y v u Q I rx ry q hs
 ·exact h' A z pins s σ H x y v u Q I rx ry q hs
theorem CJ {r:R2}(hr:IxR X r)(ha:PE X a ta)(hb:PE X b tb)(hs:rO b):PE X (.Subscript a b pos) (DO r ta tb):=by
 intro pins s σ H Q I h;exact Subscript_ (Di ha hb I h fun v u s2 x y H2 I2 rx ry q=>hr a b pins s2 σ H2 x y v u Q I2 rx ry q (hs _ _))
noncomputable def CP (K:W.Frag):R2:=fun x y H Q=>∃p xs i v,x= .ref p∧y= .int i∧f6 K H p xs∧atI xs i=some v∧Q v H
noncomputable def CS (K:W.Frag):R2:=fun x y H Q=>∃p xs i v,x= .ref p∧y= .int i∧kG K H p xs∧atI xs i=some v∧Q v H
noncomputable def CQ:R2:=fun x y H Q=>∃z i c,x= .str z∧y= .int i∧z.length≤sizeLine∧atI z.cps.toList i=some c∧Q (.str ⟨#[c]⟩) H
theorem ix_list:IxR X (CP X.K):=by
 intro value slice pins s σ H x y v u Q I rx ry h hs;obtain⟨p,xs,i,z,rfl,rfl,hq,he,q⟩:=h;cases rx;obtain⟨t,rfl⟩:=ry;obtain⟨its,r,pl,hz⟩:=I.list hq;obtain⟨j,h1,h2,h3,h4,h5⟩:=m6 he;obtain⟨w,ew,rw'⟩:=r.get h2;have hl:=r.length;have hn:=nY;have fin:EP X pins σ Q w s:=⟨z,H,I,rw',q⟩;by_cases h0:0≤i
 ·have hj:i.toNat=j:=by
   rw[seqIndex_of h0 h5]at h1;exact Option.some.inj h1
  exact item_listR pl.isList h0 (by omega) (by rw[hj];simpa using ew) fin hs
 ·have hj:(i+(its.toArray.size:Int)).toNat=j:=by
   rw[seqIndex_neg (by omega) h4]at h1;rw[size_toArray,←hl];exact Option.some.inj h1
  exact subscriptTail_builtinR (x:=w) pl.isList.typeIs slot_list_getitem.lookup
   (wpAny_getItem_list_neg (Q:=fun r s'=>r=w∧EP X pins σ Q r s') pl.isList (by omega) (by rw[size_toArray] <;> omega) (by omega) (by rw[hj];simpa using ew) ⟨rfl,fin⟩) hs
theorem ix_tup:IxR X (CS X.K):=by
 intro value slice pins s σ H x y v u Q I rx ry h hs;obtain⟨p,xs,i,z,rfl,rfl,hq,he,q⟩:=h;cases rx;obtain⟨t,rfl⟩:=ry;obtain⟨its,r,pl,hz⟩:=I.tuple hq;obtain⟨j,h1,h2,h3,h4,h5⟩:=m6 he;obtain⟨w,ew,rw'⟩:=r.get h2;have hl:=r.length;have hn:=nY;have fin:EP X pins σ Q w s:=⟨z,H,I,rw',q⟩;exact subscriptTail_builtinR (x:=w) pl.typeIs slot_tuple_getitem.lookup
  (getItem_tuple (j:=j) (Q:=fun r s'=>r=w∧EP X pins σ Q r s') pl (by omega) (by omega) (by rw[size_toArray,←hl];exact h1) (by simpa using ew) ⟨rfl,fin⟩) hs
theorem AG:IxR X CQ:=by
 intro value slice pins s σ H x y v u Q I rx ry h hs;obtain⟨z,i,c,rfl,rfl,hz,he,q⟩:=h;obtain⟨t,rfl⟩:=rx;obtain⟨t',rfl⟩:=ry;obtain⟨j,h1,h2,h3,h4,h5⟩:=m6 he;have hl:z.cps.toList.length=z.length:=by simp[Str.length]
 rw[hl]at h1 h4 h5;have hn:=nY;exact tail_any (typeIs_str s z t) slot_str_getitem.lookup (getItem_str (c:=c) (by
  have e1:decide (i < -(2 ^ 63:Int))=false:=decide_eq_false (by omega);have e2:decide (i ≥ 2 ^ 63)=false:=decide_eq_false (by omega);rw[e1,e2,Bool.or_false]) (by rw[h1];simpa using h2) ⟨.str ⟨#[c]⟩,H,I.tok _,⟨_,rfl⟩,q⟩) hs
noncomputable def DY (K:W.Frag):R2:=fun x y H Q=>CP K x y H Q∨CS K x y H Q∨CQ x y H Q
theorem AF:IxR X (DY X.K):=ix_list.or (ix_tup.or AG)
theorem zi (i n:Int)(hn:0≤n):max 0 (min (if i<0 then i+n else i) n)=if i<0 then max (i+n) 0 else min i n:=by
 by_cases h:i<0
 ·rw[if_pos h,if_pos h,Int.min_eq_left (by omega),Int.max_comm]
 ·rw[if_neg h,if_neg h,Int.max_eq_right (Int.le_min.mpr ⟨Int.not_lt.mp h,hn⟩)]
theorem oG (lo hi:Option Int)(n:Nat):(sliceBounds lo hi none n).1=((HT.cb n 0 lo:Nat):Int)∧(sliceBounds lo hi none n).2.1=((HT.cb n n hi:Nat):Int)∧(sliceBounds lo hi none n).2.2=1:=by
 refine⟨?_,?_,rfl⟩
 ·cases lo with
  |none=>simp[sliceBounds,HT.cb]
  |some i=>
   rw[←HT.kb i n 0,←zi i n (Int.natCast_nonneg n)];simp only[sliceBounds,getD_none,show (1:Int)>0 by decide,if_true]
 ·cases hi with
  |none=>simp[sliceBounds,HT.cb]
  |some i=>
   rw[←HT.kb i n n,←zi i n (Int.natCast_nonneg n)];simp only[sliceBounds,getD_none,show (1:Int)>0 by decide,if_true]
theorem lX (its:List Value)(lo hi:Option Int):slicePick its.toArray lo hi none=((its.drop (HT.cb its.length 0 lo)).take (HT.cb its.length its.length hi-HT.cb its.length 0 lo)).toArray:=by
 obtain⟨h1,h2,h3⟩:=oG lo hi its.toArray.size;unfold slicePick;rw[h1,h2,h3];simp only[sliceRange_one,pick_run,size_toArray] <;> rfl
noncomputable def Dv (K:W.Frag):V→Option Int→Option Int→Hp→VK→Prop:=fun x lo hi H Q=>∃a xs,x= .ref a∧f6 K H a xs∧∀p,H p=none→Q (.ref p) (aS H p (.lst (pe xs lo hi)))
theorem sl_list:SlR X (Dv X.K):=by
 intro pins s σ H x v vl vu lo hi sl Q I rx hs pl pu h;obtain⟨a,xs,rfl,hx,q⟩:=h;cases rx;obtain⟨its,r,ht,hz⟩:=I.list hx;have hlen:=r.length;refine⟨"list",_,slot_list_getitem.lookup,ht.isList.typeIs,?_⟩;refine wpAny_getItem_list_slice ht.isList hs pl pu .none (by simp) ?_ (by rw[size_toArray] <;> omega);rw[lX,←hlen];refine⟨.ref s.heap.objs.size,_,I.laid (t':=s.toks) (o:=.lst (pe xs lo hi)) (fun b ob q=>Heap.get?_push_of_some _ q) (le_refl _) ?_,rfl,q _ (I.hok.fresh (le_refl _))⟩;exact⟨le_trans (jK xs lo hi) hz,_,0,(r.drop (HT.cb xs.length 0 lo)).take (HT.cb xs.length xs.length hi-HT.cb xs.length 0 lo),Heap.get?_push_size _ rfl⟩
theorem m_:dz X (.builtin "len") (fun xs H Q=>∃p ys,xs=[.ref p]∧(f6 X.K H p ys∨kG X.K H p ys)∧Q (.int ys.length) H):=by
 intro pins s σ H xs us Q I r h;obtain⟨p,ys,rfl,hq,q⟩:=h;obtain⟨u,rfl,rx⟩:=ij r;cases rx;have hn:=nY
 rcases hq with hq|hq
 ·obtain⟨its,r',pl,hz⟩:=I.list hq;have w:=r'.length;exact Calls.call_len_list pl.isList (by simp only[size_toArray] <;> omega) ⟨.int ys.length,H,I.tok _,⟨s.toks+1,by rw[size_toArray,w]⟩,q⟩
 ·obtain⟨its,r',pl,hz⟩:=I.tuple hq;have w:=r'.length;exact len_tuple pl (by simp only[size_toArray] <;> omega) ⟨.int ys.length,H,I.tok _,⟨s.toks+1,by rw[size_toArray,w]⟩,q⟩
theorem ng:dz X (.type "list") (fun xs H Q=>∃p ys,xs=[.ref p]∧(f6 X.K H p ys∨kG X.K H p ys)∧∀l,H l=none→Q (.ref l) (aS H l (.lst ys))):=by
 intro pins s σ H xs us Q I r h;obtain⟨p,ys,rfl,hq,q⟩:=h;obtain⟨u,rfl,rx⟩:=ij r;cases rx;have fin:∀(A:List Value),Vals ys A→ys.length≤sizeLine→∀(B:Heap) (c':Nat),(∀b o',s.heap.get? b=some o'→B.get? b=some o')→
   B.get? s.heap.objs.size=some {cls:=.type "list",dict:=none,data:=.seq A.toArray c',slots:= #[]}→EP X pins σ Q (.ref s.heap.objs.size) {s with heap:=B}:=fun A r' hz B c' kp e=>
  ⟨.ref s.heap.objs.size,_,I.laid (t':=s.toks) kp (le_refl _) (show ObjOk X.prog X.w _ B _ (.lst ys) from ⟨hz,A,c',r',e⟩),rfl,q _ (I.hok.fresh (le_refl _))⟩
 rcases hq with hq|hq
 ·obtain⟨A,r',pl,hz⟩:=I.list hq;have hlen:=r'.length;obtain⟨o,ho,hc,n,hd⟩:=pl.isList;exact call_list_seq p (.inl rfl) ho hc hd (fun B c' kp e=>fin A r' hz B c' kp e) (by simp only[size_toArray] <;> omega)
 ·obtain⟨A,r',pl,hz⟩:=I.tuple hq;have hlen:=r'.length;obtain⟨o,ho,hc,n,hd⟩:=pl;exact call_list_seq p (.inr rfl) ho hc hd (fun B c' kp e=>fin A r' hz B c' kp e) (by simp only[size_toArray] <;> omega)
theorem lN:dz X (.type "tuple") (fun xs H Q=>∃p ys,xs=[.ref p]∧((f6 X.K H p ys∧∀l,H l=none→Q (.ref l) (aS H l (.tup ys)))∨(kG X.K H p ys∧Q (.ref p) H))):=by
 intro pins s σ H xs us Q I r h;obtain⟨p,ys,rfl,h⟩:=h;obtain⟨u,rfl,rx⟩:=ij r;cases rx
 rcases h with ⟨hq,q⟩|⟨hq,q⟩
 ·obtain⟨its,r',pl,hz⟩:=I.list hq;have hlen:=r'.length;refine call_tuple_list pl.isList (fun h' kp=>?_) (by simp only[size_toArray] <;> omega);have I1:Inv X pins σ H {s with heap:=h'}:=I.kept (t':=s.toks) kp
  have I2:Inv X pins σ (aS H h'.objs.size (.tup ys)) {s with heap:=h'.push {cls:=.type "tuple",data:=.seq its.toArray}}:=
   I1.laid (t':=s.toks) (fun b o e=>Heap.get?_push_of_some _ e) (le_refl _) (show ObjOk X.prog X.w _ _ _ (.tup ys) from ⟨hz,its,r',IsTup.new _ _⟩)
  exact⟨.ref h'.objs.size,_,I2,rfl,q _ (I1.hok.fresh (le_refl _))⟩
 ·obtain⟨its,r',pl,hz⟩:=I.tuple hq;exact call_tuple_same pl ⟨.ref p,H,I,rfl,q⟩
noncomputable def DP (K:W.Frag)(T:String)(x:V)(H:Hp):Prop:=match x with
 |.str _=>T= "str"
 |.int _=>T= "int"
 |.ref p=>(T= "list" ∧∃xs,f6 K H p xs)∨(T= "tuple" ∧∃o,K.lookup p=some o∧o.cls= .type "tuple" ∧o.dict=none)∨
   (T= "dict" ∧((∃kvs,H p=some (.dK kvs))∨∃kvs,H p=some (.dT kvs)))∨(T= "set" ∧∃S n,H p=some (.set S n))
 |_=>False
theorem By {pins:List (Addr×Obj)}{σ:St}{H:Hp}{s:Shared}{T:String}{x:V}{v:Value}(I:Inv X pins σ H s)(r:RelV x v)(ty:DP X.K T x H) :
  s.TypeIs v T∧∀a,v= .ref a→∃ob,s.heap.get? a=some ob∧ob.dict=none:=by
 cases x with
 |str z=>
  obtain⟨t,rfl⟩:=r;cases (show T= "str" from ty);exact⟨typeIs_str s z t,fun _ e=>nomatch e⟩
 |int i=>
  obtain⟨t,rfl⟩:=r;cases (show T= "int" from ty);exact⟨typeIs_int s i t,fun _ e=>nomatch e⟩
 |ref p=>
  cases r
  rcases ty with ⟨rfl,xs,hq⟩|⟨rfl,o,C,hc,hd⟩|⟨rfl,C⟩|⟨rfl,S,n,C⟩
  ·obtain⟨its,_,pl,_⟩:=I.list hq;refine⟨pl.isList.typeIs,fun a e=>?_⟩;cases e;obtain⟨o,n,e,c,hd,_⟩:=pl;exact⟨o,e,hd⟩
  ·refine⟨⟨o,I.kIn p o C,hc⟩,fun a e=>?_⟩;cases e;exact⟨o,I.kIn _ o C,hd⟩
  ·have z:∃o,s.heap.get? p=some o∧o.ExactDict:=by
    rcases C with ⟨kvs,C⟩|⟨kvs,C⟩
    ·obtain⟨_,_,_,_,o,_,_,e,D,_⟩:=I.hok p _ C;exact⟨o,e,D⟩
    ·obtain⟨_,_,_,_,o,_,_,e,D,_⟩:=I.hok p _ C;exact⟨o,e,D⟩
   obtain⟨o,e,D⟩:=z;refine⟨⟨o,e,D.1⟩,fun a e2=>?_⟩;cases e2;exact⟨o,e,D.2.1⟩
  ·obtain⟨o,_,_,_,e,D,_⟩:=I.hok p _ C;refine⟨⟨o,e,D.1⟩,fun a e2=>?_⟩;cases e2;exact⟨o,e,D.2.1⟩
 |_=>exact False.elim ty
noncomputable def DZ (K:W.Frag)(T:String)(r:V→List V→Hp→VK→Prop)(to:TE)(t:TA):TE:=fun σ H Q=>to σ H fun x H1=>DP K T x H1∧t σ H1 fun xs H2=>r x xs H2 Q
variable{o e:Expr}{es:List Expr}{to:TE}{t:TA}{name:Str}{apos cpos:Pos}{T id:String}{r:V→List V→Hp→VK→Prop}
theorem vY (pa:PlainAttrs T)(slot:Slot T name id)(hty:typeOf (.builtin id)=pure (.type "method_descriptor"))(hm:BD X id r)(ho:PE X o to)(ha:PA X (e::es) t)
  (hbase:attributeBase o name X.env (eval o X.env)=eval o X.env:=by rfl)
  (hfew:((backTo cpos (starEach (e::es) X.env)).all (fun x=> !x.1)&&(backToKw cpos (keywordEach [] X.env)).all (fun x=>x.1.isSome)
  &&decide ((e::es).length+([]:List Keyword).length+(if ([]:List Keyword).isEmpty then 0 else 1)<30))=true:=by rfl)
  (hline:(apos.endLine==cpos.line)=true:=by rfl) (hs:starEach (e::es) X.env=(false,eval e X.env)::starEach es X.env:=by rfl) (hplain:(backTo cpos (starEach es X.env)).any (·.1)=false:=by rfl) :
  PE X (.Call (.Attribute o name apos) (e::es) [] cpos) (DZ X.K T r to t):=by
 intro u s σ H Q I h;refine wpAny_Call_method_late hbase hfew hline rfl (aE (ho u s σ H _ I h) fun v s1 hZ64=>?_);obtain⟨x,H1,I1,r1,ty,q1⟩:=hZ64;obtain⟨h1,h2⟩:=By I1 r1 ty;refine⟨T,id,pa,slot,hty,h1,h2,?_⟩;have hA:=ha cpos u s1 σ H1 _ I1 q1;rw[hs]at hA ⊢;refine Calls.callWith_builtin (by show (false||(backTo cpos (starEach es X.env)).any (·.1))=false;rw[hplain] <;> rfl) (Calls.evalArgs_plain ?_);exact aE hA fun us s2 hZ65=>(by obtain⟨vs,H2,I2,r2,q2⟩:=hZ65;exact hm u s2 σ H2 x vs v us Q I2 r1 r2 q2)
end
noncomputable def DK (X:Cx)(id:String)(r:V→List V→Hp→VK→Prop):Prop:=
 ∀(pins:List (Addr×Obj)) (s:Shared) (σ:St) (H:Hp) (x:V) (xs:List V) (v:Value) (us:List Value) (Q:VK),Inv X pins σ H s→RelV x v→Vals xs us→r x xs H Q→
  wpAny (model X.prog X.w) X.A (call (.builtin id) (v::us)) (EP X pins σ Q) X.xe s
theorem Vals.one:∀{x:V} {us:List Value},Vals [x] us→∃u,us=[u]∧RelV x u
 |_,_,.cons r .nil=>⟨_,rfl,r⟩
theorem Vals.rep {xs:List V}{us:List Value}(h:Vals xs us):∀k:Nat,Vals (replicate k xs).flatten (replicate k us).flatten
 |0=>.nil
 |k+1=>by
  rw[replicate_succ,replicate_succ,flatten_cons,flatten_cons];exact Vals.append h (Vals.rep h k)
theorem mh (its:List Value):∀(k:Nat) (acc:List Value),
  List.foldl (fun x1 x2=>x1 ++ x2) acc.toArray (replicate k its.toArray)=(acc ++ (replicate k its).flatten).toArray
 |0,acc=>by simp
 |k+1,acc=>by
  have e:acc.toArray ++ its.toArray=(acc ++ its).toArray:=by simp
  have e2:(acc ++ its) ++ (replicate k its).flatten=acc ++ (replicate (k+1) its).flatten:=by
   rw[replicate_succ,flatten_cons,append_assoc]
  rw[←e2,←mh its k (acc ++ its),←e,replicate_succ,List.foldl_cons]
section
variable{X:Cx}{pins:List (Addr×Obj)}{σ:St}{H:Hp}{s:Shared}{l b:Addr}{xs ys zs:List V}
theorem Inv.lset {its its':List Value}{n:Nat}{f:Array Value→Array Value}{t':Nat}(I:Inv X pins σ H s)(hH:H l=some (.lst xs))
  (e:s.heap.get? l=some {cls:=.type "list",data:=.seq its.toArray n}) (hf:f its.toArray=its'.toArray) (hv:Vals ys its') (hz:ys.length≤sizeLine) :
  Inv X pins σ (aS H l (.lst ys)) {s with heap:=s.heap.update l (Obj.mapSeq f),toks:=t'}:=by
 have q:=PySem.IsL.update e f;rw[hf]at q;refine I.write (x:=l) (e:=l) (by rw[hH];exact trivial) (.inl rfl) (fun b' u hb hu=>(Heap.get?_update_other s.heap (Obj.mapSeq f) (Ne.symm hb)).trans hu) ⟨_,q⟩ ?_;exact⟨hz,its',_,hv,q⟩
theorem Inv.lnew {its:List Value}{t':Nat}(I:Inv X pins σ H s)(hv:Vals ys its)(hz:ys.length≤sizeLine) :
  Inv X pins σ (aS H s.heap.objs.size (.lst ys)) {s with heap:=s.heap.push {cls:=.type "list",data:=.seq its.toArray},toks:=t'}:=
 I.laid (fun _ _ q=>Heap.get?_push_of_some _ q) (le_refl _) ⟨hz,its,0,hv,Heap.get?_push_size _ rfl⟩
theorem Inv.fresh (I:Inv X pins σ H s):H s.heap.objs.size=none:=I.hok.fresh (le_refl _)
theorem Inv.lstM (I:Inv X pins σ H s)(hH:H l=some (.lst xs)):xs.length≤sizeLine∧∃(its:List Value) (n:Nat),Vals xs its∧xs.length=its.length∧s.heap.get? l=some {cls:=.type "list",data:=.seq its.toArray n}:=by
 obtain⟨z,its,n,r,e⟩:=I.hok l _ hH;exact⟨z,its,n,r,r.length,e⟩
theorem pW {n:Nat}(h:n≤sizeLine):Builtin.List.listTooLong n=false:=by
 unfold Builtin.List.listTooLong;exact decide_eq_false (by omega)
end
section
variable{X:Cx}
noncomputable def ot:V→List V→Hp→VK→Prop:=fun x vs H Q=>∃l xs y,x= .ref l∧vs=[y]∧H l=some (.lst xs)∧xs.length<sizeLine∧Q .non (aS H l (.lst (xs ++ [y])))
theorem t_:DK X "list.append" ot:=by
 intro pins s σ H x vs v us Q I rx rv h;obtain⟨l,xs,y,rfl,rfl,hH,hz,q⟩:=h;cases rx;obtain⟨u,rfl,ru⟩:=rv.one;obtain⟨z,its,n,r,hl,e⟩:=I.lstM hH;refine call_meets F.slot_list_append ⟨_,e,rfl⟩ F.entry_list_append (F.args_list_append_2 _ _) (PySem.list_append l its.toArray n u (by rw[size_toArray];omega)) ⟨e,?_⟩;refine⟨.non,_,I.lset (its':=its ++ [u]) hH e (by simp) (r.append (.cons ru .nil)) ?_,rfl,q⟩;rw[length_append,List.length_singleton];omega
noncomputable def ox:V→List V→Hp→VK→Prop:=fun x vs H Q=>∃l b xs zs,x= .ref l∧vs=[.ref b]∧H l=some (.lst xs)∧H b=some (.lst zs)∧xs.length+zs.length≤sizeLine∧Q .non (aS H l (.lst (xs ++ zs)))
theorem ua:DK X "list.extend" ox:=by
 intro pins s σ H x vs v us Q I rx rv h;obtain⟨l,b,xs,zs,rfl,rfl,hH,hB,hz,q⟩:=h;cases rx;obtain⟨u,rfl,ru⟩:=rv.one;cases ru;obtain⟨z,A,n,r,hl,e⟩:=I.lstM hH;obtain⟨z2,E,n2,r2,hl2,e2⟩:=I.lstM hB;have hsz:A.toArray.size+E.toArray.size≤sizeLine:=by rw[size_toArray,size_toArray];omega
 have hlong:¬(!A.toArray.isEmpty&&Builtin.List.listTooLong (A.toArray.size+E.toArray.size))=true:=by
  rw[pW hsz,Bool.and_false];exact Bool.false_ne_true
 refine call_meets F.slot_list_extend ⟨_,e,rfl⟩ F.entry_list_extend (F.args_list_extend_2 _ _)
  (AutoSeq1.list_extend_list_list_0 l A.toArray n b E.toArray n2 hlong (by rw[size_toArray];omega) (by omega)) ⟨e,e2,?_⟩
 refine⟨.non,_,I.lset (its':=A ++ E) hH e (by simp) (r.append r2) ?_,rfl,q⟩;rw[length_append];omega
noncomputable def Dt:R2:=fun x y H Q=>∃l b xs zs,x= .ref l∧y= .ref b∧H l=some (.lst xs)∧H b=some (.lst zs)∧xs.length+zs.length≤sizeLine∧∀p,H p=none→Q (.ref p) (aS H p (.lst (xs ++ zs)))
theorem A0:oU X (binaryOp .Add) Dt:=by
 intro pins s σ H x y v u Q I rx ry h;obtain⟨l,b,xs,zs,rfl,rfl,hH,hB,hz,q⟩:=h;cases rx;cases ry;obtain⟨z,its,n,r,hl,e⟩:=I.lstM hH;obtain⟨z2,its2,n2,r2,hl2,e2⟩:=I.lstM hB;refine PySem.P.add_list e e2 ?_ (by rw[size_toArray,size_toArray];omega);have ea:its.toArray ++ its2.toArray=(its ++ its2).toArray:=by simp
 rw[ea];exact⟨.ref _,_,I.lnew (t':=s.toks) (r.append r2) (by rw[length_append];omega),rfl,q _ I.fresh⟩
noncomputable def Du:R2:=fun x y H Q=>∃l k xs,x= .ref l∧y= .int k∧H l=some (.lst xs)∧ -(2 ^ 63)≤k∧k<2 ^ 63∧xs.length*k.toNat≤sizeLine∧
 ∀p,H p=none→Q (.ref p) (aS H p (.lst (replicate k.toNat xs).flatten))
theorem yi {α:Type}(xs:List α)(k:Nat):(replicate k xs).flatten.length=k*xs.length:=by
 induction k with
 |zero=>simp
 |succ k ih=>rw[replicate_succ,flatten_cons,length_append,ih,Nat.succ_mul,Nat.add_comm]
theorem A4:oU X (binaryOp .Mult) Du:=by
 intro pins s σ H x y v u Q I rx ry h;obtain⟨l,k,xs,rfl,rfl,hH,h1,h2,hz,q⟩:=h;cases rx;obtain⟨t,rfl⟩:=ry;obtain⟨z,A,n,r,hl,e⟩:=I.lstM hH;have hlen:A.toArray.size*k.toNat≤sizeLine:=by rw[size_toArray,←hl];exact hz
 have hcap:¬A.toArray.size*k.toNat>(2 ^ 63-1) / 8:=by
  have:(sizeLine:Nat)≤(2 ^ 63-1) / 8:=by decide
  omega
 have hfit:¬(!Builtin.List.listFitsIndex k)=true:=by
  rw[fitsIndex_both h1 h2];exact Bool.false_ne_true
 have hlong:¬Builtin.List.listTooLong (A.toArray.size*k.toNat)=true:=by
  rw[pW hlen];exact Bool.false_ne_true
 have hnew:List.foldl (fun x1 x2=>x1 ++ x2) #[] (replicate (if A.toArray.isEmpty=true then 0 else k.toNat) A.toArray)=(replicate k.toNat A).flatten.toArray:=by
  have f0:∀m:Nat,List.foldl (fun x1 x2=>x1 ++ x2) #[] (replicate m A.toArray)=(replicate m A).flatten.toArray:=fun m=>by
   have:=mh A m [];rw[List.nil_append]at this;exact this
  rw[f0];cases A with
  |nil=>simp
  |cons a r'=>rw[if_neg (by simp)]
 refine wpAny_binaryOp_repeat_ref (T:= "list") (U:= "int") (by decide) ⟨_,e,rfl⟩ (fun s'=>typeIs_int s' k t) noFill_list_mul F.fills_int_mul F.slot_int_rmul repeat_list F.slot_int_index.lookup
  (call_meets F.slot_int_rmul (typeIs_int s k t) F.entry_int_rmul (F.args_int_rmul_2 _ _) (int___rmul___int_list k t l A.toArray n)
   ⟨e,rfl,⟨_,e,rfl⟩,call_meets F.slot_list_mul ⟨_,e,rfl⟩ F.entry_list_mul (F.args_list_mul_2 _ _) (AutoListH.list___mul___list_int_3 l A.toArray n k t hfit hcap hlong) ⟨e,?_⟩⟩)
 rw[hnew];exact⟨.ref _,_,I.lnew (t':=s.toks) (r.rep k.toNat) (by rw[yi,Nat.mul_comm];exact hz),rfl,q _ I.fresh⟩
end
section
variable{prog:Program}{w:World}{A:Around}{E:Value→Shared→Prop}{s:Shared}
end
section
variable{X:Cx}
end
end L2
namespace Att
open PySem PySem.W PySem.Calls PyProof.Rows
theorem jT {P:Params}{h:Heap}:∀(ns:List Int) (vs:List Value),WellAll P h vs (ns.map WData.int)→IntsAre vs ns:=by
 intro ns
 induction ns with
 |nil=>
  intro vs w;rw[map_nil]at w;cases w;exact .nil
 |cons n ns ih=>
  intro vs w;rw[map_cons]at w;cases w with
  |cons a b=>
   cases a;exact .cons _ _ (ih _ b)
theorem um {l:OpenLaw}{n:Nat}(hn:l.most=some n){P:Params}{h:Heap}{args:List WData}{vals:List Value}
  (hpre:l.row.toRowW.claim.pre args=true) (hwl:WellAll P h vals args) :
  ∃a vs ns,vals=[Value.ref a]∧args=[WData.list (ns.map WData.int)]∧h.get? a=some {cls:=.type "list",data:=.seq vs.toArray}∧IntsAre vs ns∧ns.length≤n:=by
 have hsh:WShape.hasAll [] args [.list .int]=true:=(pre_splitW hpre).1;have hc:l.pre.holds [] {args:=args}=true:=(pre_splitW hpre).2;obtain⟨d,r,rfl,h1,h2⟩:=hasAllW_cons hsh;obtain rfl:=hasAllW_nil h2;obtain⟨xs,rfl,h3⟩:=hasW_list h1;obtain⟨ns,rfl⟩:=items_int h3;have hlen:ns.length≤n:=by
  unfold OpenLaw.pre at hc;have h4:(WTm.not (.lt (.lit (.int (n:Int))) (.len (.arg 0)))).holds [] {args:=[.list (ns.map .int)]}=true:=by
   have h4:=(holds_andW hc).1;rw[hn]at h4;exact h4
  have h5:=condW_of h4 (w_not (w_lt w_lit (w_len_list (w_arg rfl))));rw[length_map]at h5;refine Nat.le_of_not_lt fun q=>?_;have q':(n:Int)<((ns.length:Nat):Int):=by omega
  first
   |(rw[decide_eq_true q']at h5;exact absurd h5 (by decide))
   |(simp at h5;omega)
 cases hwl with
 |cons w1 w2=>
  cases w2;cases w1 with
  |list ho hall=>exact⟨_,_,ns,rfl,rfl,ho,jT ns _ hall,hlen⟩
theorem ui (l:OpenLaw)(args:List WData):l.row.toRowW.claim.post args (.bool true) args=true:=
 postW_of (r:=l.row.toRowW) (X:=(true==true))
  (show WShape.has [] (.bool true) .bool=true by first|rfl|decide|simp[WShape.has,WShape.arms,WShape.armsAll])
  (show (WTm.eq .res (.lit (.bool true))).value [] {args:=args,res:=some (.bool true),after:=args}=some (.bool (true==true)) from w_eq_bool (w_res rfl) w_lit) rfl
theorem oX {l:OpenLaw}{n:Nat}{q:Program}{loose:List Str}{XP:(Str→Option Value)→Heap→Prop}{YP:World→Heap→Prop}{d:DefRec}
  (hn:l.most=some n) (hdf:d.params.defaults=[])
  (call:∀(w:World) (s₀ s₁:Shared) (mg mb:Str→Option Value) (fa:Addr) (o:Obj) (pm cd doc:Value) (a:Addr) (vs:List Value) (ns:List Int),
   Ground q loose [] XP w s₀ mg mb s₁.heap→YP w s₁.heap→
   s₁.heap.get? fa=some o→o.data= .func (docDef d.name d.params d.body d.scope pm cd doc)→s₁.heap.CodeRec cd d.name→mg d.name=some (.ref fa)→
   s₁.heap.get? a=some {cls:=.type "list",data:=.seq vs.toArray}→IntsAre vs ns→ns.length≤n→s₁.gens= #[]→
   codeAny (model l.prog w) callerA (.call (.ref fa) ⟨[.ref a],[]⟩) (fun r s'=>r= .ok (.ret (.bool true))∧OldK s₁.heap s'.heap∧s'.os=s₁.os∧AllBare s'.gens) s₁) :
  WalkO q loose XP YP l.row.toRowW d [] (fun f vs=>PySem.call f vs):=by
 intro w s₀ s₁ mg mb G Y fa o pm cd doc dV kV ho hd hcd hD hmg hg args vals as hpre hlay hrd hwl hlo;obtain rfl:dV= .none:=Dflts.none hD hdf;obtain rfl:kV= .none:=Dflts.noKw hD;obtain⟨a,vs,ns,rfl,rfl,hobj,hints,hlen⟩:=um hn hpre hwl;refine enter_call (codeAny_mono (call w s₀ s₁ mg mb fa o pm cd doc a vs ns G Y ho (fd_plain hd) hcd hmg hobj hints hlen hg) fun r s' hq=>?_);obtain⟨rfl,h2,h3,h4⟩:=hq;exact⟨.inl ⟨.bool true,.bool true,[],rfl,fun _=>rfl,.bool true,ui l _,fun _=>⟨List.Pairwise.nil,fun _ hm=>(nomatch hm)⟩⟩,h2,h3,h4⟩
section
variable{prog:Program}{w:World}{A:Around}{E:Value→Shared→Prop}{s:Shared}{K:Frag}
end
end Att
namespace L2
open PySem PySem.Spec PyProof.Rows
theorem mO:∀{vs:List Value} {ns:List Int},IntsAre vs ns→Vals (ns.map V.int) vs
 |_,_,.nil=>.nil
 |_,_,.cons n t h=>.cons ⟨t,rfl⟩ (mO h)
noncomputable def zM (H:Hp):Prop:=∀b,H b=none∨∃o xs,H b=some (.frz o (.lst xs))
theorem vv {P:Program}{w:World}{K:W.Frag}{mg mb:Str→Option Value}{CX:oR}{k:Nat}{fa a:Addr}{fd:FuncData}{x:Str}{sp:Sp}{s₁:Shared}{vs:List Value}{ns:List Int}
  (KX:K.In s₁.heap) (hns:s₁.heap.Ns mainGlobals mg) (hb:s₁.heap.Ns builtinsNs mb) (hbb:∀x:Str,x≠ "__name__" →mb x=bootBuiltins x) (hlim:s₁.heap.NoLimit) (hg:s₁.gens= #[])
  (ha:s₁.heap.get? a=some {cls:=.type "list",data:=.seq vs.toArray}) (hi:IntsAre vs ns) (hl:ns.length≤sizeLine) (hr:Room k callerA)
  (F:∀base:Heap,K.In base→base.Ns mainGlobals mg→FnOk P w K mg base CX k fa fd [x] sp) (hbind:∀(s:Shared) (u:Value),BindsTo s fd ⟨[u],[]⟩ [(x,u)])
  (hsp:∀H:Hp,zM H→f6 K H a (ns.map V.int)→sp [.ref a] H (fun v _=>v= .bl true) fun _ _ _=>False)
  (hCX:∀H e s',CX [] H s₁ (fun _ _ _=>False) e s'→False) :
  codeAny (model P w) callerA (.call (.ref fa) ⟨[.ref a],[]⟩) (fun r s'=>r= .ok (.ret (.bool true))∧OldK s₁.heap s'.heap∧s'.os=s₁.os∧AllBare s'.gens) s₁:=by
 have rv:=mO hi;have lenV:=hi.length
 -- from an abstract heap in which nothing but the script may be tracked
 have core:∀H:Hp,zM H→f6 K H a (ns.map V.int)→HOk P w H s₁.heap→(∀b,H b≠none→b=a)→(H a≠none→K.lookup a=none)→
   codeAny (model P w) callerA (.call (.ref fa) ⟨[.ref a],[]⟩) (fun r s'=>r= .ok (.ret (.bool true))∧OldK s₁.heap s'.heap∧s'.os=s₁.os∧AllBare s'.gens) s₁:=by
  intro H hO hS hok hA hK;have G:∀{b:Addr} {o:Obj},s₁.heap.get? b=some o→H b=none→(nK s₁.heap H).get? b=some o:=fun e n=>va e n;have noA:∀{b:Addr} {o:Obj} {es:Array DictEntry} {ep:Nat},s₁.heap.get? b=some o→o.data= .dict es ep→H b=none:=fun {b o es ep} e d=>by
   cases q:H b with
   |none=>rfl
   |some u=>
    have e':b=a:=hA b (by rw[q];simp);subst e';rw[ha]at e;cases e;have d':Data.seq vs.toArray _=Data.dict es ep:=d;cases d'
  have I:∀{b:Addr} {m:Str→Option Value},s₁.heap.Ns b m→(nK s₁.heap H).Ns b m:=fun {b m} hZ66=>(by obtain⟨o,es,ep,e,d,r⟩:=hZ66;exact⟨o,es,ep,G e (noA e d),d,r⟩);have hKb:K.In (nK s₁.heap H):=fun b o e=>G (KX b o e) (by
   cases q:H b with
   |none=>rfl
   |some u=>
    have e':b=a:=hA b (by rw[q];simp);subst e';rw[hK (by rw[q];simp)]at e;cases e)
  have hM:Mod K mg (nK s₁.heap H):=⟨hKb,I hns,⟨mb,I hb,hbb⟩,let ⟨mc,h1,h2⟩:=hlim;⟨mc,I h1,h2⟩⟩
  have e0:Env0 P w K mg (nK s₁.heap H) callerA [] s₁ H:=⟨rfl,hM,fun b o e=>yp e,Nat.le_of_eq (tO _ _),trivial,fun b hb=>absurd (show b∈([]:List Addr) from hb) (by simp),hok,.of_eq hg⟩;refine codeAny_mono ((F _ hKb (I hns)).run callerA [] s₁ H ⟨[.ref a],[]⟩ [.ref a] [.ref a] _ _ hr e0 (hbind s₁ (.ref a)) (.cons rfl .nil) (hsp H hO hS)) fun r s' h=>?_;cases r with
  |error e=>exact(hCX H e s' h).elim
  |ok fl=>
   cases fl with
   |next=>exact False.elim h
   |brk=>exact False.elim h
   |cont=>exact False.elim h
   |ret u=>
    obtain⟨v,H',os,bare,un,hok',r',q⟩:=h;have q':v= .bl true:=q;subst q';obtain rfl:u=Value.bool true:=r';refine⟨rfl,OldK.of_keep fun b o e=>?_,os,bare⟩;cases q:H b with
    |none=>exact un.keep b o e q (by intro z;exact absurd (show b∈([]:List Addr) from z) (by simp)) (by simp)
    |some u=>
     rcases hO b with z|⟨ob,xs,z⟩
     ·rw[q]at z;cases z
     ·have z2:=un.frzs b ob _ z;obtain⟨e1,_⟩:=hok b _ z;obtain⟨e2,_⟩:=hok' b _ z2;rw[e]at e1;cases e1;exact e2
 cases hk:K.lookup a with
 |some o=>
  -- the script is one of the module's own objects
  have e:=KX a o hk;rw[ha]at e;cases e;refine core (fun _=>none) (fun _=>.inl rfl) (.inr ⟨_,vs.toArray,_,hk,rfl,rfl,rfl,by rw[size_toArray,lenV];exact hl,by simpa using rv⟩) (fun b u z=>by have z':(none:Option HO)=some u:=z;cases z') (fun b z=>absurd rfl z) fun z=>absurd rfl z
 |none=>
  refine core (fun b=>if b=a then some (.frz {cls:=.type "list",data:=.seq vs.toArray} (.lst (ns.map V.int))) else none) (fun b=>?_) (.inl (.inr ⟨{cls:=.type "list",data:=.seq vs.toArray},if_pos rfl⟩)) (fun b u z=>?_) (fun b z=>?_) fun _=>hk
  ·by_cases hb:b=a
   ·exact .inr ⟨_,_,if_pos hb⟩
   ·exact .inl (if_neg hb)
  ·by_cases hb:b=a
   ·have z':=(if_pos hb).symm.trans z;cases z';subst hb;exact⟨ha,by rw[length_map];exact hl,vs,_,rv,ha⟩
   ·have z':=(if_neg hb).symm.trans z;cases z'
  ·by_cases hb:b=a
   ·exact hb
   ·exact absurd (if_neg hb) z
theorem zg {l:W.OpenLaw}{n k:Nat}{q:Program}{loose:List Str}{XP:(Str→Option Value)→Heap→Prop}{YP:World→Heap→Prop}{d:DefRec}{K:Params→W.Frag}{CX:World→oR}{sp:World→Sp}{x:Str}
  (hn:l.most=some n) (hn2:n≤sizeLine) (hdf:d.params.defaults=[]) (hr:Room k callerA)
  (hY:∀(w:World) (h:Heap),YP w h→(K w.params).In h)
  (F:∀(w:World) (mg:Str→Option Value) (fa:Addr) (h:Heap),(K w.params).In h→h.Ns mainGlobals mg→mg d.name=some (.ref fa)→
   ∃fd:FuncData,(∀(s:Shared) (u:Value),BindsTo s fd ⟨[u],[]⟩ [(x,u)])∧
    ∀base:Heap,(K w.params).In base→base.Ns mainGlobals mg→FnOk l.prog w (K w.params) mg base (CX w) k fa fd [x] (sp w))
  (hsp:∀(w:World) (H:Hp) (a:Addr) (ns:List Int),ns.length≤n→zM H→f6 (K w.params) H a (ns.map V.int)→sp w [.ref a] H (fun v _=>v= .bl true) fun _ _ _=>False)
  (hCX:∀(w:World) (H:Hp) (s:Shared) (e:Value) (s':Shared),CX w [] H s (fun _ _ _=>False) e s'→False) :
  W.WalkO q loose XP YP l.row.toRowW d [] (fun f vs=>PySem.call f vs):=by
 refine Att.oX hn hdf fun w s₀ s₁ mg mb fa o pm cd doc a vs ns G Y ho hd hcd hmg hobj hints hlen hg=>?_;have KX:=hY w _ Y;obtain⟨fd,hb,hF⟩:=F w mg fa _ KX G.T.g hmg;exact vv KX G.T.g G.T.b G.T.builtins G.T.nolimit hg hobj hints (le_trans hlen hn2) hr hF hb (fun H hO hS=>hsp w H a ns hlen hO hS) fun H e s'=>hCX w H s₁ e s'
noncomputable def hG (s:Stmt)(j:Nat):Stmt:=match s with
 |.ClassDef _ _ _ body _ _ _ _ _ _ _=>body.getD j (.Pass ⟨0,0,0,0⟩)
 |_=>.Pass ⟨0,0,0,0⟩
noncomputable def fG (s:Stmt):Arguments:=match s with
 |.FunctionDef _ a _ _ _ _ _ _ _ _=>a
 |_=>{posonlyargs:=[],args:=[],vararg:=none,kwonlyargs:=[],kw_defaults:=[],kwarg:=none,defaults:=[]}
noncomputable def bv (s:Stmt):List Stmt:=match s with
 |.FunctionDef _ _ b _ _ _ _ _ _ _=>b
 |_=>[]
noncomputable def af (s:Stmt):Scope:=match s with
 |.FunctionDef _ _ _ _ _ _ sc _ _ _=>sc
 |_=>{kind:=.function,names:=[],isGenerator:=false,isCoroutine:=false}
structure Fun (K:W.Frag)(x qual:Str)(st:Stmt)(f:Addr)(fd:FuncData):Prop where
 ex:∃(oc:Value) (od:Option Addr) (kV doc pm:Value) (an:Option Addr) (cdv ct:Value) (osl:Array (Option Value)),
  fd=W.fnOf x qual (fG st) (bv st) (af st) .none kV doc pm an cdv ct∧K.lookup f=some ⟨oc,od,.func fd,osl⟩∧W.codeIn K cdv qual=true
 kp:W.keepIn K (.ref f)=true
section
variable{P:Program}{w:World}{K:W.Frag}{mg:Str→Option Value}{base:Heap}
theorem Fun.binds {x qual:Str}{st:Stmt}{f:Addr}{fd:FuncData}{ps:List Str}(F:Fun K x qual st f fd)
  (h:∀(kV doc pm:Value) (an:Option Addr) (cdv ct:Value) (us:List Value),us.length=ps.length→bindArgs (W.fnOf x qual (fG st) (bv st) (af st) .none kV doc pm an cdv ct) ⟨us,[]⟩=pure (ps.zip us)):Binds K fd ps []:=by
 obtain⟨oc,od,kV,doc,pm,an,cdv,ct,osl,rfl,lk,hcd⟩:=F.ex;exact .all (h kV doc pm an cdv ct)
theorem u9 {x qual:Str}{st:Stmt}{f:Addr}{oc:Value}{od an:Option Addr}{osl:Array (Option Value)}{kV doc pm cdv ct:Value}(l:K.lookup f=some ⟨oc,od,.func (W.fnOf x qual (fG st) (bv st) (af st) .none kV doc pm an cdv ct),osl⟩)
  (c:W.codeIn K cdv qual=true) (k:W.keepIn K (.ref f)=true):Fun K x qual st f (W.fnOf x qual (fG st) (bv st) (af st) .none kV doc pm an cdv ct):=⟨⟨oc,od,kV,doc,pm,an,cdv,ct,osl,rfl,l,c⟩,k⟩
end
section
variable{X:Cx}
theorem pv (i:Nat){x:Str}{pos:Pos}(hN:X.N[i]?=some x:=by rfl)(hv:xg X.env.scope x:=by first|exact Or.inl rfl|exact Or.inr (Or.inl rfl)|exact Or.inr (Or.inr rfl))(hd:(x==("__debug__" :Str))=false:=by decide)
  (hcd:(x==("__classdict__" :Str))=false:=by decide):PE X (.Name x pos) (ze i):=ls hN hv hd hcd
end
noncomputable def Same (H H':Hp):Prop:=∀b o,H b=some o→H' b=some o
theorem Same.refl (H:Hp):Same H H:=fun _ _ h=>h
theorem Same.trans {H H1 H2:Hp}(a:Same H H1)(b:Same H1 H2):Same H H2:=fun c o h=>b c o (a c o h)
theorem Same.free {H H':Hp}(e:Same H H'){l:Addr}(h:H' l=Option.none):H l=Option.none:=by
 cases q:H l with
 |none=>rfl
 |some o=>
  rw[e l o q]at h;cases h
theorem Same.seq {K:W.Frag}{H H':Hp}{a:Addr}{xs:List V}(e:Same H H')(h:f6 K H a xs):f6 K H' a xs:=by
 rcases h with (h|⟨o,h⟩)|h
 ·exact .inl (.inl (e _ _ h))
 ·exact .inl (.inr ⟨o,e _ _ h⟩)
 ·exact .inr h
section
variable(P:Program)(w:World)
end
section
variable{P:Program}{w:World}{H H':Hp}{h h':Heap}{a:Addr}{o:HO}
end
section
variable{P:Program}{w:World}{H:Hp}{h h':Heap}{x e:Addr}{o':HO}
end
section
variable{fs fs' ex ex':List Addr}{H H1 H2:Hp}{h h1 h2 h':Heap}{a x e:Addr}{o:HO}
end
section
variable{X:Cx}{pins:List (Addr×Obj)}{σ:List (Option V)}{H H':Hp}{s:Shared}{h':Heap}
end
section
variable{X:Cx}
variable{a b:Expr}{ta tb:TE}{pos:Pos}
variable{tA tB':TT}{rest:List Expr}
end
section
variable{X:Cx}{pins:List (Addr×Obj)}{σ:St}{H:Hp}{s:Shared}{a:Addr}{xs ys:List V}
end
section
variable{X:Cx}{pins:List (Addr×Obj)}{σ:St}{H:Hp}{s:Shared}{E:Value→Shared→Prop}
end
section
variable{X:Cx}{st:Stmt}{rest:List Stmt}{t u:TS}{e:Expr}{te:TE}{pos:Pos}
end
section
variable{X:Cx}{pos:Pos}
end
section
variable{X:Cx}{tg:Expr}
end
section
variable{X:Cx}{a b c:Expr}{ta tb tc:TE}{pos:Pos}
end
section
variable{prog:Program}{w:World}{A:Around}{E:Value→Shared→Prop}{s:Shared}{K:W.Frag}{x dx C f:Addr}{mA:Str→Option Value}{name:Str}{v:Value}
end
section
variable{P:Program}{w:World}{H H':Hp}{h h':Heap}{a C dx:Addr}{fs fs':List (Str×V)}
end
section
variable{X:Cx}{pins:List (Addr×Obj)}{σ:St}{H:Hp}{s:Shared}{a C dx:Addr}{fs:List (Str×V)}{f:Str}{v:V}{A:Around}{E:Value→Shared→Prop}
end
section
variable{X:Cx}{o e value:Expr}{f:Str}{pos pos' tpos:Pos}{ta tv:TE}
end
section
variable{X:Cx}{pins:List (Addr×Obj)}{σ:St}{H:Hp}{s:Shared}{A:Around}{E:Value→Shared→Prop}{Q:Value→Shared→Prop}{c:Value}{b:Bool}
end
section
variable{X:Cx}{e:Expr}{es:List Expr}{te:TE}{t:TA}{pos:Pos}
end
section
variable{X:Cx}{pins:List (Addr×Obj)}{σ:St}{H:Hp}{s s':Shared}
end
section
variable{X:Cx}{CX:oR}{k:Nat}{f C:Addr}{fd:FuncData}{ps:List Str}{sp:Sp}{dvs:List V}{ds:List Value}{E:XK}{x m:Str}{p pos apos:Pos}{e o:Expr}{es:List Expr}{ta:TE}{t:TA}
end
section
variable{X:Cx}{CX:oR}{k:Nat}{f C:Addr}{fd:FuncData}{ps ks:List Str}{sp:Sp}{E:XK}{x m:Str}{p pos apos kpos:Pos}{e o:Expr}{es:List Expr}{kws:List Keyword}{te ta:TE}{t tk:TA}{nm:Option Str}
variable{g:List Value→List Value→List Value}{gV:List V→List V→List V}
end
section
variable{X:Cx}{x:Str}{p pos:Pos}{e:Expr}{es:List Expr}{t:TA}{id T:String}{r:List V→Hp→VK→Prop}
end
section
variable{κ:Type}[DecidableEq κ]
noncomputable def gb (kvs:List (κ×V))(k:κ):Option V:=(kvs.find? fun kv=>decide (kv.1=k)).map (·.2)
noncomputable def dU (kvs:List (κ×V))(k:κ)(v:V):List (κ×V):=
 if (kvs.any fun kv=>decide (kv.1=k))=true then kvs.map (fun kv=>if kv.1=k then (kv.1,v) else kv) else kvs ++ [(k,v)]
theorem jg {p:κ×V}{r:List (κ×V)}{k:κ}(e:p.1=k):gb (p::r) k=some p.2:=by simp[gb,find?_cons,e]
theorem gU {p:κ×V}{r:List (κ×V)}{k:κ}(e:¬p.1=k):gb (p::r) k=gb r k:=by simp[gb,find?_cons,e]
theorem jf (k:κ):∀kvs:List (κ×V),(kvs.any fun kv=>decide (kv.1=k))=(gb kvs k).isSome
 | []=>rfl
 |p::r=>by
  rw[any_cons];by_cases e:p.1=k
  ·simp only[jg e,decide_eq_true e,Bool.true_or,Option.isSome_some]
  ·rw[gU e,decide_eq_false e,Bool.false_or];exact jf k r
theorem jO (kvs:List (κ×V))(k:κ)(v:V):(dU kvs k v).length≤kvs.length+1:=by
 unfold dU;split
 ·rw[length_map];omega
 ·rw[length_append,length_cons,length_nil];omega
theorem wA {kvs:List (κ×V)}{k:κ}(v:V)(h:gb kvs k=none):dU kvs k v=kvs ++ [(k,v)]:=by
 unfold dU;rw[jf,h];exact if_neg (by decide)
theorem RelO.isSome_eq {o:Option V}{u:Option Value}(r:RelO o u):o.isSome=u.isSome:=by
 cases o with
 |none=>cases u with
  |none=>rfl
  |some _=>exact(show False from r).elim
 |some _=>cases u with
  |none=>exact(show False from r).elim
  |some _=>rfl
theorem KV.val {kvs:List (κ×V)}{vs:List (κ×Value)}(r:KV kvs vs)(k:κ):RelO (gb kvs k) (valueAt vs k):=by
 unfold KV at r
 induction r with
 |nil=>exact True.intro
 | @cons p q ps qs h t ih=>
  obtain⟨h1,h2⟩:=h;by_cases e:p.1=k
  ·have e':q.1=k:=h1.symm.trans e;have b:valueAt (q::qs) k=some q.2:=by simp[valueAt,find?_cons,e']
   rw[jg e,b];exact h2
  ·have e':¬q.1=k:=fun z=>e (h1.trans z);have b:valueAt (q::qs) k=valueAt qs k:=by simp[valueAt,find?_cons,e']
   rw[gU e,b];exact ih
theorem KV.any {kvs:List (κ×V)}{vs:List (κ×Value)}(r:KV kvs vs)(k:κ):(kvs.any fun kv=>decide (kv.1=k))=vs.any fun kv=>decide (kv.1=k):=by
 unfold KV at r
 induction r with
 |nil=>rfl
 |cons h t ih=>rw[any_cons,any_cons,ih,h.1]
theorem KV.repl {kvs:List (κ×V)}{vs:List (κ×Value)}(r:KV kvs vs)(k:κ){y:V}{u:Value}(ry:RelV y u) :
  KV (kvs.map fun kv=>if kv.1=k then (kv.1,y) else kv) (vs.map fun kv=>if kv.1=k then (kv.1,u) else kv):=by
 unfold KV at r ⊢
 induction r with
 |nil=>exact .nil
 | @cons p q ps qs h t ih=>
  rw[map_cons,map_cons];refine .cons ?_ ih;obtain⟨h1,h2⟩:=h;by_cases e:p.1=k
  ·rw[if_pos e,if_pos (h1.symm.trans e)];exact⟨h1,ry⟩
  ·rw[if_neg e,if_neg (fun z=>e (h1.trans z))];exact⟨h1,h2⟩
theorem KV.put {kvs:List (κ×V)}{vs:List (κ×Value)}(r:KV kvs vs)(k:κ){y:V}{u:Value}(ry:RelV y u):KV (dU kvs k y) (stored vs k u):=by
 unfold dU stored;rw[r.any k];by_cases e:(vs.any fun kv=>decide (kv.1=k))=true
 ·rw[if_pos e,if_pos e];exact r.repl k ry
 ·rw[if_neg e,if_neg e];exact Paired.snoc r ⟨rfl,ry⟩
theorem KV.length {kvs:List (κ×V)}{vs:List (κ×Value)}(r:KV kvs vs):kvs.length=vs.length:=Paired.length r
end
theorem vm {P:Program}{w:World}{k:aV}{u:Value}(r:RelV (kV k) u):(a8 P w).is k u=true:=by
 cases k with
 |inl i=>obtain⟨t,e⟩:=(show ∃t,u=Value.int i t from r);subst e;exact pT P w i t
 |inr x=>obtain⟨t,e⟩:=(show ∃t,u=Value.str x t from r);subst e;exact pU P w x t
theorem mm {P:Program}{w:World}:∀{ks:List aV} {us:List Value},Vals (ks.map kV) us→ItemsAre (a8 P w) ks us
 | [],_,r=>by rw[map_nil]at r;cases r;exact .nil
 |k::ks,_,r=>by
  rw[map_cons]at r;cases r with
  |cons h t=>exact .cons (vm h) (mm t)
noncomputable abbrev KT (H:Hp):List (List aV×V)→List (List aV×Addr×Value)→Prop:=Paired fun p q=>p.1=q.1∧H q.2.1=some (.tup (p.1.map kV))∧RelV p.2 q.2.2
theorem KT.val {H:Hp}{kvs:List (List aV×V)}{xs:List (List aV×Addr×Value)}(r:KT H kvs xs)(k:List aV):RelO (gb kvs k) ((atKey xs k).map (·.2)):=by
 induction r with
 |nil=>exact True.intro
 | @cons p q ps qs h t ih=>
  obtain⟨h1,_,h2⟩:=h;by_cases e:p.1=k
  ·have e':q.1=k:=h1.symm.trans e;have b:atKey (q::qs) k=some q.2:=by simp[atKey,find?_cons,e']
   rw[jg e,b];exact h2
  ·have e':¬q.1=k:=fun z=>e (h1.trans z);have b:atKey (q::qs) k=atKey qs k:=by simp[atKey,find?_cons,e']
   rw[gU e,b];exact ih
theorem KT.repl {H:Hp}{kvs:List (List aV×V)}{xs:List (List aV×Addr×Value)}(r:KT H kvs xs)(k:List aV){y:V}{u:Value}(ry:RelV y u) :
  KT H (kvs.map fun kv=>if kv.1=k then (kv.1,y) else kv) (xs.map (putAt k u)):=by
 induction r with
 |nil=>exact .nil
 | @cons p q ps qs h t ih=>
  rw[map_cons,map_cons];refine .cons ?_ ih;obtain⟨h1,h2,h3⟩:=h;unfold putAt;by_cases e:p.1=k
  ·rw[if_pos e,if_pos (h1.symm.trans e)];exact⟨h1,h2,ry⟩
  ·rw[if_neg e,if_neg (fun z=>e (h1.trans z))];exact⟨h1,h2,h3⟩
theorem KT.put {H:Hp}{kvs:List (List aV×V)}{xs:List (List aV×Addr×Value)}(r:KT H kvs xs)(k:List aV){b:Addr}{y:V}{u:Value}(hb:H b=some (.tup (k.map kV)))(ry:RelV y u) :
  KT H (dU kvs k y) (storedH xs k b u):=by
 have e:(kvs.any fun kv=>decide (kv.1=k))=(atKey xs k).isSome:=by
  rw[jf,(r.val k).isSome_eq,Option.isSome_map]
 unfold dU storedH;rw[e];by_cases q:(atKey xs k).isSome=true
 ·rw[if_pos q,if_pos q];exact r.repl k ry
 ·rw[if_neg q,if_neg q];exact Paired.snoc r ⟨rfl,hb,ry⟩
theorem KT.keeps {H H':Hp}{kvs:List (List aV×V)}{xs:List (List aV×Addr×Value)}(r:KT H kvs xs)(ht:∀b ys,H b=some (.tup ys)→H' b=some (.tup ys)):KT H' kvs xs:=
 Paired.mapP r fun _ _ z=>⟨z.1,ht _ _ z.2.1,z.2.2⟩
section
variable{P:Program}{w:World}{H:Hp}{h:Heap}{a:Addr}
theorem mH {u:HO}(ok:HOk P w H h)(e:Rd H a u):ObjOk P w H h a u:=e.ok ok
theorem uJ {kvs:List (aV×V)}(ok:HOk P w H h)(e:Rd H a (.dK kvs)):kvs.length≤sizeLine∧(a==sysModules)=false∧∃vs,KV kvs vs∧h.DictOf (a8 P w) a vs:=
 show ObjOk P w H h a (.dK kvs) from mH ok e
theorem BW {kvs:List (aV×V)}(ok:HOk P w H h)(e:H a=some (.dK kvs)):kvs.length≤sizeLine∧(a==sysModules)=false∧∃vs,KV kvs vs∧h.DictOf (a8 P w) a vs:=uJ ok (.inl e)
theorem qU {ks:List aV}(ok:HOk P w H h)(e:H a=some (.tup (ks.map kV))):(tupleKind (a8 P w)).is h ks a:=by
 obtain⟨_,its,r,o,h1,h2,n,h3⟩:=(show ObjOk P w H h a (.tup (ks.map kV)) from ok a _ e);exact⟨o,its.toArray,n,h1,h2,h3,by simpa using mm r⟩
theorem uN {kvs:List (List aV×V)}(ok:HOk P w H h)(e:Rd H a (.dT kvs)):kvs.length≤sizeLine∧(a==sysModules)=false∧
  ∃xs,KT H kvs xs∧h.DictOfH (tupleKind (a8 P w)) a xs:=by
 obtain⟨z,y,xs,r,o,es,ep,h1,h2,h3,h4,h5⟩:=(show ObjOk P w H h a (.dT kvs) from mH ok e);refine⟨z,y,xs,r,o,es,ep,h1,h2,h3,h4,fun x hx=>?_,h5⟩;have all:∀{l:List (List aV×V)} {m:List (List aV×Addr×Value)},KT H l m→∀x∈m,(tupleKind (a8 P w)).is h x.1 x.2.1:=by
  intro l m q
  induction q with
  |nil=>intro x hx;exact nomatch hx
  | @cons p q ps qs hq t ih=>
   intro x hx
   rcases mem_cons.mp hx with e|hx
   ·subst e;exact qU ok (by rw[←hq.1];exact hq.2.1)
   ·exact ih x hx
 exact all r x hx
theorem BZ {kvs:List (List aV×V)}(ok:HOk P w H h)(e:H a=some (.dT kvs)):kvs.length≤sizeLine∧(a==sysModules)=false∧
  ∃xs,KT H kvs xs∧h.DictOfH (tupleKind (a8 P w)) a xs:=uN ok (.inl e)
end
noncomputable def zJ (H:Hp)(a:Addr)(y:V)(r:Option V):Prop:=
 (∃kvs k,Rd H a (.dK kvs)∧y=kV k∧r=gb kvs k)∨∃kvs k b,Rd H a (.dT kvs)∧y= .ref b∧H b=some (.tup (k.map kV))∧r=gb kvs k
noncomputable def BH (H:Hp)(a:Addr)(y v:V)(H':Hp):Prop:=
 (∃kvs k,H a=some (.dK kvs)∧y=kV k∧kvs.length<sizeLine∧H'=aS H a (.dK (dU kvs k v)))∨
 ∃kvs k b,H a=some (.dT kvs)∧y= .ref b∧H b=some (.tup (k.map kV))∧kvs.length<sizeLine∧H'=aS H a (.dT (dU kvs k v))
section
variable{X:Cx}{pins:List (Addr×Obj)}{σ:St}{H:Hp}{s:Shared}{a:Addr}{y v:V}{u r:Value}{o:Option V}{A:Around}{E:Value→Shared→Prop}
theorem Inv.big (I:Inv X pins σ H s):sysModules<s.heap.objs.size:=by
 have h:mainGlobals<s.heap.objs.size:=(I.mod.glob.keeps I.bk).lt;exact Nat.lt_trans (by decide) h
theorem tu {Q:Value→Shared→Prop}(hu:A.units+1<cLine)(I:Inv X pins σ H s)(g:zJ H a y (some v))(ry:RelV y u)(h:∀w' s',Inv X pins σ H s'→RelV v w'→Q w' s') :
  wpAny (model X.prog X.w) A (getItem (.ref a) u) Q E s:=by
 rcases g with ⟨kvs,k,e,ey,l⟩|⟨kvs,k,b,e,ey,eb,l⟩
 ·subst ey;obtain⟨z,hd,vs,rel,dd⟩:=uJ I.hok e;obtain⟨w',hw,rw'⟩:=RelO.some_of (v:=v) (o:=valueAt vs k) (by rw[l];exact rel.val k);exact wpAny_getItem_of (vm ry) dd.mapOf hw (h w' _ (I.tok _) rw')
 ·subst ey;cases (show u=Value.ref b from ry);obtain⟨z,hd,xs,rel,dd⟩:=uN I.hok e;obtain⟨w',hw,rw'⟩:=RelO.some_of (v:=v) (o:=(atKey xs k).map (·.2)) (by rw[l];exact rel.val k);obtain⟨p,hp,hp2⟩:=Option.map_eq_some_iff.mp hw;refine wpAny_getItem_heap (tupleKind_room_in1 hu) (qU I.hok eb) dd hp ?_;rw[hp2];exact h w' _ (I.tok _) rw'
theorem rV {h':Heap}{t':Nat}{ob:HO}(I:Inv X pins σ H s)(mu:BK (H a))(hs:Heap.SameBut a s.heap h')(he:∃q,h'.get? a=some q)(new:ObjOk X.prog X.w (aS H a ob) h' a ob) :
  Inv X pins σ (aS H a ob) {s with heap:=h',toks:=t'}:=
 I.write (x:=a) (e:=a) mu (.inl rfl) (fun b q hb z=>(hs.2 b hb).trans z) he new
theorem zW {P:Program}{w:World}{H':Hp}{h':Heap}{kvs:List (aV×V)}{vs:List (aV×Value)}(z:kvs.length≤sizeLine)(hd:(a==sysModules)=false)(rel:KV kvs vs)(dd:h'.DictOf (a8 P w) a vs) :
  ObjOk P w H' h' a (.dK kvs):=⟨z,hd,vs,rel,dd⟩
theorem tw {H':Hp}{Q:Unit→Shared→Prop}(hu:A.units+1<cLine)(I:Inv X pins σ H s)(g:BH H a y v H')(ry:RelV y u)(rv:RelV v r)(h:∀s',Inv X pins σ H' s'→Q () s') :
  wpAny (model X.prog X.w) A (setItem (.ref a) u r) Q E s:=by
 rcases g with ⟨K,k,e,ey,l,eH⟩|⟨K,k,b,e,ey,eb,l,eH⟩
 ·subst ey eH;obtain⟨z,hd,vs,J,dd⟩:=BW I.hok e;have hz:vs.length≤sizeLine:=by rw[←J.length];exact z
  have hl:(dU K k v).length≤sizeLine:=by have:=jO K k v;omega
  refine wpAny_setItem_pairs (hsz:=hz) (vm ry) dd fun h' L hs=>h _ ?_;have he:∃q,h'.get? a=some q:=let ⟨q,_,_,hq,_⟩:=L;⟨q,hq⟩
  exact rV I (by rw[e];exact True.intro) hs he (zW hl hd (J.put k rv) L)
 ·subst ey eH;cases (show u=Value.ref b from ry);obtain⟨z,hd,xs,J,dd⟩:=BZ I.hok e;have hz:xs.length≤sizeLine:=by rw[←Paired.length J];exact z
  have hl:(dU K k v).length≤sizeLine:=by have:=jO K k v;omega
  refine wpAny_setItem_heap (hsz:=hz) (tupleKind_room_in1 hu) (qU I.hok eb) dd fun h' L hs=>h _ ?_;obtain⟨q,es,ep,hq,h2,h3,h4,_,h5⟩:=L;refine rV I (by rw[e];exact True.intro) hs ⟨q,hq⟩ ⟨hl,hd,_,(J.put k eb rv).keeps fun c ys ec=>?_,q,es,ep,hq,h2,h3,h4,h5⟩;rw[ai (Cu ec e (fun z=>nomatch z))]
  exact ec
end
section
variable{X:Cx}{pins:List (Addr×Obj)}{σ:St}{H:Hp}{s:Shared}{a:Addr}{kvs:List (aV×V)}{k:aV}{u:Value}{A:Around}{E:Value→Shared→Prop}
end
noncomputable def xm (i:Expr):Prop:=∀ov iv,subscripted i false ov iv=operate [ov,iv] (getItem ov iv)
theorem zb {prog:Program}{w:World}{A:Around}{E:Value→Shared→Prop}{s:Shared}{env:Env}{value slice:Expr}{pos:Pos}{T id:String}{Q:Value→Shared→Prop}
  (hl:typeLookup (.type T) "__getitem__" =pure (some (.builtin id))) (hs:xm slice)
  (h:wpAny (model prog w) A (eval value env) (fun o s₁=>wpAny (model prog w) A (eval slice env) (fun i s₂=>s₂.TypeIs o T∧wpAny (model prog w) A (getItem o i) Q E s₂) E s₁) E s) :
  wpAny (model prog w) A (eval (.Subscript value slice pos) env) Q E s:=by
 refine Subscript_ (wpAny_mono h (fun o s₁ h₁=>wpAny_mono h₁ (fun i s₂ K=>?_) fun _ _ x=>x) fun _ _ x=>x);obtain⟨hT,K⟩:=K;unfold subscriptTail;refine wpAny_bind ?_;rw[getitemInPython_of_ne hT.not_modules];refine wpAny_bind (wpAny_specialOf hT hl ?_);have fin:wpAny (model prog w) A (subscripted slice false o i) (fun r s₃=>wpAny (model prog w) A (letTemporaryGo value o r >>= fun _=>pure r) Q E s₃) E s₂:=by
  rw[hs o i];exact wpAny_operating (wpAny_mono K (fun r s₃ h₃=>wpAny_bind (wpAny_letTemporaryGo (wpAny_pure h₃))) fun _ _ x=>x)
 first
  |exact wpAny_pure (wpAny_bind fin)
  |exact wpAny_bind (wpAny_pure (wpAny_bind fin))
  |exact wpAny_bind fin
theorem ph {X:Cx}{pins:List (Addr×Obj)}{σ:St}{H:Hp}{s:Shared}{a:Addr}{y:V}{o:Option V}(I:Inv X pins σ H s)(g:zJ H a y o):s.TypeIs (.ref a) "dict" :=by
 rcases g with ⟨kvs,k,e,_,_⟩|⟨kvs,k,b,e,_,_,_⟩
 ·obtain⟨_,_,vs,_,dd⟩:=uJ I.hok e;exact dd.typeIs
 ·obtain⟨_,_,xs,_,dd⟩:=uN I.hok e;exact dd.typeIs
noncomputable def zE (td ty:TE):TE:=fun σ H Q=>td σ H fun x H1=>ty σ H1 fun y H2=>∃a v,x= .ref a∧zJ H2 a y (some v)∧Q v H2
noncomputable def CU (td ty tv:TE):TS:=fun D σ H=>tv σ H fun v H1=>td σ H1 fun x H2=>ty σ H2 fun y H3=>∃a H4,x= .ref a∧BH H3 a y v H4∧D.nx σ H4
section
variable{X:Cx}{o i e value:Expr}{pos pos' tpos:Pos}{td ty tv:TE}
theorem sy (hu:X.A.units+1<cLine)(ho:PE X o td)(hi:PE X i ty)(hs:xm i):PE X (.Subscript o i pos) (zE td ty):=by
 intro pins s σ H Q I h;refine zb PySem.F.slot_dict_getitem.lookup hs (aE (ho pins s σ H _ I h) fun u s1 ⟨x,H1,I1,rx,q1⟩=>aE (hi pins s1 σ H1 _ I1 q1) fun iv s2 hZ68=>?_);obtain⟨y,H2,I2,ry,a,v,ex,g,q2⟩:=hZ68;subst ex;obtain rfl:u=Value.ref a:=rx;exact⟨ph I2 g,tu hu I2 g ry fun w' s3 I3 rw'=>⟨v,H2,I3,rw',q2⟩⟩
theorem yU (hu:X.A.units+1<cLine)(ho:PE X o td)(hi:PE X i ty)(hv:PE X value tv)(hs:swapsWith value (some (.Subscript o i pos')) pos.line X.env=pure false) :
  PS X (.Assign [.Subscript o i pos'] value pos) (CU td ty tv):=by
 intro w s σ H D I h;refine wpAny_Assign_Subscript (aE (hv w s σ H _ I h) fun r s1 ⟨v,H1,I1,rv,q1⟩=>aE (ho w s1 σ H1 _ I1 q1) fun u s2 ⟨x,H2,I2,rx,q2⟩=>aE (hi w s2 σ H2 _ I2 q2) fun iv s3 hZ71=>?_) hs;obtain⟨y,H3,I3,ry,a,H4,ex,g,q3⟩:=hZ71;subst ex;obtain rfl:u=Value.ref a:=rx;exact tw hu I3 g ry rv fun s4 I4=>⟨σ,H4,I4,q3⟩
end
theorem uM {P:Program}{w:World}{H:Hp}(h:Heap)(hb:sysModules<h.objs.size):ObjOk P w H (h.push {cls:=.type "dict",data:=.dict #[]}) h.objs.size (.dT []):=
 ⟨zero_le _,beq_eq_false_iff_ne.mpr (Ne.symm (ne_of_lt hb)),[],.nil,_,#[],0,Heap.get?_push_size _ rfl,⟨rfl,rfl,rfl⟩,rfl,rfl,nodup_nil⟩
noncomputable def Bt:TE:=fun _ H Q=>∀p,H p=none→Q (.ref p) (aS H p (.dT []))
section
variable{X:Cx}{pos:Pos}
theorem vZ:PE X (.Dict [] [] pos) Bt:=fun pins s σ H Q I h=>
 wpAny_Dict_empty ⟨.ref s.heap.objs.size,_,I.laid (a:=s.heap.objs.size) (o:=.dT []) (t':=s.toks) (fun _ _ q=>Heap.get?_push_of_some _ q) (le_refl _) (uM s.heap I.big),rfl,h _ (I.hok.fresh (le_refl _))⟩
end
section
variable{X:Cx}{pins:List (Addr×Obj)}{σ:St}{H:Hp}{s:Shared}{a:Addr}{y d:V}{u r:Value}{o:Option V}{A:Around}{E:Value→Shared→Prop}
end
section
variable{X:Cx}{o e f:Expr}{apos cpos:Pos}{td ty tx:TE}
end
section
variable{X:Cx}{pins:List (Addr×Obj)}{σ:St}{H:Hp}{s:Shared}{a:Addr}{kvs:List (aV×V)}{A:Around}{E:Value→Shared→Prop}
end
section
variable{X:Cx}{pins:List (Addr×Obj)}{σ:St}{H:Hp}{s:Shared}{a:Addr}{y:V}{u:Value}{A:Around}{E:Value→Shared→Prop}
end
end L2
namespace Att
open PySem PySem.W PySem.Calls PyProof.Rows
section
variable{prog:Program}{w:World}{A:Around}{E:Value→Shared→Prop}{s:Shared}{K:Frag}
end
end Att
namespace L2
open PySem PySem.Spec PyProof.Rows
section
variable{P:Program}{w:World}{K:W.Frag}{mg:Str→Option Value}{base:Heap}
end
section
variable{X:Cx}
end
section
variable{κ:Type}[DecidableEq κ]
end
theorem Un.onto {fs:List Addr}{H H':Hp}{h h1 h2:Heap}(u:Un fs [] H H' h h1)
  (k:∀b o,h1.get? b=some o→b∉fs→(∃o',h.get? b=some o')→h2.get? b=some o)
  (sl:∀b o,h1.get? b=some o→b∈fs→(∃o',h.get? b=some o')→∃s,h2.get? b=some {o with slots:=s}):Un fs [] H H' h h2 where
 keep:=fun b o e n hb hx=>k b o (u.keep b o e n hb hx) hb ⟨o,e⟩
 slot:=fun b o e n hb hx=>by
  obtain⟨s1,e1⟩:=u.slot b o e n hb hx;obtain⟨s2,e2⟩:=sl b _ e1 hb ⟨o,e⟩;exact⟨s2,e2⟩
 free:=u.free
 there:=fun b o e hx=>by
  obtain⟨o',e'⟩:=u.there b o e hx;by_cases hb:b∈fs
  ·obtain⟨s,z⟩:=sl b o' e' hb ⟨o,e⟩;exact⟨_,z⟩
  ·exact⟨o',k b o' e' hb ⟨o,e⟩⟩
 tups:=u.tups
 frzs:=u.frzs
 tbls:=u.tbls
theorem HOk.onto {P:Program}{w:World}{H:Hp}{h1 h2:Heap}(x:HOk P w H h1)(k:∀b o u,H b=some u→h1.get? b=some o→h2.get? b=some o):HOk P w H h2:=fun a o e=>
 (x a o e).stay (fun b u hb q=>by
  rcases hb with rfl|hb
  ·exact k b u _ e q
  ·exact k b u _ hb q) (fun _ q=>q) fun _ _ q=>q
theorem ObjOk.at {P:Program}{w:World}{H:Hp}{h:Heap}{a:Addr}{o:HO}(x:ObjOk P w H h a o):∃ob,h.get? a=some ob:=by
 cases o with
 |lst xs=>obtain⟨_,_,_,_,e⟩:=x;exact⟨_,e⟩
 |tup xs=>obtain⟨_,_,_,p⟩:=x;obtain⟨o,e,_⟩:=p;exact⟨o,e⟩
 |dK kvs=>obtain⟨_,_,_,_,o,_,_,e,_⟩:=x;exact⟨o,e⟩
 |dT kvs=>obtain⟨_,_,_,_,o,_,_,e,_⟩:=x;exact⟨o,e⟩
 |set S n=>obtain⟨o,_,_,_,e,_⟩:=x;exact⟨o,e⟩
 |ins C dx fs=>obtain⟨_,_,_,e,_⟩:=x;exact⟨_,e⟩
 |own y=>exact x
 |xd fs=>obtain⟨_,⟨o,_,_,e,_⟩,_⟩:=x;exact⟨o,e⟩
 |rng lo hi=>obtain⟨_,_,_,e⟩:=x;exact⟨_,e⟩
 |frz ob u=>obtain⟨e,_⟩:=x;exact⟨ob,e⟩
 |tbl ps=>exact⟨_,(show h.get? a=some _ from x)⟩
 |met f y=>exact⟨_,(show h.get? a=some _ from x)⟩
 |ext φ=>obtain⟨_,e,_⟩:=x;exact e
inductive CXF (P:Program)(w:World)(outer:List Env)(H:Hp)(s:Shared)(E:XK)(ev:Value)(s':Shared):Prop
 |mk (e:Addr) (cls a0:Value) (B:Heap) (H':Hp) (h1:ev= .ref e) (h2:s'.os=s.os) (h3:AllBare s'.gens)
  (h4:Un (dN outer) [] H H' s.heap s'.heap) (h5:HOk P w H' s'.heap) (h6:Heap.FlyingW B outer e cls a0 s'.heap)
  (h7:∀b o,s'.heap.get? b=some o→b∉dN outer→((∃u,H' b=some u)∨∃o',s.heap.get? b=some o')→B.get? b=some o)
  (h8:H' e=none) (h9:s.heap.get? e=none) (q:E cls none H')
section
variable{X:Cx}{pins:List (Addr×Obj)}{σ:St}{H:Hp}{s:Shared}
theorem Inv.noFields (I:Inv X pins σ H s){b:Addr}(hb:b∈dN X.stack){o:Obj}(e:s.heap.get? b=some o):∀vs,o.data≠ .fields vs:=by
 obtain⟨_,o',e',h⟩:=I.stack.mem hb;rw[e]at e';cases e';exact h
theorem gn {P:Program}{w:World}{K:W.Frag}{mg:Str→Option Value}{base:Heap}{N:List Str}{qual:Str}{scope:Scope}{f:Addr}{cd:Value}{A:Around}{outer:List Env}{s₀:Shared}{H₀:Hp}{E E':XK}
  (he:∀c a H,E' c a H→E c a H) :
  bZ (CXF P w) (lP (CXF P w) P w K mg base N qual scope f cd A outer s₀ H₀ E) E':=by
 intro pins σ H s ev s' I h;obtain⟨e,cls,a0,B,H',rfl,os,bare,un,hok,fl,cov,hn,hs,q⟩:=h;have T:∀{b:Addr} {o:Obj},s₀.heap.get? b=some o→b≠s₀.heap.objs.size:=fun e=>ne_of_lt (Heap.lt_size e);have L:dN (envOfC qual scope s₀.heap.objs.size f cd::outer)=s₀.heap.objs.size::dN outer:=rfl;have hfr:∀b∈dN (envOfC qual scope s₀.heap.objs.size f cd::outer),∀o,s'.heap.get? b=some o→∀vs,o.data≠ .fields vs:=fun b p o eo=>by
  obtain⟨_,o',e',h⟩:=fl.2.2.1.mem p;rw[eo]at e';cases e';exact h
 have Ib:=I.base;have S:∀b:Addr,b∉(lP (CXF P w) P w K mg base N qual scope f cd A outer s₀ H₀ E).ex:=fun b z=>absurd (show b∈([]:List Addr) from z) (by simp);have nL:H' s₀.heap.objs.size=none:=by
  obtain⟨m,⟨o,_,_,ho,_⟩,_⟩:=I.loc;exact un.free _ o ho I.free (by simp)
 show wpAny _ _ (leaving _ (.ref e)) _ _ s';refine wpAny_leaves_onW (base:=B) I.ok.frames rfl fl fun h2 fl2 up=>?_;have M:∀b o,s'.heap.get? b=some o→b∉dN outer→b≠s₀.heap.objs.size→((∃u,H' b=some u)∨∃o',s.heap.get? b=some o')→h2.get? b=some o:=fun b o i nb nl hh=>
  fl2.1 b o (cov b o i (by show b∉s₀.heap.objs.size::dN outer;simp[nl,nb]) hh)
 have U:∀b o,s'.heap.get? b=some o→b∈dN outer→∃sl,h2.get? b=some {o with slots:=sl}:=fun b o i p=>
  up b o i (hfr b (by rw[L];exact dQ p) o i)
 have Q:∀b o,s₀.heap.get? b=some o→∃R,s.heap.get? b=some R:=fun b o O=>Ib.there b o O (S b);have hUn:Un (dN outer) [] H₀ H' s₀.heap h2:={
  keep:=fun b o O n p _=>by
   have i:=Ib.keep b o O n p (S b);have n1:=Ib.free b o O n (S b);have hb2:b∉dN (envOfC qual scope s₀.heap.objs.size f cd::outer):=by rw[L];simp[T O,p]
   exact M b o (un.keep b o i n1 hb2 (by simp)) p (T O) (.inr ⟨o,i⟩)
  slot:=fun b o O n p _=>by
   obtain⟨s1,i⟩:=Ib.slot b o O n p (S b);have n1:=Ib.free b o O n (S b);obtain⟨s2,r⟩:=un.any i n1 (by simp);obtain⟨s3,e3⟩:=U b _ r p;exact⟨s3,e3⟩
  free:=fun b o O n _=>by
   obtain⟨R,i⟩:=Q b o O;exact un.free b R i (Ib.free b o O n (S b)) (by simp)
  there:=fun b o O _=>by
   obtain⟨R,i⟩:=Q b o O;obtain⟨o2,r⟩:=un.there b R i (by simp);by_cases p:b∈dN outer
   ·obtain⟨s3,e3⟩:=U b o2 r p;exact⟨_,e3⟩
   ·exact⟨o2,M b o2 r p (T O) (.inr ⟨R,i⟩)⟩
  tups:=fun b xs q=>un.tups b xs (Ib.tups b xs q)
  frzs:=fun b o u q=>un.frzs b o u (Ib.frzs b o u q)
  tbls:=fun b ps q=>by
   obtain⟨m1,i⟩:=Ib.tbls b ps q;obtain⟨m2,r⟩:=un.tbls b _ i;exact⟨m1 ++ m2,by rw[r,Array.append_assoc]⟩}
 have frf':∀b u,H' b=some u→b∉dN outer∧b≠s₀.heap.objs.size:=fun b u i=>by
  refine⟨fun p=>?_,fun z=>by rw[z,nL]at i;cases i⟩;have n0:H b=none:=I.stkFree b (by show b∈dN (envOfC qual scope s₀.heap.objs.size f cd::outer);rw[L];exact dQ p);obtain⟨_,o,eo,_⟩:=I.stack.mem (show b∈dN (envOfC qual scope s₀.heap.objs.size f cd::outer) by rw[L];exact dQ p);rw[un.free b o eo n0 (by simp)]at i;cases i
 have hok2:HOk P w H' h2:=hok.onto fun b o u p eo=>M b o eo (frf' b u p).1 (frf' b u p).2 (.inl ⟨u,p⟩);have cov2:∀b o,h2.get? b=some o→b∉dN outer→((∃u,H' b=some u)∨∃o',s₀.heap.get? b=some o')→B.get? b=some o:=fun b o r p hh=>by
  rcases hh with ⟨u,hu⟩|⟨o0,O⟩
  ·obtain⟨R,i⟩:=(hok b u hu).at;have z:=M b R i (frf' b u hu).1 (frf' b u hu).2 (.inl ⟨u,hu⟩);rw[r]at z;cases z;exact cov b o i (by show b∉s₀.heap.objs.size::dN outer;simp[p,(frf' b u hu).2]) (.inl ⟨u,hu⟩)
  ·obtain⟨R,i⟩:=Q b o0 O;obtain⟨o2,e3⟩:=un.there b R i (by simp);have z:=M b o2 e3 p (T O) (.inr ⟨R,i⟩);rw[r]at z;cases z;exact cov b o e3 (by show b∉s₀.heap.objs.size::dN outer;simp[p,T O]) (.inr ⟨R,i⟩)
 refine⟨e,cls,a0,B,H',rfl,os.trans I.os,bare,hUn,hok2,fl2,cov2,hn,?_,he _ _ _ q⟩;cases z:s₀.heap.get? e with
 |none=>rfl
 |some o=>
  obtain⟨R,i⟩:=Q e o z;rw[hs]at i;cases i
end
abbrev BS:List Value:=[.type "ValueError",.type "Exception",.type "BaseException",.type "object"]
inductive ExIn (K:W.Frag)(C:Addr):Prop
 |mk (bm:List Value) (N:Addr) (nm q:Str) (bs:List Value) (hd:Bool) (sn:List Str) (sub:List Value) (ab:Bool) (col:Option Bool) (dd:Option Addr) (k0 k1 k2 k3 k5:Option Value) (l:K.lookup C=some (excClassObj nm q C N bs bm hd sn sub ab col dd k0 k1 k2 k3 k5 "ValueError.__new__")) (ok:W.nsOkIn K N=true) (ni:W.nsIn K N "__init__" =some none) (ht:W.tailIn K BS bm=true)
structure ExcC (K:W.Frag)(mg:Str→Option Value)(x:Str)(C:Addr):Prop where
 mgx:mg x=some (.ref C)
 ein:ExIn K C
theorem x_ {K:W.Frag}{C:Addr}{h₀:Heap}(X:K.In h₀):ExIn K C→
  ∃bm N nm q bs hdct sn sub ab col dd k0 k1 k2 k3 k5 mN,h₀.get? C=some (excClassObj nm q C N bs bm hdct sn sub ab col dd k0 k1 k2 k3 k5 "ValueError.__new__")∧h₀.Ns N mN∧mN "__init__" =none∧OwnTail h₀ BS bm
 |⟨bm,N,nm,q,bs,hd,sn,sub,ab,col,dd,k0,k1,k2,k3,k5,l,ok,ni,ht⟩=>⟨bm,N,nm,q,bs,hd,sn,sub,ab,col,dd,k0,k1,k2,k3,k5,_,X _ _ l,.of_isNs (W.isNs_of_in X ok),W.nsMap_none_of_in X ok ni,W.tail_of_in X ht⟩
noncomputable def il (X:Cx)(E:XK):Prop:=∀(pins:List (Addr×Obj)) (σ:St) (H:Hp) (s:Shared) (e C:Addr) (h':Heap) (args:List Value),Inv X pins σ H s→Heap.MadeExcOf s.heap h' e (.ref C) args→E (.ref C) none H→X.xe (.ref e) {s with heap:=h'}
theorem mG {P:Program}{w:World}{K:W.Frag}{mg:Str→Option Value}{base:Heap}{N:List Str}{qual:Str}{scope:Scope}{f:Addr}{cd:Value}{A:Around}{outer:List Env}{s₀:Shared}{H₀:Hp}{E E':XK}
  (he:∀c a H,E' c a H→E c a H):il (lP (CXF P w) P w K mg base N qual scope f cd A outer s₀ H₀ E) E':=by
 intro pins σ H s e C h' args I hx q;have L:dN (envOfC qual scope s₀.heap.objs.size f cd::outer)=s₀.heap.objs.size::dN outer:=rfl;have hin:∀env∈(envOfC qual scope s₀.heap.objs.size f cd::outer),∀b,env.frame=some b→b∈dN (envOfC qual scope s₀.heap.objs.size f cd::outer):=fun env he b p=>mem_filterMap.mpr ⟨env,he,p⟩;have R:∀b:Addr,b∉(lP (CXF P w) P w K mg base N qual scope f cd A outer s₀ H₀ E).ex:=fun b z=>absurd (show b∈([]:List Addr) from z) (by simp);have hlt:∀{b:Addr} {o:Obj},s₀.heap.get? b=some o→b≠s₀.heap.objs.size:=fun e=>ne_of_lt (Heap.lt_size e);have Ib:=I.base;show wpAny _ _ (leaving _ (.ref e)) _ _ _;refine wpAny_leaves_madeW (base:=W.hideAll s.heap (dN (envOfC qual scope s₀.heap.objs.size f cd::outer))) (h:=s.heap) (s:={s with heap:=h'}) I.ok.frames rfl (fun b o q=>W.of_hideAll _ q) (W.funFrames_hide I.stack hin) hx fun h2 t fl tup tn up=>?_
 have M:∀b o,s.heap.get? b=some o→b∉dN outer→b≠s₀.heap.objs.size→h2.get? b=some o:=fun b o i nb nl=>
  fl.1 b o (W.hideAll_get _ i (by rw[L];simp[nl,nb]))
 have S:∀b o,s.heap.get? b=some o→b∈dN outer→∃sl,h2.get? b=some {o with slots:=sl}:=fun b o i p=>
  up b o (hx.keeps b o i) (I.noFields (show b∈dN (envOfC qual scope s₀.heap.objs.size f cd::outer) by rw[L];exact dQ p) i)
 have frf':∀b u,H b=some u→b∉dN outer∧b≠s₀.heap.objs.size:=fun b u i=>by
  refine⟨fun p=>?_,fun z=>?_⟩
  ·rw[I.stkFree b (show b∈dN (envOfC qual scope s₀.heap.objs.size f cd::outer) by rw[L];exact dQ p)]at i;cases i
  ·rw[z,show H s₀.heap.objs.size=none from I.free]at i;cases i
 refine⟨e,.ref C,.ref t,_,H,rfl,I.os,I.bare,?_,?_,fl,?_,?_,?_,he _ _ _ q⟩
 ·exact {
   keep:=fun b o O n p _=>M b o (Ib.keep b o O n p (R b)) p (hlt O)
   slot:=fun b o O n p _=>by
    obtain⟨s1,i⟩:=Ib.slot b o O n p (R b);obtain⟨s2,e2⟩:=S b _ i p;exact⟨s2,e2⟩
   free:=fun b o O n _=>Ib.free b o O n (R b)
   there:=fun b o O _=>by
    obtain⟨Q,i⟩:=Ib.there b o O (R b);by_cases p:b∈dN outer
    ·obtain⟨s3,e3⟩:=S b Q i p;exact⟨_,e3⟩
    ·exact⟨Q,M b Q i p (hlt O)⟩
   tups:=Ib.tups
   frzs:=Ib.frzs
   tbls:=Ib.tbls}
 ·exact I.hok.onto fun b o u p eo=>M b o eo (frf' b u p).1 (frf' b u p).2
 ·intro b o e2 p hh;have main:∀Q,s.heap.get? b=some Q→b≠s₀.heap.objs.size→(W.hideAll s.heap (dN (envOfC qual scope s₀.heap.objs.size f cd::outer))).get? b=some o:=fun Q i nl=>by
   have z:=M b Q i p nl;rw[e2]at z;cases z;exact W.hideAll_get _ i (by rw[L];simp[nl,p])
  rcases hh with ⟨u,hu⟩|⟨o0,O⟩
  ·obtain⟨Q,i⟩:=(I.hok b u hu).at;exact main Q i (frf' b u hu).2
  ·obtain⟨Q,i⟩:=Ib.there b o0 O (R b);exact main Q i (hlt O)
 ·cases z:H e with
  |none=>rfl
  |some u=>
   obtain⟨Q,i⟩:=(I.hok e u z).at;rw[hx.new]at i;cases i
 ·cases z:s₀.heap.get? e with
  |none=>rfl
  |some o=>
   obtain⟨Q,i⟩:=Ib.there e o z (R e);rw[hx.new]at i;cases i
section
variable{X:Cx}
noncomputable def Bu (t:TA)(C:Addr)(E:XK):TS:=fun _ σ H=>t σ H fun vs H1=>vs.length≤sizeLine∧E (.ref C) none H1
theorem wy {x:Str}{np cpos pos:Pos}{e:Expr}{es:List Expr}{t:TA}{C:Addr}{E:XK}(hR:il X E)(hc:X.calm=true)(G:ExcC X.K X.mg x C)(hg:Gl X x)(ha:PA X (e::es) t)
  (he:starEach (e::es) X.env=(false,eval e X.env)::starEach es X.env:=by rfl) (hpl:(backTo cpos (starEach es X.env)).any (·.1)=false:=by rfl) (hdb:(x==("__debug__" :Str))=false:=by decide) :
  PS X (.Raise (some (.Call (.Name x np) (e::es) [] cpos)) none pos) (Bu t C E):=by
 intro pins s σ H D I h;obtain⟨tl,N,nm,q,bs,hdct,sn,sub,ab,col,dd,k0,k1,k2,k3,k5,mN,hC,hN,hni,T⟩:=x_ I.ok.mod.kin G.ein;refine wpAny_Raise_call_subT (C:=C) (nm:=nm) (q:=q) (N:=N) (bs:=bs) (bm:=tl) (hdct:=hdct) (sn:=sn) (sub:=sub) (ab:=ab) (col:=col) (dd:=dd) (k0:=k0) (k1:=k1) (k2:=k2) (k3:=k3) (k5:=k5)
  PySem.F.excBase_ValueError (mN:=mN) (T.hasType PySem.F.excBase_ValueError.hasBase) (I.ok.hd hc) (by rw[he];show (false||(backTo cpos (starEach es X.env)).any (·.1))=false;rw[hpl];rfl) hni (fL I hg G.mgx ⟨rfl,?_⟩ hdb)
 have h2:=ha cpos pins s σ H _ I h;rw[he]at h2 ⊢;exact Calls.evalArgs_plain (wpAny_mono h2 (fun us s₂ hZ72=>(by obtain⟨vs,H1,I1,r,q1,q2⟩:=hZ72;exact⟨rfl,by rw[←r.length];exact q1,I1.bk _ _ hC,hN.keeps I1.bk,T.keeps I1.bk,fun h' e hm=>hR pins σ H1 s₂ e C h' us I1 hm q2⟩)) fun _ _ y=>y)
end
section
variable{X:Cx}{pins:List (Addr×Obj)}{σ:St}{H H':Hp}{s:Shared}
noncomputable abbrev Cv (X:Cx):St:=replicate X.N.length none
theorem Inv.forget (I:Inv X pins σ H s){h':Heap}{m':Str→Option Value}{t':Nat}(hs:Heap.SameBut X.env.locals s.heap h')(hn:h'.Ns X.env.locals m'):Inv X pins (Cv X) H {s with heap:=h',toks:=t'}:=by
 have ne:∀{b:Addr} {o:Obj},X.s₀.heap.get? b=some o→b≠X.env.locals:=fun e=>ne_of_lt (lt_of_lt_of_le (Heap.lt_size e) I.ok.above);refine⟨I.ok,I.os,I.bare,⟨fun b o e n hb hx=>(hs.2 b (ne e)).trans (I.base.keep b o e n hb hx),fun b o e n hb hx=>?_,I.base.free,fun b o e hx=>?_,I.base.tups,I.base.frzs,I.base.tbls⟩,⟨m',hn,fun j y v e1 e2 e3=>?_⟩,fun y c e=>?_,I.free,I.freeC,fun p hp=>?_,?_,by simp[Cv]⟩
 ·obtain⟨sl,e1⟩:=I.base.slot b o e n hb hx;exact⟨sl,(hs.2 b (ne e)).trans e1⟩
 ·obtain⟨o',e1⟩:=I.base.there b o e hx;exact⟨o',(hs.2 b (ne e)).trans e1⟩
 ·rw[getElem?_replicate]at e2;split at e2 <;> cases e2
 ·obtain⟨w',z⟩:=I.cell y c e;exact⟨w',z.sameBut hs (I.cne y c e)⟩
 ·obtain⟨e,n,nl,nf,d⟩:=I.pin p hp;exact⟨(hs.2 p.1 nl).trans e,n,nl,nf,d⟩
 ·exact I.hok.onto fun b o u hb eo=>(hs.2 b fun z=>by rw[z,I.free]at hb;cases hb).trans eo
noncomputable abbrev Cx.inH (X:Cx)(e:Addr)(E:Value→Shared→Prop):Cx:={X with A:=X.A.mark (some (.ref e)),calm:=false,xe:=E}
theorem Cx.Ok.inH (ok:X.Ok)(e:Addr)(E:Value→Shared→Prop):(X.inH e E).Ok:=
 ⟨ok.mod,ok.kind,ok.glob,ok.blt,ok.above,ok.inj,ok.has,ok.cab,fun z=>Bool.noConfusion z,ok.frames,ok.stk,ok.exf,ok.bs,ok.bsz,ok.noex,ok.exfs,ok.funs,ok.frf⟩
theorem Inv.inH (I:Inv X pins σ H s)(e:Addr)(E:Value→Shared→Prop):Inv (X.inH e E) pins σ H s:=⟨I.ok.inH e E,I.os,I.bare,I.base,I.loc,I.cell,I.free,I.freeC,I.pin,I.hok,I.len⟩
theorem Inv.outH {e:Addr}{E:Value→Shared→Prop}(ok:X.Ok)(I:Inv (X.inH e E) pins σ H s):Inv X pins σ H s:=⟨ok,I.os,I.bare,I.base,I.loc,I.cell,I.free,I.freeC,I.pin,I.hok,I.len⟩
noncomputable abbrev Cx.tr (X:Cx)(E:Value→Shared→Prop)(pn:List (Addr×Obj)):Cx:={X with xe:=E,pn:=pn}
theorem Cx.Ok.tr (ok:X.Ok)(E:Value→Shared→Prop)(pn:List (Addr×Obj)):(X.tr E pn).Ok:=
 ⟨ok.mod,ok.kind,ok.glob,ok.blt,ok.above,ok.inj,ok.has,ok.cab,ok.hd,ok.frames,ok.stk,ok.exf,ok.bs,ok.bsz,ok.noex,ok.exfs,ok.funs,ok.frf⟩
theorem Inv.tr (I:Inv X pins σ H s)(E:Value→Shared→Prop):Inv (X.tr E (X.pn ++ pins)) [] σ H s:=⟨I.ok.tr E _,I.os,I.bare,I.base,I.loc,I.cell,I.free,I.freeC,fun p hp=>I.pin p (by rwa[append_nil]at hp),I.hok,I.len⟩
theorem Inv.untr {pins':List (Addr×Obj)}{E:Value→Shared→Prop}(ok:X.Ok)(I:Inv (X.tr E (X.pn ++ pins)) pins' σ H s):Inv X pins σ H s:=⟨ok,I.os,I.bare,I.base,I.loc,I.cell,I.free,I.freeC,fun p hp=>I.pin p (mem_append_left _ hp),I.hok,I.len⟩
noncomputable def jS (e:Addr)(cls:Value):HO:=.ext fun h=>∃o,h.get? e=some o∧o.cls=cls
theorem Inv.landed {E:XK}{ev:Value}{s':Shared}(I:Inv X pins σ H s)(h:CXF X.prog X.w X.stack H s E ev s') :
  ∃(e:Addr) (cls a0:Value) (B:Heap) (H':Hp),ev= .ref e∧Heap.FlyingW B X.stack e cls a0 s'.heap∧H' e=Option.none∧E cls Option.none H'∧
   ∀(h2:Heap) (t2:Nat),Heap.FlyingW B X.stack e cls a0 h2→s'.heap.UpToSlots h2→Inv X pins σ (aS H' e (jS e cls)) {s' with heap:=h2,toks:=t2}∧Inv X pins σ H' {s' with heap:=h2,toks:=t2}:=by
 obtain⟨e,cls,a0,B,H',rfl,os,bare,un,hok,fl,cov,hn,hs,q⟩:=h;refine⟨e,cls,a0,B,H',rfl,fl,hn,q,fun h2 t2 fl2 up=>?_⟩;have hfr:∀b∈dN X.stack,∀o,s'.heap.get? b=some o→∀vs,o.data≠ .fields vs:=fun b p o eo=>by
  obtain⟨_,o',e',h⟩:=fl.2.2.1.mem p;rw[eo]at e';cases e';exact h
 have nfr:∀b u,H' b=some u→b∉dN X.stack:=fun b u i p=>by
  obtain⟨_,o,eo,_⟩:=I.stack.mem p;rw[un.free b o eo (I.stkFree b p) (by simp)]at i;cases i
 have T:Un (dN X.stack) [] H H' s.heap h2:=un.onto (fun b o i nb hh=>fl2.1 b o (cov b o i nb (.inr hh))) fun b o i p _=>up b o i (hfr b p o i);have hok2:HOk X.prog X.w H' h2:=hok.onto fun b o u hu i=>fl2.1 b o (cov b o i (nfr b u hu) (.inl ⟨u,hu⟩));have I2:Inv X pins σ H' {s' with heap:=h2,toks:=t2}:=I.call' (ch:=[]) os T hok2 bare (fun b z=>absurd z (by simp))
 obtain⟨ob,hob,hcl⟩:=fl2.there;refine⟨?_,I2⟩;have new:ObjOk X.prog X.w (aS H' e (jS e cls)) h2 e (jS e cls):=⟨⟨ob,hob,hcl⟩,⟨ob,hob⟩,fun h1 h2 ⟨o,a,b⟩ k=>⟨o,k o a,b⟩⟩;have hok3:HOk X.prog X.w (aS H' e (jS e cls)) h2:=fun b u eb=>by
  by_cases p:b=e
  ·subst p;rw[ao]at eb;cases eb;exact new
  ·rw[ai p]at eb;exact(hok2 b u eb).stay (fun c v _ q=>q) (fun c q=>by rw[ai (ap q hn)];exact q) fun c xs q=>by rw[ai (ap q hn)];exact q
 have un3:Un (dN X.stack) [] H (aS H' e (jS e cls)) s.heap h2:={
  keep:=T.keep,slot:=T.slot,there:=T.there
  free:=fun b o i n hx=>by
   have nb:b≠e:=fun z=>by rw[z,hs]at i;cases i
   rw[ai nb];exact T.free b o i n hx
  tups:=fun b xs q=>by
   have z:=T.tups b xs q;rw[ai (ap z hn)];exact z
  frzs:=fun b o u q=>by
   have z:=T.frzs b o u q;rw[ai (ap z hn)];exact z
  tbls:=fun b ps q=>by
   obtain⟨m,z⟩:=T.tbls b ps q;exact⟨m,by rw[ai (ap z hn)];exact z⟩}
 exact I.call' (ch:=[]) os un3 hok3 bare (fun b z=>absurd z (by simp))
end
noncomputable def cE:Addr→List (Str×NameKind)→List (Str×Addr)→List (Str×Addr)
 |_,[],cs=>cs
 |k,(n,kd)::r,cs=>if (kd==.cell)=true then cE (k+1) r ((n,k)::cs) else cE k r cs
theorem cS {α:Type}{x:Str}{c:α}:∀{l:List (Str×α)},l.lookup x=some c→(x,c)∈l
 | [],h=>by simp at h
 |(n,d)::r,h=>by
  rw[lookup_cons]at h;split at h
  ·rename_i hy;cases h;have hy':x=n:=by simpa using hy
   rw[hy'];exact mem_cons_self
  ·exact dQ (cS h)
theorem kL:∀{l:List (Str×NameKind)} {k:Addr} {cs:List (Str×Addr)},(∀p∈cs,p.2<k)→(∀x y c,(x,c)∈cs→(y,c)∈cs→x=y)→∀x y c,(x,c)∈cE k l cs→(y,c)∈cE k l cs→x=y
 | [],_,_,_,h=>h
 |(n,kd)::r,k,cs,h1,h2=>by
  unfold cE;split
  ·refine kL (fun p hp=>?_) fun x y c hx hy=>?_
   ·rcases mem_cons.mp hp with e|e
    ·rw[e];exact lt_succ_self _
    ·exact lt_succ_of_lt (h1 p e)
   ·rcases mem_cons.mp hx with e|e <;> rcases mem_cons.mp hy with f|f
    ·cases e;cases f;rfl
    ·cases e;exact absurd (h1 _ f) (lt_irrefl _)
    ·cases f;exact absurd (h1 _ e) (lt_irrefl _)
    ·exact h2 x y c e f
  ·exact kL h1 h2
theorem g0 {x:Str}:∀{l:List (Str×NameKind)} {k:Addr} {cs:List (Str×Addr)},(∃c,cs.lookup x=some c)→∃c,(cE k l cs).lookup x=some c
 | [],_,_,h=>h
 |(n,kd)::r,k,cs,h=>by
  unfold cE;split
  ·refine g0 ?_;rw[lookup_cons];split
   ·exact⟨_,rfl⟩
   ·exact h
  ·exact g0 h
theorem pb {x:Str}:∀{l:List (Str×NameKind)} {k:Addr} {cs:List (Str×Addr)},(x,NameKind.cell)∈l→∃c,(cE k l cs).lookup x=some c
 |(n,kd)::r,k,cs,h=>by
  unfold cE
  rcases mem_cons.mp h with e|e
  ·cases e;rw[if_pos (beq_self_eq_true _)];exact g0 ⟨k,by rw[lookup_cons];simp⟩
  ·split <;> exact pb e
theorem kM {x:Str}:∀{l:List (Str×NameKind)} {k:Addr} {cs:List (Str×Addr)},(x,NameKind.cell)∉l→(cE k l cs).lookup x=cs.lookup x
 | [],_,_,_=>rfl
 |(n,kd)::r,k,cs,h=>by
  have hr:(x,NameKind.cell)∉r:=fun z=>h (dQ z);unfold cE;split
  ·rename_i hk;have hk':kd= .cell:=by simpa using hk
   rw[kM hr,lookup_cons];have hne:(x==n)=false:=beq_eq_false_iff_ne.mpr fun z=>h (by rw[z,hk'];exact mem_cons_self);rw[hne]
  ·exact kM hr
section
variable{M:Model}{A:Around}{E:Value→Shared→Prop}
theorem ir:∀(l:List (Str×NameKind)) (cs:List (Str×Addr)) (s:Shared) (Q:List (Str×Addr)→Shared→Prop),
  (∀h':Heap,(∀b o,s.heap.get? b=some o→h'.get? b=some o)→(∀x c,(x,c)∈cE s.heap.objs.size l cs→(x,c)∈cs∨(s.heap.objs.size≤c∧∃v,h'.IsCell c v))→Q (cE s.heap.objs.size l cs) {s with heap:=h'})→
  wpAny M A (forIn l cs fun x r=>if (x.2==NameKind.cell)=true then do let a ←alloc {cls:=.type "cell",data:=.cell none};pure (ForInStep.yield ((x.1,a)::r)) else pure (ForInStep.yield r):Sem (List (Str×Addr))) Q E s
 | [],cs,s,Q,h=>wpAny_pure (h s.heap (fun _ _ e=>e) fun x c hx=>.inl hx)
 |(n,kd)::r,cs,s,Q,h=>by
  rw[List.forIn_cons];by_cases hk:(kd==NameKind.cell)=true
  ·simp only[hk,if_true];refine wpAny_bind (wpAny_bind (wpAny_alloc (wpAny_pure (ir r _ _ Q fun h' k1 k2=>?_))));have hs:(s.heap.push {cls:=.type "cell",data:=.cell none}).objs.size=s.heap.objs.size+1:=Heap.size_push ..;have e:cE s.heap.objs.size ((n,kd)::r) cs=cE (s.heap.objs.size+1) r ((n,s.heap.objs.size)::cs):=by conv=>lhs;unfold cE;rw[if_pos hk]
   dsimp only at k1 k2 ⊢;rw[hs]at k2 ⊢;have key:=h h' (fun b o eb=>k1 b o (Heap.get?_push_of_some _ eb)) fun x c hx=>by
    rw[e]at hx
    rcases k2 x c hx with z|z
    ·rcases mem_cons.mp z with y|y
     ·cases y;exact .inr ⟨le_refl _,none,_,k1 _ _ (Heap.get?_push_size _ rfl),rfl⟩
     ·exact .inl y
    ·exact .inr ⟨Nat.le_of_succ_le z.1,z.2⟩
   rw[e]at key;exact key
  ·simp only[hk,if_false];refine wpAny_bind (wpAny_pure (ir r _ _ Q fun h' k1 k2=>?_));have e:cE s.heap.objs.size ((n,kd)::r) cs=cE s.heap.objs.size r cs:=by conv=>lhs;unfold cE;rw[if_neg hk]
   rw[←e]at k2 ⊢;exact h h' k1 k2
theorem yo {s:Shared}{scope:Scope}{globals:Addr}{cl:List (Str×Addr)}{qual:Str}{env:Env}{Q:Env→Shared→Prop}
  (q:∀h':Heap,(∃m,h'.Ns s.heap.objs.size m)→(∀b o,s.heap.get? b=some o→h'.get? b=some o)→(∀x c,(x,c)∈cE (s.heap.objs.size+1) scope.names cl→(x,c)∈cl∨(s.heap.objs.size<c∧∃v,h'.IsCell c v))→Q {scope:=scope,locals:=s.heap.objs.size,globals:=globals,cells:=cE (s.heap.objs.size+1) scope.names cl,qual:=qual,func:=none,code:=env.code,frame:=env.frame,builtins:=env.builtins} {s with heap:=h'}) :
  wpAny M A (newFunctionEnv scope globals cl [] qual none .none (some env)) Q E s:=by
 unfold newFunctionEnv;refine wpAny_bind (wpAny_alloc (wpAny_bind ?_));have hs:(s.heap.push {cls:=.type "dict",data:=.dict #[]}).objs.size=s.heap.objs.size+1:=Heap.size_push ..;refine ir scope.names cl {s with heap:=s.heap.push {cls:=.type "dict",data:=.dict #[]}} _ fun h' k1 k2=>?_
 dsimp only at k1 k2 ⊢;rw[hs]at k2 ⊢;refine wpAny_bind (wpAny_pure (wpAny_pure (q h' ⟨fun _=>none,_,#[],0,k1 _ _ (Heap.get?_push_size _ rfl),rfl,?_,fun _=>rfl⟩ (fun b o e=>k1 b o (Heap.get?_push_of_some _ e)) fun x c hx=>k2 x c hx)));exact(by simp[StrKeys])
end
noncomputable def cF (cells:List (Str×Addr)):List (Str×NameKind)→List (Str×Addr)→List (Str×Addr)
 | [],cs=>cs
 |(n,k)::r,cs=>cF cells r (if k==.free then (match cells.lookup n with|some c=>(n,c)::cs|none=>cs) else cs)
theorem ib {scope:Scope}{env:Env}(h:∀y∈scope.names,y.2= .free→∃c,env.cells.lookup y.1=some c):closureFor scope env=pure (cF env.cells scope.names []):=by
 unfold closureFor;have go:∀(l:List (Str×NameKind)) (cs:List (Str×Addr)),(∀y∈l,y.2= .free→∃c,env.cells.lookup y.1=some c)→
   (forIn l cs fun x r=>if (x.2==NameKind.free)=true then do let c ←cellOf env x.1;pure (ForInStep.yield ((x.1,c)::r)) else pure (ForInStep.yield r):Sem (List (Str×Addr)))=pure (cF env.cells l cs):=by
  intro l
  induction l with
  |nil=>intro cs _;rfl
  |cons x r ih=>
   intro cs hl;obtain⟨n,k⟩:=x;rw[List.forIn_cons];by_cases hk:k= .free
   ·subst hk;obtain⟨c,hc⟩:=hl (n,.free) mem_cons_self rfl;have hc':env.cells.lookup n=some c:=hc;have e:cellOf env n=pure c:=by unfold cellOf;rw[hc']
    simp only[beq_self_eq_true,if_true,e,pure_bind,cF,hc'];exact ih _ fun y hy=>hl y (dQ hy)
   ·have e:(k==NameKind.free)=false:=by simpa using hk
    simp only[e,false_eq_true,if_false,pure_bind,cF];exact ih _ fun y hy=>hl y (dQ hy)
 have:=go scope.names [] h;simpa using this
theorem md {cells:List (Str×Addr)}:∀{l:List (Str×NameKind)} {cs:List (Str×Addr)} {x:Str},(∃c,cs.lookup x=some c)→∃c,(cF cells l cs).lookup x=some c
 | [],cs,x,h=>h
 |(n,k)::r,cs,x,⟨c,h⟩=>by
  unfold cF;refine md ?_;split
  ·split
   ·rw[lookup_cons];split
    ·exact⟨_,rfl⟩
    ·exact⟨c,h⟩
   ·exact⟨c,h⟩
  ·exact⟨c,h⟩
theorem kO {cells:List (Str×Addr)}:∀{l:List (Str×NameKind)} {cs:List (Str×Addr)} {x:Str},(x,NameKind.free)∈l→(∃c,cells.lookup x=some c)→∃c,(cF cells l cs).lookup x=some c
 |(n,k)::r,cs,x,hm,⟨c,hc⟩=>by
  rcases mem_cons.mp hm with e|hm
  ·cases e;unfold cF;refine md ?_;rw[if_pos (by rfl),hc];exact⟨c,by rw[lookup_cons];simp⟩
  ·unfold cF;exact kO hm ⟨c,hc⟩
theorem gN {env:Env}:∀{names:List (Str×NameKind)} {x:Str} {k:NameKind},
  (names.map fun (n,k)=>if (k==NameKind.free&&env.scope.kind==.function&&env.kindOf n==some .cell) then (n,NameKind.cell) else (n,k)).lookup x=some k→(k= .cell∨k= .free)→(x,NameKind.free)∈names∨(x,NameKind.cell)∈names
 | [],_,_,h,_=>by simp at h
 |(n,k0)::r,x,k,h,hk=>by
  have ih:= @gN env r x k;rw[map_cons,lookup_cons]at h;by_cases c:(k0==NameKind.free&&env.scope.kind==.function&&env.kindOf n==some .cell)=true
  ·have hf:k0= .free:=by
    simp only[and_eq_true,beq_iff_eq]at c;exact c.1.1
   subst hf;rw[if_pos c]at h;dsimp only at h;split at h
   ·rename_i hy;have:x=n:=by simpa using hy
    subst this;exact .inl mem_cons_self
   ·exact(ih h hk).imp (mem_cons_of_mem _) (mem_cons_of_mem _)
  ·rw[if_neg c]at h;dsimp only at h;split at h
   ·rename_i hy;have:x=n:=by simpa using hy
    subst this;cases h
    rcases hk with rfl|rfl
    ·exact .inr mem_cons_self
    ·exact .inl mem_cons_self
   ·exact(ih h hk).imp (mem_cons_of_mem _) (mem_cons_of_mem _)
theorem jc {env:Env}:∀{names:List (Str×NameKind)} {x:Str},names.lookup x=some .free→
  (names.map fun (n,k)=>if (k==NameKind.free&&env.scope.kind==.function&&env.kindOf n==some .cell) then (n,NameKind.cell) else (n,k)).lookup x=some .cell∨
  (names.map fun (n,k)=>if (k==NameKind.free&&env.scope.kind==.function&&env.kindOf n==some .cell) then (n,NameKind.cell) else (n,k)).lookup x=some .free
 | [],_,h=>by simp at h
 |(n,k0)::r,x,h=>by
  have ih:= @jc env r x;rw[lookup_cons]at h;rw[map_cons,lookup_cons];by_cases c:(k0==NameKind.free&&env.scope.kind==.function&&env.kindOf n==some .cell)=true
  ·rw[if_pos c];dsimp only;split at h
   ·exact .inl rfl
   ·exact ih h
  ·rw[if_neg c];dsimp only;split at h
   ·exact .inr h
   ·exact ih h
theorem jb {env:Env}:∀{names:List (Str×NameKind)} {x:Str},names.lookup x=some .cell→
  (names.map fun (n,k)=>if (k==NameKind.free&&env.scope.kind==.function&&env.kindOf n==some .cell) then (n,NameKind.cell) else (n,k)).lookup x=some .cell
 | [],_,h=>by simp at h
 |(n,k0)::r,x,h=>by
  have ih:= @jb env r x;rw[lookup_cons]at h;rw[map_cons,lookup_cons];by_cases c:(k0==NameKind.free&&env.scope.kind==.function&&env.kindOf n==some .cell)=true
  ·rw[if_pos c];dsimp only;split at h
   ·rfl
   ·exact ih h
  ·rw[if_neg c];dsimp only;split at h
   ·exact h
   ·exact ih h
theorem eA {env:Env}{scope:Scope}{x:Str}(h:rM scope x):rM (relabel scope env) x∧((scope.names.lookup x==some NameKind.cell)=true∨(relabel scope env).names.lookup x=some .local):=by
 rcases h with h|h
 ·have:=lookup_relabel_local (env:=env) h;exact⟨.inl this,.inr this⟩
 ·exact⟨.inr (jb h),.inl (by rw[h];rfl)⟩
noncomputable abbrev Cx.comp (X:Cx)(s:Shared)(H:Hp)(scope:Scope)(C:Addr)(N:List Str)(ex:List Addr):Cx:=
 {X with N:=N,s₀:=s,H₀:=H,env:=compEnvC scope (cE (C+1) scope.names (cF X.env.cells scope.names [])) C X.env,outer:=X.stack,stack:=X.stack,ex:=ex,fn:=fun x=>scope.names.lookup x==some .cell,pn:=[],xe:=fun _ _=>False}
theorem kP {cells:List (Str×Addr)}{x:Str}{c:Addr}:∀{l:List (Str×NameKind)} {cs:List (Str×Addr)},(x,c)∈cF cells l cs→(∀p∈cs,cells.lookup p.1=some p.2)→cells.lookup x=some c
 | [],cs,h,hs=>hs _ h
 |(n,k)::r,cs,h,hs=>by
  unfold cF at h;refine kP h fun p hp=>?_;split at hp
  ·split at hp
   ·rename_i c' hc'
    rcases mem_cons.mp hp with e|e
    ·rw[e];exact hc'
    ·exact hs p e
   ·exact hs p hp
  ·exact hs p hp
theorem ma {cells:List (Str×Addr)}{x:Str}{c:Addr}:∀{l:List (Str×NameKind)} {cs:List (Str×Addr)},(x,c)∈cF cells l cs→(x,c)∈cs∨(x,NameKind.free)∈l
 | [],cs,h=>.inl h
 |(n,k)::r,cs,h=>by
  unfold cF at h
  rcases ma h with z|z
  ·split at z
   ·rename_i hk;have hk':k= .free:=by simpa using hk
    split at z
    ·rcases mem_cons.mp z with e|e
     ·cases e;exact .inr (by rw[hk'];exact mem_cons_self)
     ·exact .inl e
    ·exact .inl z
   ·exact .inl z
  ·exact .inr (dQ z)
structure CompSc (X:Cx)(scope:Scope)(N:List Str)(caps:List (Option Nat)):Prop where
 kind:scope.kind= .function
 freek:∀y∈scope.names,y.2= .free→scope.names.lookup y.1=some .free
 cellk:∀y∈scope.names,y.2= .cell→scope.names.lookup y.1=some .cell
 names:∀y∈scope.names,y.2= .local→scope.names.lookup y.1=some .local
 free:∀y∈scope.names,y.2= .free→X.env.scope.names.lookup y.1=some .cell∨X.env.scope.names.lookup y.1=some .free
 nd:N.Nodup
 len:caps.length=N.length
 capf:∀(j k:Nat) (x:Str),caps[j]?=some (some k)→N[j]?=some x→scope.names.lookup x=some .free
 cap:∀(j k:Nat) (x:Str),caps[j]?=some (some k)→N[j]?=some x→X.N[k]?=some x∧(X.env.scope.names.lookup x=some .cell∨X.env.scope.names.lookup x=some .free)
noncomputable def dJ (caps:List (Option Nat))(σ:St):St:=caps.map fun o=>o.bind fun k=>(σ[k]?).join
theorem l_ {caps:List (Option Nat)}{σ:St}{j:Nat}{v:V}(h:(dJ caps σ)[j]?=some (some v)):∃k,caps[j]?=some (some k)∧σ[k]?=some (some v):=by
 unfold dJ at h;rw[getElem?_map]at h;cases e:caps[j]? with
 |none=>rw[e]at h;cases h
 |some o=>
  rw[e]at h;cases o with
  |none=>simp at h
  |some k=>
   refine⟨k,rfl,?_⟩;simp only[map_some,bind_some]at h;cases e2:σ[k]? with
   |none=>rw[e2]at h;simp at h
   |some o2=>rw[e2]at h;simp at h;rw[h]
section
variable{X:Cx}{pins:List (Addr×Obj)}{σ:St}{H:Hp}{s:Shared}{scope:Scope}{N:List Str}{caps:List (Option Nat)}
theorem Inv.comp {h₁:Heap}{C:Addr}{fp:List Addr}{t':Nat}(I:Inv X pins σ H s)(S:CompSc X scope N caps)(hC:s.heap.objs.size≤C)(hf:∀b∈fp,gd X pins H b)(hfp:∀b∈fp,b<s.heap.objs.size)
  (old:∀b o,s.heap.get? b=some o→h₁.get? b=some o) (nc:∀x c,(x,c)∈cE (C+1) scope.names (cF X.env.cells scope.names [])→(x,c)∈cF X.env.cells scope.names []∨(C<c∧∃v,h₁.IsCell c v)) (ns:∃m,h₁.Ns C m):Inv (X.comp s H scope C N fp) [] (dJ caps σ) H {s with heap:=h₁,toks:=t'}:=by
 have U:∀{x c},(x,c)∈cF X.env.cells scope.names []→X.env.cells.lookup x=some c:=fun e=>kP e (fun p z=>by cases z);have hcl:∀x c,(cF X.env.cells scope.names []).lookup x=some c→X.env.cells.lookup x=some c:=fun x c e=>U (cS e);have hce:∀{x c},(cE (C+1) scope.names (cF X.env.cells scope.names [])).lookup x=some c→X.env.cells.lookup x=some c∨(C<c∧∃v,h₁.IsCell c v):=fun e=>(nc _ _ (cS e)).imp U id;have olt:∀p∈cF X.env.cells scope.names [],p.2<C+1:=fun p hp=>by
  obtain⟨v,z⟩:=I.cell p.1 p.2 (U hp);exact lt_succ_of_lt (lt_of_lt_of_le z.lt hC)
 have hsub:=I.stkSub;obtain⟨m1,hn1⟩:=ns;have notC:∀{b:Addr},b<s.heap.objs.size→b≠C:=fun q=>ne_of_lt (lt_of_lt_of_le q hC);have hasF:∀x,(x,NameKind.free)∈scope.names→∃c,X.env.cells.lookup x=some c:=fun x hx=>I.ok.has x (S.free (x,.free) hx rfl);refine⟨⟨I.ok.mod,S.kind,I.ok.glob,I.ok.blt,hC,fun x y c e1 e2=>kL olt (fun x y c e1 e2=>I.ok.inj x y c (U e1) (U e2)) x y c (cS e1) (cS e2),fun x hx=>?_,fun x c hx e=>?_,I.ok.hd,I.ok.frames,.inl rfl,fun b q=>⟨notC (hfp b q),fun x c e=>(hce e).elim ((hf b q).2.2.2.2.1 x c) fun z=>ne_of_gt (lt_of_lt_of_le (hfp b q) (le_trans hC (le_of_lt z.1)))⟩,I.bs,le_trans I.ok.bsz I.sz,fun b o e q=>?_,fun b q z=>?_,I.stack,I.stkFree⟩,
  rfl,I.bare,Un.kept old,⟨m1,hn1,fun j y v e1 e2 e3=>?_⟩,fun x c e=>?_,I.hok.fresh hC,fun x c e=>(hce e).elim (I.freeC x c) fun z=>I.hok.fresh (le_trans hC (le_of_lt z.1)),fun p hp=>absurd (show p∈([]:List (Addr×Obj)) from hp) (by simp),I.hok.kept old,by rw[show (dJ caps σ).length=caps.length by simp[dJ]];exact S.len⟩
 ·have hx':(relabel scope X.env).names.lookup x=some .cell∨(relabel scope X.env).names.lookup x=some .free:=hx;have hm:(x,NameKind.free)∈scope.names∨(x,NameKind.cell)∈scope.names:=by
   rcases hx' with e|e
   ·exact gN e (.inl rfl)
   ·exact gN e (.inr rfl)
  rcases hm with hm|hm
  ·exact g0 (kO hm (hasF x hm))
  ·exact pb hm
 ·have hx:(scope.names.lookup x==some NameKind.cell)=true:=hx;have ho:(cE (C+1) scope.names (cF X.env.cells scope.names [])).lookup x=some c:=e
  rcases nc x c (cS ho) with z|z
  ·rw[S.freek _ ((ma z).resolve_left fun y=>by cases y) rfl]at hx;cases hx
  ·exact le_trans hC (le_of_lt z.1)
 ·obtain⟨f0,f1,f2,f3,_⟩:=hf b q
  rcases f3 with z|z
  ·exact I.ok.noex b o e z
  ·exact absurd (lt_of_lt_of_le (Heap.lt_size e) (le_trans I.ok.bsz z)) (lt_irrefl _)
 ·obtain⟨f0,f1,f2,_⟩:=hf b q
  rcases mem_cons.mp (hsub b z) with e|e
  ·exact f1 e
  ·exact f2 e
 ·obtain⟨k,c1,c2⟩:=l_ e2;obtain⟨c3,c4⟩:=S.cap j k y c1 e1;obtain⟨m,hn,hl⟩:=I.loc;obtain⟨u,r,l⟩:=hl k y v c3 c2 (by rcases c4 with z|z;exact .inr (.inl z);exact .inr (.inr z))
  refine⟨u,r,.inr ?_⟩;have hv:(relabel scope X.env).names.lookup y=some .cell∨(relabel scope X.env).names.lookup y=some .free:=jc (S.capf j k y c1 e1);have hfr:=S.capf j k y c1 e1;have hm:(y,NameKind.free)∈scope.names:=cS hfr;obtain⟨c,hc⟩:=kO (cells:=X.env.cells) (cs:=[]) hm (hasF y hm);refine⟨hv,c,(kM (fun z=>by have:=S.cellk _ z rfl;rw[hfr]at this;cases this)).trans hc,?_⟩
  rcases l with ⟨k1,_⟩|⟨_,c',hc',z⟩
  ·exfalso;have k1':X.env.scope.names.lookup y=some .local:=k1
   rcases c4 with z|z <;> (rw[k1']at z;cases z)
  ·rw[hcl y c hc]at hc';cases hc';obtain⟨o,eo,d⟩:=z;exact⟨o,old _ _ eo,d⟩
 ·rcases hce e with z|z
  ·obtain⟨v,o,eo,d⟩:=I.cell x c z;exact⟨v,o,old _ _ eo,d⟩
  ·exact z.2
end
section
variable{prog:Program}{w:World}{A:Around}{E:Value→Shared→Prop}{R:Result→Shared→Prop}{s:Shared}
theorem tq {elt target iter:Expr}{ifs:List Expr}{scope:Scope}{pos:Pos}{it acc:Value}{env:Env}(I:Nat→Shared→Prop)
  (turn:∀n s,I n s→wpAny (model prog w) A (pyNext it) (fun r s₁=>match r with
   |none=>R (.ok .next) s₁
   |some v=>wpAny (model prog w) A (letOwnedTupleGo target it v) (fun _ s₁'=>wpAny (model prog w) A (assign target env v) (fun _ s₂=>
     wpAny (model prog w) A (forIn ifs true fun c r=>if r=true then do let ok ←isTrue c env (eval c env);pure (ForInStep.yield ok) else pure (ForInStep.yield r)) (fun ok s₃=>
      if ok=true then wpAny (model prog w) A (eval elt env) (fun x s₄=>
       wpAny (model prog w) A (call (.builtin "list.append") [acc,x]) (fun _ s₅=>∃m,m<n∧I m s₅) (notedBy (model prog w) A env fun e s'=>R (.error e) s') s₄) (notedBy (model prog w) A env fun e s'=>R (.error e) s') s₃
      else ∃m,m<n∧I m s₃) (notedBy (model prog w) A env fun e s'=>R (.error e) s') s₂) (notedBy (model prog w) A env fun e s'=>R (.error e) s') s₁') (notedBy (model prog w) A env fun e s'=>R (.error e) s') s₁) (notedBy (model prog w) A env fun e s'=>R (.error e) s') s)
  (n:Nat) (h:I n s) :
  codeAny (model prog w) A (.compLoop (.ListComp elt [⟨target,iter,ifs,0⟩] scope pos) 0 it acc env) R s:=by
 refine codeAny_loop rfl I (fun n s hI=>?_) n h;show wpAny _ A ((compTurn (.ListComp elt [⟨target,iter,ifs,0⟩] scope pos) 0 it acc env).onRaise (fun x=>do noteFrame x env;theTreesLotGoes x)) _ _ s
 refine wpAny_noted ?_;rw[compTurn_list];refine wpAny_bind (wpAny_standAt (wpAny_bind (wpAny_mono (turn n s hI) (fun r s₁ h₁=>?_) fun _ _ B=>B)));cases r with
 |none=>exact wpAny_pure h₁
 |some v=>
  refine wpAny_bind (wpAny_mono h₁ (fun _ s₁' h₁'=>?_) fun _ _ B=>B);refine wpAny_bind (wpAny_mono h₁' (fun _ s₂ h₂=>wpAny_bind (wpAny_mono h₂ (fun ok s₃ h₃=>?_) fun _ _ B=>B)) fun _ _ B=>B);cases ok with
  |false=>exact wpAny_pure ⟨rfl,h₃⟩
  |true=>
   exact wpAny_bind (wpAny_bind (wpAny_mono h₃ (fun x s₄ h₄=>wpAny_bind (wpAny_mono h₄ (fun _ s₅ h₅=>wpAny_pure (wpAny_pure ⟨rfl,h₅⟩)) fun _ _ B=>B)) fun _ _ B=>B))
end
noncomputable def BF (X:Cx)(ifs:List Expr)(t:TT):Prop:=
 ∀(pins:List (Addr×Obj)) (s:Shared) (σ:St) (H:Hp) (Q:Bool→Hp→Prop),Inv X pins σ H s→t σ H Q→
  wpAny (model X.prog X.w) X.A (forIn ifs true fun c r=>if r=true then do let ok ←isTrue c X.env (eval c X.env);pure (ForInStep.yield ok) else pure (ForInStep.yield r)) (TP X pins σ Q) X.xe s
theorem yM {X:Cx}:BF X [] (fun _ H Q=>Q true H):=fun _ _ _ H _ I h=>wpAny_tests_nil ⟨H,I,h⟩
theorem yN {X:Cx}{c:Expr}{t:TT}(h:PT X c t):BF X [c] t:=fun pins s σ H Q I q=>wpAny_tests_one (h pins s σ H Q I q)
noncomputable def wZ (wi:TI)(caps:List (Option Nat))(g:TG)(tc:TT)(te:TE):TE:=fun σ H Q=>wi σ H fun J H1=>∃W:Nat→Nat→List V→Hp→Prop,(∃m,W 0 m [] H1)∧∀i m ys H2,W i m ys H2→
 (J.stop i H2∧ys.length≤sizeLine∧∀p,H2 p=none→Q (.ref p) (aS H2 p (.lst ys)))∨
 (J.go i H2∧∃Nx:List V→Hp→Prop,(∀ys' H',Nx ys' H'→∃m',m'<m∧W (i+1) m' ys' H')∧
  ∀x H',J.yld i H2 x H'→g x (dJ caps σ) H' fun σ2 H3=>tc σ2 H3 fun b H4=>if b=true then ys.length≤sizeLine∧te σ2 H4 (fun y H5=>Nx (ys ++ [y]) H5) else Nx ys H4)
section
variable{X:Cx}{pins:List (Addr×Obj)}{σ:St}{H:Hp}{s:Shared}{scope:Scope}{N:List Str}{caps:List (Option Nat)}
noncomputable abbrev iS (us:List Value):Obj:={cls:=.type "list",data:=.seq us.toArray us.length}
theorem t8 (ys:List Value)(y:Value):({cls:=.type "list",data:=.seq (ys.toArray.push y) (ys.length+1)}:Obj)=iS (ys ++ [y]):=by
 show ({cls:=.type "list",data:=.seq (ys.toArray.push y) (ys.length+1)}:Obj)={cls:=.type "list",data:=.seq (ys ++ [y]).toArray (ys ++ [y]).length};rw[length_append,List.length_singleton,List.push_toArray]
noncomputable def iF (caps:List (Option Nat))(g:TG):Prop:=∀x σ0 H Q,g x σ0 H Q→g x σ0 H fun σ2 H2=>Q σ2 H2∧σ2.length=σ0.length∧∀(j k:Nat) (v:V),caps[j]?=some (some k)→σ0[j]?=some (some v)→σ2[j]?=some (some v)
theorem iV {i:Nat}(h:caps[i]?=some none):iF caps (bw i):=fun x σ0 H Q q=>by
 refine⟨q,by simp,fun j k v hj hv=>?_⟩;have:j≠i:=fun z=>by rw[z,h]at hj;cases hj
 rw[getElem?_set_ne (Ne.symm this)];exact hv
theorem kR {elt tg iter:Expr}{ifs:List Expr}{pos:Pos}{it:Addr}{fp:List Addr}{tn:Nat→Heap→Prop}{J:It}{g:TG}{tc:TT}{te:TE}{RR:Value→Addr→Result→Shared→Prop}{E:Value→Shared→Prop}
  (hc:X.calm=true) (I:Inv X pins σ H s) (S:CompSc X scope N caps) (T:Turn X.prog X.w X.K tg J fp it tn) (st:tn 0 s.heap) (hf:∀b∈fp,gd X pins H b)
  (hg:∀C ex,PG (X.comp s H scope C N ex) tg g) (ho:iF caps g) (ht:∀C ex,BF (X.comp s H scope C N ex) ifs tc) (he:∀C ex,PE (X.comp s H scope C N ex) elt te)
  (W:Nat→Nat→List V→Hp→Prop) (m0:Nat) (w0:W 0 m0 [] H) {Q:VK}
  (turn:∀i m ys H2,W i m ys H2→(J.stop i H2∧ys.length≤sizeLine∧∀p,H2 p=none→Q (.ref p) (aS H2 p (.lst ys)))∨
   (J.go i H2∧∃Nx:List V→Hp→Prop,(∀ys' H',Nx ys' H'→∃m',m'<m∧W (i+1) m' ys' H')∧
    ∀x H',J.yld i H2 x H'→g x (dJ caps σ) H' fun σ2 H3=>tc σ2 H3 fun b H4=>if b=true then ys.length≤sizeLine∧te σ2 H4 (fun y H5=>Nx (ys ++ [y]) H5) else Nx ys H4))
  (hRR:∀(D C:Addr) (s':Shared) (m:Str→Option Value) (H':Hp),s'.heap.Ns C m→Inv X pins σ H' s'→gd X pins H' C→Q (.ref D) H'→RR (.ref D) C (.ok .next) s') :
  wpAny (model X.prog X.w) X.A (newList []) (fun acc s₃=>wpAny (model X.prog X.w) X.A (newFunctionEnv scope X.env.globals (cF X.env.cells scope.names []) [] X.env.qual none .none (some X.env)) (fun cenv s₄=>
   codeAny (model X.prog X.w) X.A (.compStart (.ListComp elt [⟨tg,iter,ifs,0⟩] scope pos) 0 (.ref it) acc {cenv with scope:=relabel scope X.env}) (RR acc cenv.locals) s₄) E s₃) E s:=by
 refine wpAny_newObj_type (yo fun l a Y f=>?_);dsimp only at a Y f ⊢;generalize hH2:s.heap.push {cls:=.type "list",dict:=none,data:=.seq ([]:List Value).toArray}=H2 at a Y f ⊢;have hC:H2.objs.size=s.heap.objs.size+1:=by rw[←hH2,Heap.size_push]
 have hDC:s.heap.objs.size≠H2.objs.size:=by rw[hC];exact ne_of_lt (lt_succ_self _)
 have B:s.heap.objs.size≤H2.objs.size:=by rw[hC];exact le_succ _
 have old:∀b o,s.heap.get? b=some o→l.get? b=some o:=fun b o e=>
  Y b o (hH2 ▸ Heap.get?_push_of_some _ e)
 have hacc:l.get? s.heap.objs.size=some (iS []):=Y _ _ (hH2 ▸ Heap.get?_push_size _ rfl);have U:∀b∈fp,b<s.heap.objs.size:=fun b t=>by
  obtain⟨o,e,_⟩:=T.obj _ _ st b t;exact Heap.lt_size e
 have st₁:tn 0 l:=T.keep _ _ _ st fun b t o e=>old b o e;have I₁:Inv (X.comp s H scope H2.objs.size N fp) [] (dJ caps σ) H {s with heap:=l}:=I.comp (t':=s.toks) S B hf U old f a
 have cne:∀x c,(cE (H2.objs.size+1) scope.names (cF X.env.cells scope.names [])).lookup x=some c→X.env.cells.lookup x=some c∨H2.objs.size<c:=fun x c e=>(f x c (cS e)).imp (fun z=>kP z (fun p M=>by cases M)) And.left;have nfs:∀{b:Addr},s.heap.objs.size≤b→b∉dN X.stack:=fun t z=>by
  obtain⟨_,o,ho,_⟩:=I.stack.mem z;exact absurd (lt_of_lt_of_le (Heap.lt_size ho) t) (lt_irrefl _)
 -- what stays true of the iterator's and the gathered list's objects
 have Z:∀{H':Hp},(∀b∈fp,H' b=none)→∀b∈fp,gd (X.comp s H scope H2.objs.size N fp) [] H' b:=fun hn b t=>
  ⟨hn b t,ne_of_lt (lt_of_lt_of_le (U b t) B),fun z=>(by
   obtain⟨f0,f1,f2,_⟩:=hf b t
   rcases mem_cons.mp (I.stkSub b z) with e|e
   ·exact f1 e
   ·exact f2 e),.inl t,fun x c e=>(cne x c e).elim ((hf b t).2.2.2.2.1 x c) fun z=>ne_of_gt (lt_of_lt_of_le (U b t) (le_trans B (le_of_lt z))),fun p M=>absurd (show p∈([]:List (Addr×Obj)) from M) (by simp)⟩
 have statD:∀{H':Hp},H' s.heap.objs.size=none→gd (X.comp s H scope H2.objs.size N fp) [] H' s.heap.objs.size:=fun hn=>
  ⟨hn,hDC,nfs (le_refl _),.inr (le_refl _),fun x c e=>(cne x c e).elim (fun z=>by obtain⟨v,y⟩:=I.cell x c z;exact ne_of_lt y.lt) fun z=>ne_of_gt (Nat.lt_of_le_of_lt B z),fun p M=>absurd (show p∈([]:List (Addr×Obj)) from M) (by simp)⟩
 have loop:∀s₃:Shared,s₃={s with heap:=l}→
   codeAny (model X.prog X.w) X.A (.compLoop (.ListComp elt [⟨tg,iter,ifs,0⟩] scope pos) 0 (.ref it) (.ref s.heap.objs.size) (compEnvC scope (cE (H2.objs.size+1) scope.names (cF X.env.cells scope.names [])) H2.objs.size X.env))
    (RR (.ref s.heap.objs.size) H2.objs.size) s₃:=by
  rintro s₃ rfl;refine tq (fun n s'=>∃i ys h H',Inv (X.comp s H scope H2.objs.size N fp) [] (dJ caps σ) H' s'∧tn i s'.heap∧(∀b∈fp,H' b=none)∧s'.heap.get? s.heap.objs.size=some (iS h)∧H' s.heap.objs.size=none∧Vals ys h∧W i n ys H') ?_ m0
   ⟨0,[],[],H,I₁,st₁,fun b t=>(hf b t).1,hacc,I.hok.fresh (le_refl _),.nil,w0⟩
  intro n s3 hZ1;obtain⟨i,ys,h,H3,I3,st3,fr3,ha3,hd3,rv3,w3⟩:=hZ1;have pinD:∀{F:St} {H':Hp} {s':Shared},Inv (X.comp s H scope H2.objs.size N fp) [] F H' s'→s'.heap.get? s.heap.objs.size=some (iS h)→H' s.heap.objs.size=none→Inv (X.comp s H scope H2.objs.size N fp) [(s.heap.objs.size,iS h)] F H' s':=fun I' e n=>
   I'.pins_of fun p M=>by
    obtain rfl:=mem_singleton.mp M;exact⟨e,n,hDC,nfs (le_refl _),fun v z=>by cases z⟩
  have L:∀{H':Hp},(∀b∈fp,H' b=none)→∀b∈fp,gd (X.comp s H scope H2.objs.size N fp) [(s.heap.objs.size,iS h)] H' b:=fun hn b t=>
   ⟨(Z hn b t).1,(Z hn b t).2.1,(Z hn b t).2.2.1,(Z hn b t).2.2.2.1,(Z hn b t).2.2.2.2.1,fun p M=>by
    obtain rfl:=mem_singleton.mp (show p∈[(s.heap.objs.size,iS h)] from M);exact ne_of_gt (U b t)⟩
  have I3':=pinD I3 ha3 hd3;have atD:∀{pl:List (Addr×Obj)} {F:St} {H':Hp} {s':Shared},Inv (X.comp s H scope H2.objs.size N fp) ([(s.heap.objs.size,iS h)] ++ pl) F H' s'→s'.heap.get? s.heap.objs.size=some (iS h)∧H' s.heap.objs.size=none:=fun {pl F H' s'} I'=>
   ⟨(I'.pin (s.heap.objs.size,iS h) (by simp)).1,(I'.pin (s.heap.objs.size,iS h) (by simp)).2.1⟩
  rcases turn i n ys H3 w3 with ⟨stop,hsz,fin⟩|⟨go,Nx,hN,step⟩
  ·refine aE (wpAny_noRaise (T.done (X.comp s H scope H2.objs.size N fp) rfl rfl rfl hc i [(s.heap.objs.size,iS h)] s3 _ H3 (fun _ _=>False) I3' (L fr3) st3 stop)) fun r s4 hZ73=>?_;obtain⟨hr,I4⟩:=hZ73;subst hr;obtain⟨ha4,O⟩:=atD (pl:=[]) I4;obtain⟨m4,hn4,_⟩:=id I4.loc;have G:Un (dN X.stack) fp H H3 s.heap s4.heap:=I4.base;have bC:∀{b:Addr} {o:Obj},s.heap.get? b=some o→b≠H2.objs.size∧b≠s.heap.objs.size:=fun e=>⟨by rw[hC];exact ne_of_lt (lt_succ_of_lt (Heap.lt_size e)),ne_of_lt (Heap.lt_size e)⟩;have freeC:H3 H2.objs.size=none:=I4.free;have un':Un (dN X.stack) fp H (aS H3 s.heap.objs.size (.lst ys)) s.heap s4.heap:={
    keep:=fun b o e n t hx=>(G.keep b o e n t hx)
    slot:=fun b o e n t hx=>by
     obtain⟨sl,z⟩:=G.slot b o e n t hx;exact⟨sl,z⟩
    free:=fun b o e n hx=>by rw[ai (bC e).2];exact G.free b o e n hx
    there:=fun b o e hx=>by
     obtain⟨o',z⟩:=G.there b o e hx;exact⟨o',z⟩
    tups:=fun b xs q=>by
     have z:=G.tups b xs q;rw[ai (ap z O)];exact z
    frzs:=fun b o u q=>by
     have z:=G.frzs b o u q;rw[ai (ap z O)];exact z
    tbls:=fun b ps q=>by
     obtain⟨mo,z⟩:=G.tbls b ps q;exact⟨mo,by rw[ai (ap z O)];exact z⟩}
   have hok':HOk X.prog X.w (aS H3 s.heap.objs.size (.lst ys)) s4.heap:=fun b u eb=>by
    by_cases t:b=s.heap.objs.size
    ·subst t;rw[ao]at eb;cases eb;exact⟨hsz,h,_,rv3,ha4⟩
    ·rw[ai t]at eb;exact(I4.hok b u eb).stay (fun c v hcc q=>q) (fun c q=>by rw[ai (ap q O)];exact q) fun c xs q=>by rw[ai (ap q O)];exact q
   have I4':Inv X pins σ (aS H3 s.heap.objs.size (.lst ys)) s4:=I.call' (ch:=fp) I4.os un' hok' I4.bare (fun b t=>⟨(hf b t).2.2.2.1,(hf b t).2.1,(hf b t).2.2.2.2.1,(hf b t).2.2.2.2.2⟩);exact hRR _ _ s4 m4 _ hn4 I4' (I.fpOk B (by rw[ai (Ne.symm hDC)];exact freeC)) (fin _ O)
  ·refine aE (wpAny_noRaise (T.item (X.comp s H scope H2.objs.size N fp) rfl rfl rfl hc i [(s.heap.objs.size,iS h)] s3 _ H3 (fun _ _=>False) I3' (L fr3) st3 go)) fun r s4 hZ74=>?_;obtain⟨u,hr,h4⟩:=hZ74;subst hr;refine aE (wpAny_noRaise h4) fun _ s5 hZ75=>?_;obtain⟨x,H5,I5,r5,y5,st5,fr5⟩:=hZ75;have I5':=I5.pinned (L fr5) (T.obj _ _ st5);refine aE (wpAny_noRaise (hg _ _ _ s5 _ H5 x u _ I5' r5 (ho _ _ _ _ (step x H5 y5)))) fun _ s6 hZ76=>?_;obtain⟨σ6,H6,I6,q6,l6,k6⟩:=hZ76;have R:∀{pl:List (Addr×Obj)} {H':Hp} {s':Shared},Inv (X.comp s H scope H2.objs.size N fp) pl σ6 H' s'→Inv (X.comp s H scope H2.objs.size N fp) pl (dJ caps σ) H' s':=fun I'=>I'.weak l6.symm fun j v e=>by
    obtain⟨k,c1,c2⟩:=l_ e;exact k6 j k v c1 e
   refine aE (wpAny_noRaise (ht _ _ _ s6 σ6 H6 _ I6 q6)) fun b s7 hZ77=>?_;obtain⟨H7,I7,q7⟩:=hZ77;have P:∀{F:St} {H':Hp} {s':Shared},Inv (X.comp s H scope H2.objs.size N fp) ([(s.heap.objs.size,iS h)] ++ lu fp s5.heap) F H' s'→tn (i+1) s'.heap∧∀b∈fp,H' b=none:=fun {F H' s'} I'=>
    ⟨T.keep _ _ _ st5 fun b t o e=>(I'.pin (b,o) (mem_append_right _ (mem_append_right _ (fN t e)))).1,fun b t=>by
     obtain⟨o,e,d⟩:=T.obj _ _ st5 b t;exact(I'.pin (b,o) (mem_append_right _ (mem_append_right _ (fN t e)))).2.1⟩
   cases b with
   |false=>
    have q7':Nx ys H7:=q7;obtain⟨m',hm,w7⟩:=hN _ _ q7';obtain⟨ha7,hd7⟩:=atD I7;obtain⟨st7,fr7⟩:=P I7;exact⟨m',hm,i+1,ys,h,H7,R (I7.pins_of fun p M=>absurd M (by simp)),st7,fr7,ha7,hd7,rv3,w7⟩
   |true=>
    obtain⟨hsz,q7'⟩:ys.length≤sizeLine∧te σ6 H7 (fun y H5=>Nx (ys ++ [y]) H5):=q7;show wpAny _ _ (eval elt _) _ _ s7;refine aE (wpAny_noRaise (he _ _ _ s7 σ6 H7 _ I7 q7')) fun yv s8 hZ78=>?_;obtain⟨y,H8,I8,r8,q8⟩:=hZ78;obtain⟨ha8,hd8⟩:=atD I8;obtain⟨st8,fr8⟩:=P I8;refine append_at ha8 (fun h9 sb hD9=>?_) (by rw[size_toArray,←rv3.length];exact hsz);obtain⟨m',hm,w8⟩:=hN _ _ q8;have I8':Inv (X.comp s H scope H2.objs.size N fp) [] (dJ caps σ) H8 s8:=R (I8.pins_of fun p M=>absurd M (by simp));have dD:=statD hd8;refine⟨m',hm,i+1,ys ++ [y],h ++ [yv],H8,I8'.turned (t':=s8.toks) (fun b o t e=>(sb.2 b t).trans e) hd8 dD.2.1 dD.2.2.2.1 dD.2.2.2.2.1 dD.2.2.2.2.2,T.keep _ _ _ st8 fun b t o e=>(sb.2 b (ne_of_lt (U b t))).trans e,fr8,?_,hd8,rv3.append (.cons r8 .nil),w8⟩;rw[hD9,t8]
 exact codeAny_compStart_list (loop _ rfl) (T.self X.A 0 _ _ _ st₁ (loop _ rfl))
theorem yF {elt tg iter:Expr}{ifs:List Expr}{pos:Pos}{wi:TI}{g:TG}{tc:TT}{te:TE}(hc:X.calm=true)(S:CompSc X scope N caps)(hi:PI X tg iter wi)
  (hg:∀s H C ex,PG (X.comp s H scope C N ex) tg g) (ho:iF caps g) (ht:∀s H C ex,BF (X.comp s H scope C N ex) ifs tc) (he:∀s H C ex,PE (X.comp s H scope C N ex) elt te)
  (hs:∀x,foldedSetIterable iter X.env x=pure x:=by intro _;rfl):PE X (.ListComp elt [⟨tg,iter,ifs,0⟩] scope pos) (wZ wi caps g tc te):=by
 intro pins s σ H Q I h;rw[eval_ListComp];have hcl:closureFor scope X.env=pure (cF X.env.cells scope.names []):=ib fun y hy hk=>I.ok.has y.1 (S.free y hy hk);refine wpAny_comprehension_free (use:=none) rfl hs hcl S.kind S.names (aE (hi pins s σ H _ I h) fun v s1 h1=>aE h1 fun itv s2 h2=>?_);obtain⟨it,fp,tn,J,H2,e,I2,T,st2,f2,W,⟨m0,w0⟩,turn⟩:=h2;subst e;refine kR (RR:=fun acc C=>compPost (model X.prog X.w) X.A X.xe none (EP X pins σ Q) acc C) hc I2 S T st2 f2 (hg _ _) ho (ht _ _) (he _ _) W m0 w0 turn ?_;intro D C s' m H' hn I' fC q;exact⟨m,hn,fun h' sb=>⟨.ref D,H',I'.turned (t':=s'.toks) (fun b o hb e=>(sb.2 b hb).trans e) fC.1 fC.2.1 fC.2.2.2.1 fC.2.2.2.2.1 fC.2.2.2.2.2,rfl,q⟩⟩
theorem lw {elt tg iter:Expr}{ifs:List Expr}{pos py spos:Pos}{wi:TI}{g:TG}{tc:TT}{te:TE}{y:Str}{i:Nat}(hN:X.N.Nodup)(hi:X.N[i]?=some y)(hy:X.env.scope.names.lookup y=some .local)
  (hc:X.calm=true) (S:CompSc X scope N caps) (hit:PI X tg iter wi)
  (hg:∀s H C ex,PG (X.comp s H scope C N ex) tg g) (ho:iF caps g) (ht:∀s H C ex,BF (X.comp s H scope C N ex) ifs tc) (he:∀s H C ex,PE (X.comp s H scope C N ex) elt te)
  (hsw:swapsWith (.ListComp elt [⟨tg,iter,ifs,0⟩] scope pos) (some (.Name y py)) spos.line X.env=pure true:=by rfl)
  (hs:∀x,foldedSetIterable iter X.env x=pure x:=by intro _;rfl):PS X (.Assign [.Name y py] (.ListComp elt [⟨tg,iter,ifs,0⟩] scope pos) spos) (rB (wZ wi caps g tc te) (bw i)):=by
 intro u s σ H D I h;have hcl:closureFor scope X.env=pure (cF X.env.cells scope.names []):=ib fun y hy hk=>I.ok.has y.1 (S.free y hy hk);rw[exec_Assign_Name_used _ _ _ _ hsw];refine wpAny_bind (wpAny_standAt (wpAny_bind ?_));show wpAny _ X.A (do let _ ←comprehension (.ListComp elt [⟨tg,iter,ifs,0⟩] scope pos) scope X.env _ (newList []) false (eval iter X.env) (some (assign (.Name y py) X.env))) _ _ s
 refine wpAny_bind (wpAny_mono (wpAny_comprehension_free (use:=some (assign (.Name y py) X.env)) (Q:=fun _ s'=>SP X u D .next s') rfl hs hcl S.kind S.names
  (aE (hit u s σ H _ I h) fun v s1 h1=>aE h1 fun itv s2 h2=>?_)) (fun _ s' hq=>wpAny_pure (wpAny_pure hq)) fun _ _ e=>e)
 obtain⟨it,fp,tn,J,H2,e,I2,T,st2,f2,W,⟨m0,w0⟩,turn⟩:=h2;subst e;refine kR (RR:=fun acc C=>compPost (model X.prog X.w) X.A X.xe (some (assign (.Name y py) X.env)) (fun _ s'=>SP X u D .next s') acc C) (Q:=fun x H1=>bw i x σ H1 D.nx) hc I2 S T st2 f2 (hg _ _) ho (ht _ _) (he _ _) W m0 w0 turn ?_;intro Dd C s' m H' hn I' fC q;show wpAny _ _ (assign (.Name y py) X.env (.ref Dd)) _ _ s';refine wpAny_assign_Name (mL I' (i:=i) hN hi (.inl hy) (v:=.ref Dd) rfl (fun s5 I5 hZ79=>?_) (.inr hy));obtain⟨a,sb,ha⟩:=hZ79;have ha':a≠C:=by
  rcases ha with z|z
  ·rw[z];exact Ne.symm fC.2.1
  ·exact fC.2.2.2.2.1 _ _ z
 refine⟨m,hn.sameBut sb (Ne.symm ha'),fun h' sb2=>⟨_,H',I5.turned (t':=s5.toks) (fun b o hb e=>(sb2.2 b hb).trans e) fC.1 fC.2.1 fC.2.2.2.1 fC.2.2.2.2.1 fC.2.2.2.2.2,q⟩⟩
end
noncomputable def PF (X:Cx)(e:Expr)(n:Nat)(t:St→Hp→Prop):Prop:=
 ∀(pins:List (Addr×Obj)) (s:Shared) (σ:St) (H:Hp),Inv X pins σ H s→t σ H→wpAny (model X.prog X.w) X.A (eval e X.env) (fun u s'=>∃x tk,u= .str x tk∧x.length≤n∧Inv X pins σ H s') X.xe s
noncomputable def BE (X:Cx)(es:List Expr)(n:Nat)(t:St→Hp→Prop):Prop:=
 ∀(pins:List (Addr×Obj)) (s:Shared) (σ:St) (H:Hp) (out:Str),Inv X pins σ H s→t σ H→out.length+n≤sizeLine→wpAny (model X.prog X.w) X.A (joinParts out (evalEach es X.env)) (fun u s'=>∃x tk,u= .str x tk∧x.length≤out.length+n∧Inv X pins σ H s') X.xe s
noncomputable def w9 (te:TE):St→Hp→Prop:=fun σ H=>te σ H fun v H'=>H'=H∧∃i:Int,v= .int i∧i.natAbs.log2<1920
section
variable{X:Cx}
theorem c_ {x:Str}{j pos}:PF X (.Constant (.str x) j pos) x.length (fun _ _=>True):=fun pins s σ H I _=>Calls.Constant_str ⟨x,_,rfl,le_refl _,I.tok _⟩
theorem gK {e:Expr}{pos:Pos}{te:TE}(he:PE X e te):PF X (.FormattedValue e (-1) none pos) 1921 (w9 te):=by
 intro pins s σ H I h;refine FormattedValue_plain (aE (he pins s σ H _ I h) fun v s1 hZ80=>?_);obtain⟨x,H1,I1,r1,e1,i,e2,hl⟩:=hZ80;subst e1 e2;obtain⟨t,rfl⟩:=r1;refine formatField_int_small hl ⟨_,_,rfl,?_,I1.tok _⟩;have:=int_text_length_le (k:=1920) (by decide) hl;show (Str.ofString (toString i)).length≤1921;rw[PySem.ofString_length];exact this
theorem hV:BE X [] 0 (fun _ _=>True):=fun pins s σ H out I _ hz=>joinParts_nil ⟨out,_,rfl,le_add_right _ _,I.tok _⟩ (by omega)
theorem aG {e:Expr}{es:List Expr}{n m:Nat}{t u:St→Hp→Prop}(h1:PF X e n t)(h2:BE X es m u):BE X (e::es) (n+m) (fun σ H=>t σ H∧u σ H):=by
 rintro pins s σ H out I ⟨ht,hu⟩ hz;show wpAny _ _ (joinParts out (eval e X.env::evalEach es X.env)) _ _ s;refine joinParts_cons (aE (h1 pins s σ H I ht) fun v s1 hZ81=>?_);obtain⟨x,tk,e1,hl,I1⟩:=hZ81;subst e1;have el:(out ++ x).length=out.length+x.length:=strLen_append ..;refine⟨by rw[el];omega,aE (h2 pins s1 σ H (out ++ x) I1 hu (by rw[el];omega)) fun v s2 hZ82=>(by obtain⟨y,tk2,e2,hl2,I2⟩:=hZ82;exact⟨y,tk2,e2,by rw[el]at hl2;omega,I2⟩)⟩
noncomputable def CZ (t:St→Hp→Prop):TE:=fun σ H Q=>t σ H∧∀x,Q (.str x) H
theorem yG {v1 v2:Expr}{rest:List Expr}{pos:Pos}{n:Nat}{t:St→Hp→Prop}(h:BE X (v1::v2::rest) n t)(hn:n≤100000:=by decide):PE X (.JoinedStr (v1::v2::rest) pos) (CZ t):=by
 intro pins s σ H Q I hZ2;obtain⟨ht,hq⟩:=hZ2;refine JoinedStr_many (aE (h pins s σ H Str.empty I ht ?_) fun u s' hZ83=>?_)
 ·have e0:Str.empty.length=0:=rfl;rw[e0,sizeLine_eq];omega
 ·obtain⟨x,tk,e,_,I'⟩:=hZ83;subst e;exact⟨.str x,H,I',⟨_,rfl⟩,hq x⟩
end
section
variable{X:Cx}{pins:List (Addr×Obj)}{σ:St}{H:Hp}{s:Shared}
structure ExcK (K:W.Frag)(D:Addr):Prop where
 ga:W.findIn K (.ref D) "__getattribute__" =some (some (.builtin "BaseException.__getattribute__"))
 gh:W.findIn K (.ref D) "__getattr__" =some none
 ha:W.findIn K (.ref D) "__class__" =some (some (.builtin "object.__class__"))
 hn:W.specialIn K (.builtin "object.__class__") "__get__" =some (some (.builtin "getset_descriptor.__get__"))
 htk:W.takesIn K (.builtin "object.__class__")=some true
 hm:W.mroIn K D (.type "object")=some true
 hb:W.mroIn K D (.type "BaseException")=some true
 hc:(W.clsIn K D).isSome=true
noncomputable def lZ (e D:Addr)(h:Heap):Prop:=∃o,h.get? e=some o∧o.cls= .ref D
theorem gr {e D:Addr}{M:Model}{h:Heap}(p:lZ e D h):W.Looks M h (typeOf (.ref e)) (.ref D):=by
 obtain⟨o,h1,h2⟩:=p;exact h2 ▸ (W.Looks.ld h1).andThen .now
end
end L2
namespace PySem.W
open PySem PySem.Spec PySem.Calls PyProof.Rows Builtin Builtin.ObjectAttr Builtin.Getset_descriptor
section
variable{prog:Program}{w:World}{A:Around}{E:Value→Shared→Prop}{s:Shared}{K:Frag}{x C:Addr}
theorem lQ {R:Result→Shared→Prop}{tp:Value}(X:K.In s.heap)(I:L2.lZ x C s.heap)(hm:mroIn K C (.type "object")=some true)
  (h:R (.ok (.ret (.ref C))) s):codeAny (model prog w) A (.call (.builtin "getset_descriptor.__get__") ⟨[.builtin "object.__class__",.ref x,tp],[]⟩) R s:=by
 obtain⟨hh,g,dr,t,os⟩:=s;have L0:=L2.gr (M:=model prog w) I;have L1:=looks_mroIn (M:=model prog w) X hm;refine codeAny_call_builtin KF.slot_gs.plain KF.entry_gs (KF.slot_gs.check _ _ _ _ _ _ _ _ KF.type_class (KF.args_gs _ _ _) ?_);unfold Builtin.«getset_descriptor.__get__» descrGet;rw[dga_obj];refine wpAny_bind (wpAny_pure ?_);unfold descrGetter descrCheckInstance descrNameAndClass isInstance;simp only[KF.owner_class]
 repeat lk
 refine⟨Code.quiet_builtin _ (by decide +kernel),codeAny_builtin KF.entry_class ?_⟩;unfold Builtin.«object.__class__» shownTypeOf
 repeat lk
 exact h
theorem u4 {M:Model}(X:K.In s.heap)(k:L2.ExcK K C):Looks M s.heap (find (.ref x) (.ref C) "__class__") (.bind (.builtin "getset_descriptor.__get__") (.builtin "object.__class__")):=by
 have L1:=looks_findIn (M:=M) X k.ha;have L2:Looks M s.heap (getOf (some (.builtin "object.__class__"))) (some (.builtin "getset_descriptor.__get__")):=looks_specialIn X k.hn;have L3:=looks_takesIn (M:=M) X k.htk;exact L1.andThen (L2.andThen ((show Looks M s.heap (dataDescriptor? (some (.builtin "object.__class__")) (some (.builtin "getset_descriptor.__get__"))) (some (.builtin "getset_descriptor.__get__",.builtin "object.__class__")) from L3.andThen .now).andThen (Looks.tag .now)))
theorem tG {tk:Tok}{Q:PySem.Fin→Shared→Prop}(X:K.In s.heap)(I:L2.lZ x C s.heap)(k:L2.ExcK K C)(h:Q (.done (.ret (.ref C))) s) :
  wpAny (model prog w) A (Builtin.«object.__getattribute__» ⟨[.ref x,.str "__class__" tk],[]⟩) Q E s:=by
 obtain⟨hh,g,d,t,os⟩:=s;have L0:=L2.gr (M:=model prog w) I;have LF:=u4 (M:=model prog w) (x:=x) X k;unfold Builtin.«object.__getattribute__»;refine wpAny_bind (wpAny_pure ?_);refine wpAny_bind (wpAny_pure ?_);refine wpAny_bind (L0.at (wpAny_bind (LF.at ?_)));show wpAny _ _ (holding [.builtin "object.__class__"] (call (.builtin "getset_descriptor.__get__") [.builtin "object.__class__",.ref x,.ref C]) >>= fun v=>ret v) _ _ _;refine wpAny_bind (wpAny_holding (wpAny_call (lQ (s:=⟨hh,g,d,t,os⟩) X I k.hm ?_)));exact wpAny_pure h
theorem tF {M:Model}{nameV:Value}{Q:Unit→Shared→Prop}(X:K.In s.heap)(I:L2.lZ x C s.heap)(k:L2.ExcK K C)(hq:Q () s):wpAny M A (checkBuiltinCall "BaseException.__getattribute__" ⟨[.ref x,nameV],[]⟩) Q E s:=by
 obtain⟨hh,g,d,t,os⟩:=s;have L0:=L2.gr (M:=M) I;have L3:=looks_mroIn (M:=M) X k.hb;have hk:builtinKind "BaseException.__getattribute__" =some .slot:=by decide +kernel
 have j:splitId "BaseException.__getattribute__" =some ("BaseException","__getattribute__"):=by decide +kernel
 have hargs:=PySem.F.args_bexc_ga (.ref x) nameV;simp only[checkBuiltinCall,hk,j];refine wpAny_bind ?_;unfold isInstance;refine wpAny_bind (L0.at (L3.at ?_));simp only[if_true,Bool.not_true,false_eq_true,if_false]
 repeat (first|assumption|wp_step)
theorem exc_class {Q:Option Value→Shared→Prop}(X:K.In s.heap)(I:L2.lZ x C s.heap)(k:L2.ExcK K C)(h:Q (some (.ref C)) {s with toks:=s.toks+1}):wpAny (model prog w) A (getAttr? (.ref x) "__class__") Q E s:=by
 obtain⟨hh,g,d,t,os⟩:=s;have L0:=L2.gr (M:=model prog w) I;have L1:=looks_findIn (M:=model prog w) X k.ga;have L2':=looks_findIn (M:=model prog w) X k.gh;unfold getAttr? getAttrBy? getAttrBy;refine wpAny_bind (wpAny_mkText (wpAny_bind (wpAny_attempt (wpAny_holding (wpAny_bind (L0.at (wpAny_bind (L1.at ?_))))))));dsimp only;have hx:(onTheHeap (Value.ref C)&&Value.builtin "BaseException.__getattribute__"==Value.builtin "object.__getattribute__")=false:=by
  have hx2:(Value.builtin "BaseException.__getattribute__"==Value.builtin "object.__getattribute__")=false:=by decide +kernel
  rw[hx2];rfl
 rw[hx];rw[if_neg Bool.false_ne_true];have f3:=PySem.F.excAttr_ValueError.ga.bind (.ref x);unfold getAttrByItsOwn;refine wpAny_bind ?_;show wpAny _ _ (typeLookup (.ref C) "__getattr__") _ _ _;refine L2'.at ?_;refine wpAny_bind (wpAny_attempt (wpAny_holding ?_));show wpAny _ _ (bindSpecial (.builtin "BaseException.__getattribute__") (.ref x) >>= fun p=>call p.1 (p.2 ++ [.str "__class__" t])) _ _ _;refine wpAny_bind (wpAny_of_eq f3 ?_);show wpAny _ _ (call (.builtin "BaseException.__getattribute__") [.ref x,.str "__class__" t]) _ _ _;refine wpAny_call (codeAny_call_builtin PySem.F.excAttr_ValueError.ga.plain PySem.F.entry_bexc_ga ?_);refine tF (s:=⟨hh,g,d,t+1,os⟩) X I k ?_;refine tG (s:=⟨hh,g,d,t+1,os⟩) X I k ?_;exact handed_on rfl (wpAny_pure h)
end
end PySem.W
namespace L2
open PySem PySem.Spec PyProof.Rows
theorem vq {K:W.Frag}{e D:Addr}(k:ExcK K D):W.KitX K (.ref e) (.ref D) (lZ e D) where
 ty:=fun _ _ _ p=>gr p
 it:=fun _ _ X _=>by
  have hc:=k.hc;unfold W.clsIn at hc;split at hc
  ·rename_i c' d' cd' sl' ho;intro A' Q' E' s' k q;unfold isType loadHead;exact wpAny_bind (wpAny_loadPart (k _ _ (X _ _ ho)) (wpAny_pure q))
  ·cases hc
 ne:=fun h tp dd its n sl X htp=>by
  have hc:=k.hc;refine Bool.eq_false_iff.mpr fun q=>?_;have e:D=tp:=Value.ref.inj (beq_iff_eq.mp q);subst e;unfold W.clsIn at hc;split at hc
  ·rename_i c' d' cd' sl' ho;have z:=(X _ _ ho).symm.trans htp;cases z
  ·cases hc
 ca:=fun X I h=>W.exc_class X I k h
section
variable{X:Cx}{pins:List (Addr×Obj)}{σ:St}{H:Hp}{s:Shared}
noncomputable def cV:V→Value
 |.ref a=>.ref a
 |.ty n=>.type n
 |_=>.none
theorem zT {v:V}{u:Value}(h:RelV v u)(hv:cV v≠ .none):u=cV v:=by
 cases v with
 |ref a=>exact h
 |ty n=>exact h
 |_=>exact absurd rfl hv
end
inductive D where
 |non|bl (b:Bool)|int (i:Int)|str (x:Str)|lst (l:List D)|tup (l:List D)
 |ins (C:Addr) (ns:List Str) (l:List D)
 |dct (ks:List (List aV)) (l:List D)
 |scr (ns:List Int)
 |xc (C:Addr)
 |fdc (ks:List (List aV)) (l:List D)
inductive Res (α:Type) where
 |ok (a:α)|exc (c:Addr)|bad
noncomputable def Res.bind {α β:Type}:Res α→(α→Res β)→Res β
 |.ok a,f=>f a
 |.exc c,_=>.exc c
 |.bad,_=>.bad
structure LsS (K:W.Frag)(G:Hp)(a:Addr)(xs:List V):Prop where
 h:G a=some (.lst xs)
theorem LsS.of {K:W.Frag}{G:Hp}{a:Addr}{xs:List V}(h:G a=some (.lst xs)):LsS K G a xs:=⟨h⟩
theorem LsS.sq {K:W.Frag}{G:Hp}{a:Addr}{xs:List V}(h:LsS K G a xs):f6 K G a xs:=.inl (.inl h.h)
structure TpS (K:W.Frag)(G:Hp)(a:Addr)(xs:List V):Prop where
 h:G a=some (.tup xs)
theorem TpS.of {K:W.Frag}{G:Hp}{a:Addr}{xs:List V}(h:G a=some (.tup xs)):TpS K G a xs:=⟨h⟩
theorem TpS.sq {K:W.Frag}{G:Hp}{a:Addr}{xs:List V}(h:TpS K G a xs):kG K G a xs:=.inl (.inl h.h)
instance {K:W.Frag}{G:Hp}{a:Addr}{xs:List V}:Coe (TpS K G a xs) (kG K G a xs):=⟨TpS.sq⟩
mutual
noncomputable def Rep (K:W.Frag)(G:Hp):D→V→Prop
 |.non,v=>v= .non
 |.bl b,v=>v= .bl b
 |.int i,v=>v= .int i
 |.str x,v=>v= .str x
 |.lst ds,v=>∃a xs,v= .ref a∧LsS K G a xs∧RepL K G ds xs
 |.tup ds,v=>∃a xs,v= .ref a∧TpS K G a xs∧RepL K G ds xs
 |.ins C ns ds,v=>∃a dx fs,v= .ref a∧G a=some (.ins C dx fs)∧fs.map (·.1)=ns∧RepL K G ds (fs.map (·.2))
 |.dct ks ds,v=>∃a kvs,v= .ref a∧Rd G a (.dT kvs)∧kvs.map (·.1)=ks∧RepL K G ds (kvs.map (·.2))
 |.scr ns,v=>∃a,v= .ref a∧f6 K G a (ns.map V.int)
 |.xc C,v=>∃a,v= .ref a∧G a=some (jS a (.ref C))∧ExcK K C
 |.fdc ks ds,v=>∃a o kvs,v= .ref a∧G a=some (.frz o (.dT kvs))∧kvs.map (·.1)=ks∧RepL K G ds (kvs.map (·.2))
noncomputable def RepL (K:W.Frag)(G:Hp):List D→List V→Prop
 | [],vs=>vs=[]
 |d::ds,vs=>∃v r,vs=v::r∧Rep K G d v∧RepL K G ds r
end
theorem Same.seqT {K:W.Frag}{H H':Hp}{a:Addr}{xs:List V}(e:Same H H')(h:kG K H a xs):kG K H' a xs:=by
 rcases h with (h|⟨o,h⟩)|h
 ·exact .inl (.inl (e _ _ h))
 ·exact .inl (.inr ⟨o,e _ _ h⟩)
 ·exact .inr h
mutual
theorem Rep.mono {K:W.Frag}{G G':Hp}(e:Same G G'):∀{d:D} {v:V},Rep K G d v→Rep K G' d v
 |.non,_,h=>h
 |.bl _,_,h=>h
 |.int _,_,h=>h
 |.str _,_,h=>h
 |.lst _,_,h=>by
  unfold Rep at h ⊢;obtain⟨a,xs,r,s,t⟩:=h;exact⟨a,xs,r,⟨e _ _ s.h⟩,RepL.mono e t⟩
 |.tup _,_,h=>by
  unfold Rep at h ⊢;obtain⟨a,xs,r,s,t⟩:=h;exact⟨a,xs,r,⟨e _ _ s.h⟩,RepL.mono e t⟩
 |.ins _ _ _,_,h=>by
  unfold Rep at h ⊢;obtain⟨a,dx,fs,r,s,n,t⟩:=h;exact⟨a,dx,fs,r,e _ _ s,n,RepL.mono e t⟩
 |.dct _ _,_,h=>by
  unfold Rep at h ⊢;obtain⟨a,kvs,r,s,n,t⟩:=h;refine⟨a,kvs,r,?_,n,RepL.mono e t⟩
  rcases s with s|⟨o,s⟩
  ·exact .inl (e _ _ s)
  ·exact .inr ⟨o,e _ _ s⟩
 |.scr _,_,h=>by
  unfold Rep at h ⊢;obtain⟨a,r,s⟩:=h;exact⟨a,r,e.seq s⟩
 |.xc _,_,h=>by
  unfold Rep at h ⊢;obtain⟨a,r,s,k⟩:=h;exact⟨a,r,e _ _ s,k⟩
 |.fdc _ _,_,h=>by
  unfold Rep at h ⊢;obtain⟨a,o,kvs,r,s,n,t⟩:=h;exact⟨a,o,kvs,r,e _ _ s,n,RepL.mono e t⟩
theorem RepL.mono {K:W.Frag}{G G':Hp}(e:Same G G'):∀{ds:List D} {vs:List V},RepL K G ds vs→RepL K G' ds vs
 | [],_,h=>h
 |_::_,_,h=>by
  unfold RepL at h ⊢;obtain⟨v,r,q,a,b⟩:=h;exact⟨v,r,q,Rep.mono e a,RepL.mono e b⟩
end
theorem RepL.length {K:W.Frag}{G:Hp}:∀{ds:List D} {vs:List V},RepL K G ds vs→ds.length=vs.length
 | [],vs,h=>by unfold RepL at h;rw[h];rfl
 |d::ds,vs,h=>by
  unfold RepL at h;obtain⟨v,r,rfl,_,b⟩:=h;rw[length_cons,length_cons,RepL.length b]
theorem RepL.nil {K:W.Frag}{G:Hp}:RepL K G [] []:=by unfold RepL;rfl
theorem RepL.cons {K:W.Frag}{G:Hp}{d:D}{v:V}{ds:List D}{vs:List V}(a:Rep K G d v)(b:RepL K G ds vs):RepL K G (d::ds) (v::vs):=by unfold RepL;exact⟨v,vs,rfl,a,b⟩
theorem RepL.inv {K:W.Frag}{G:Hp}{d:D}{ds:List D}{vs:List V}(h:RepL K G (d::ds) vs):∃v r,vs=v::r∧Rep K G d v∧RepL K G ds r:=by unfold RepL at h;exact h
theorem RepL.inv0 {K:W.Frag}{G:Hp}{vs:List V}(h:RepL K G [] vs):vs=[]:=by unfold RepL at h;exact h
theorem RepL.append {K:W.Frag}{G:Hp}:∀{ds es:List D} {vs ws:List V},RepL K G ds vs→RepL K G es ws→RepL K G (ds ++ es) (vs ++ ws)
 | [],_,_,_,h,h'=>by rw[h.inv0];exact h'
 |_::_,_,_,_,h,h'=>by
  obtain⟨v,r,rfl,a,b⟩:=h.inv;exact .cons a (RepL.append b h')
theorem RepL.get {K:W.Frag}{G:Hp}:∀{ds:List D} {vs:List V} {i:Nat} {d:D},RepL K G ds vs→ds[i]?=some d→∃v,vs[i]?=some v∧Rep K G d v
 | [],_,_,_,_,e=>by simp at e
 |_::_,_,0,_,h,e=>by
  obtain⟨v,r,rfl,a,b⟩:=h.inv;simp at e;subst e;exact⟨v,rfl,a⟩
 |_::_,_,i+1,_,h,e=>by
  obtain⟨v,r,rfl,a,b⟩:=h.inv;obtain⟨w,h1,h2⟩:=RepL.get (i:=i) b (by simpa using e);exact⟨w,by simpa using h1,h2⟩
theorem RepL.take {K:W.Frag}{G:Hp}:∀{ds:List D} {vs:List V} (n:Nat),RepL K G ds vs→RepL K G (ds.take n) (vs.take n)
 |_,_,0,_=>by simpa using RepL.nil
 | [],_,_+1,h=>by rw[h.inv0];simpa using RepL.nil
 |_::_,_,n+1,h=>by
  obtain⟨v,r,rfl,a,b⟩:=h.inv;exact .cons a (RepL.take n b)
theorem RepL.drop {K:W.Frag}{G:Hp}:∀{ds:List D} {vs:List V} (n:Nat),RepL K G ds vs→RepL K G (ds.drop n) (vs.drop n)
 |_,_,0,h=>h
 | [],_,_+1,h=>by rw[h.inv0];simpa using RepL.nil
 |_::_,_,n+1,h=>by
  obtain⟨v,r,rfl,a,b⟩:=h.inv;exact RepL.drop n b
theorem RepL.ints {K:W.Frag}{G:Hp}:∀{ns:List Int} {vs:List V},RepL K G (ns.map D.int) vs→vs=ns.map V.int
 | [],_,h=>h.inv0
 |n::ns,_,h=>by
  obtain⟨v,r,rfl,a,b⟩:=RepL.inv (by simpa using h);rw[RepL.ints b];have a':v= .int n:=by unfold Rep at a;exact a
  rw[a'];rfl
theorem RepL.of_ints {K:W.Frag}{G:Hp}:∀(ns:List Int),RepL K G (ns.map D.int) (ns.map V.int)
 | []=>.nil
 |n::ns=>.cons (by unfold Rep;rfl) (RepL.of_ints ns)
noncomputable def nV (o:HO):Prop:=∃ks:List aV,o= .tup (ks.map kV)
structure Ext (G H G' H':Hp):Prop where
 hh:Same H H'
 gg:Same G G'
 gh:Same G' H'
 nw:∀b o,G' b=some o→G b=some o∨H b=none∨nV o
theorem Ext.refl {G H:Hp}(s:Same G H):Ext G H G H:=⟨.refl _,.refl _,s,fun _ _ h=>.inl h⟩
theorem Ext.trans {G H G1 H1 G2 H2:Hp}(a:Ext G H G1 H1)(b:Ext G1 H1 G2 H2):Ext G H G2 H2:=
 ⟨a.hh.trans b.hh,a.gg.trans b.gg,b.gh,fun c o h=>(b.nw c o h).elim (fun z=>a.nw c o z) fun z=>.inr (z.imp a.hh.free id)⟩
theorem Ext.new {G H:Hp}(s:Same G H){p:Addr}(hp:H p=none)(o:HO):Ext G H (aS G p o) (aS H p o):=
 ⟨fun b u e=>by rw[ai (ap e hp)];exact e,fun b u e=>by rw[ai (ap (s b u e) hp)];exact e,
  fun b u e=>by
   by_cases hb:b=p
   ·subst hb;rw[ao]at e ⊢;exact e
   ·rw[ai hb]at e ⊢;exact s b u e,
  fun b u e=>by
   by_cases hb:b=p
   ·subst hb;exact .inr (.inl hp)
   ·rw[ai hb]at e;exact .inl e⟩
noncomputable def OkR {α:Type}(E:XK)(H:Hp):Res α→Prop
 |.ok _=>True
 |.exc c=>∀H',Same H H'→E (.ref c) none H'
 |.bad=>False
theorem OkR.fst {α β:Type}{E:XK}{H:Hp}{x:Res α}{f:α→Res β}(h:OkR E H (x.bind f)):OkR E H x:=by
 cases x with
 |ok a=>trivial
 |exc c=>exact h
 |bad=>exact h
theorem OkR.snd {α β:Type}{E:XK}{H H1:Hp}{x:Res α}{f:α→Res β}{a:α}(h:OkR E H (x.bind f))(e:x= .ok a)(s:Same H H1):OkR E H1 (f a):=by
 subst e;have h':OkR E H (f a):=h;cases q:f a with
 |ok b=>trivial
 |exc c=>rw[q]at h';exact fun H' s'=>h' H' (s.trans s')
 |bad=>rw[q]at h';exact h'
theorem OkR.le {α:Type}{E:XK}{H H1:Hp}{x:Res α}(h:OkR E H x)(s:Same H H1):OkR E H1 x:=by
 cases x with
 |ok b=>trivial
 |exc c=>exact fun H' s'=>h H' (s.trans s')
 |bad=>exact h
theorem al {α β:Type}{x:Res α}{f:α→Res β}{a:α}{b:β}(e:x= .ok a)(h:f a= .ok b):x.bind f= .ok b:=by subst e;exact h
noncomputable abbrev DS:=List (Option D)
noncomputable def Ro (K:W.Frag)(G:Hp)(σ:St)(ρ:DS):Prop:=∀(i:Nat) (d:D),ρ[i]?=some (some d)→∃v,σ[i]?=some (some v)∧Rep K G d v
theorem Ro.mono {K:W.Frag}{G G':Hp}{σ:St}{ρ:DS}(h:Ro K G σ ρ)(s:Same G G'):Ro K G' σ ρ:=fun i d e=>let ⟨v,a,b⟩:=h i d e;⟨v,a,b.mono s⟩
theorem Ro.nil {K:W.Frag}{G:Hp}{σ:St}:Ro K G σ []:=fun i d e=>by simp at e
theorem Ro.cons {K:W.Frag}{G:Hp}{σ:St}{ρ:DS}{v:V}{d:D}(a:Rep K G d v)(h:Ro K G σ ρ):Ro K G (some v::σ) (some d::ρ):=fun i e q=>by
 cases i with
 |zero=>simp at q;subst q;exact⟨v,rfl,a⟩
 |succ i=>simpa using h i e (by simpa using q)
theorem Ro.skip {K:W.Frag}{G:Hp}{σ:St}{ρ:DS}{o:Option V}(h:Ro K G σ ρ):Ro K G (o::σ) (none::ρ):=fun i e q=>by
 cases i with
 |zero=>simp at q
 |succ i=>simpa using h i e (by simpa using q)
inductive DQ (X:Cx)(pins:List (Addr×Obj))(σ:St)(G H:Hp)(o:Res D)(u:Value)(s':Shared):Prop
 |mk (d:D) (e:o= .ok d) (v:V) (G' H':Hp) (i:Inv X pins σ H' s') (r:RelV v u) (x:Ext G H G' H') (p:Rep X.K G' d v)
inductive DAQ (X:Cx)(pins:List (Addr×Obj))(σ:St)(G H:Hp)(o:Res (List D))(us:List Value)(s':Shared):Prop
 |mk (ds:List D) (e:o= .ok ds) (vs:List V) (G' H':Hp) (i:Inv X pins σ H' s') (r:Vals vs us) (x:Ext G H G' H') (p:RepL X.K G' ds vs)
inductive DTQ (X:Cx)(pins:List (Addr×Obj))(σ:St)(G H:Hp)(o:Res Bool)(b:Bool)(s':Shared):Prop
 |mk (e:o= .ok b) (G' H':Hp) (i:Inv X pins σ H' s') (x:Ext G H G' H')
noncomputable def PD (X:Cx)(E:XK)(e:Expr)(f:DS→Res D):Prop:=
 ∀(pins:List (Addr×Obj)) (s:Shared) (σ:St) (G H:Hp) (ρ:DS),Inv X pins σ H s→Same G H→Ro X.K G σ ρ→OkR E H (f ρ)→
  wpAny (model X.prog X.w) X.A (eval e X.env) (DQ X pins σ G H (f ρ)) X.xe s
noncomputable def kE (X:Cx)(E:XK)(es:List Expr)(f:DS→Res (List D)):Prop:=
 ∀(pos:Pos) (pins:List (Addr×Obj)) (s:Shared) (σ:St) (G H:Hp) (ρ:DS),Inv X pins σ H s→Same G H→Ro X.K G σ ρ→OkR E H (f ρ)→
  wpAny (model X.prog X.w) X.A (spliced (backTo pos (starEach es X.env))) (DAQ X pins σ G H (f ρ)) X.xe s
noncomputable def rN (X:Cx)(E:XK)(e:Expr)(f:DS→Res Bool):Prop:=
 ∀(pins:List (Addr×Obj)) (s:Shared) (σ:St) (G H:Hp) (ρ:DS),Inv X pins σ H s→Same G H→Ro X.K G σ ρ→OkR E H (f ρ)→
  wpAny (model X.prog X.w) X.A (isTrue e X.env (eval e X.env)) (DTQ X pins σ G H (f ρ)) X.xe s
noncomputable def PDW (X:Cx)(E:XK)(e:Expr)(f:DS→Res Bool):Prop:=
 ∀(whole:Sem Value) (pins:List (Addr×Obj)) (s:Shared) (σ:St) (G H:Hp) (ρ:DS),Inv X pins σ H s→Same G H→Ro X.K G σ ρ→OkR E H (f ρ)→
  wpAny (model X.prog X.w) X.A (isTrue e X.env whole) (DTQ X pins σ G H (f ρ)) X.xe s
theorem PDW.pt {X:Cx}{E:XK}{e:Expr}{f:DS→Res Bool}(h:PDW X E e f):rN X E e f:=h _
inductive tD (K:W.Frag)(E:XK)(f:DS→Res D)(σ:St)(H:Hp)(Q:VK):Prop
 |mk (G:Hp) (ρ:DS) (s:Same G H) (r:Ro K G σ ρ) (o:OkR E H (f ρ)) (k:∀d,f ρ= .ok d→∀v G' H',Ext G H G' H'→Rep K G' d v→Q v H')
theorem eR {X:Cx}{E:XK}{e:Expr}{f:DS→Res D}(h:PD X E e f):PE X e (tD X.K E f):=by
 intro pins s σ H Q I hZ3;obtain⟨G,ρ,hs,hr,ho,k⟩:=hZ3;refine aE (h pins s σ G H ρ I hs hr ho) fun u s' hZ84=>(by obtain⟨d,e,v,G',H',I',rv,x,rp⟩:=hZ84;exact⟨v,H',I',rv,k d e v G' H' x rp⟩)
inductive tDT (K:W.Frag)(E:XK)(f:DS→Res Bool)(σ:St)(H:Hp)(Q:Bool→Hp→Prop):Prop
 |mk (G:Hp) (ρ:DS) (s:Same G H) (r:Ro K G σ ρ) (o:OkR E H (f ρ)) (k:∀b,f ρ= .ok b→∀G' H',Ext G H G' H'→Q b H')
theorem Ds {X:Cx}{E:XK}{e:Expr}{f:DS→Res Bool}(h:rN X E e f):PT X e (tDT X.K E f):=by
 intro pins s σ H Q I hZ4;obtain⟨G,ρ,hs,hr,ho,k⟩:=hZ4;refine aE (h pins s σ G H ρ I hs hr ho) fun b s' hZ85=>(by obtain⟨e,G',H',I',x⟩:=hZ85;exact⟨H',I',k b e G' H' x⟩)
inductive tDA (K:W.Frag)(E:XK)(f:DS→Res (List D))(σ:St)(H:Hp)(Q:List V→Hp→Prop):Prop
 |mk (G:Hp) (ρ:DS) (s:Same G H) (r:Ro K G σ ρ) (o:OkR E H (f ρ)) (k:∀ds,f ρ= .ok ds→∀vs G' H',Ext G H G' H'→RepL K G' ds vs→Q vs H')
theorem iy {X:Cx}{E:XK}{es:List Expr}{f:DS→Res (List D)}(h:kE X E es f):PA X es (tDA X.K E f):=by
 intro pos pins s σ H Q I hZ5;obtain⟨G,ρ,hs,hr,ho,k⟩:=hZ5;refine aE (h pos pins s σ G H ρ I hs hr ho) fun us s' hZ86=>(by obtain⟨ds,e,vs,G',H',I',rv,x,rp⟩:=hZ86;exact⟨vs,H',I',rv,k ds e vs G' H' x rp⟩)
section
variable{X:Cx}{E:XK}
theorem Bd {i:Nat}{x:Str}{pos:Pos}(hN:X.N[i]?=some x)(hv:xg X.env.scope x)(hd:(x==("__debug__" :Str))=false:=by decide)(hcd:(x==("__classdict__" :Str))=false:=by decide) :
  PD X E (.Name x pos) (fun ρ=>match ρ[i]? with|some (some d)=>.ok d|_=>.bad):=by
 intro pins s σ G H ρ I hs hr ho;cases e:ρ[i]? with
 |none=>simp only[e]at ho;exact ho.elim
 |some o=>
  cases o with
  |none=>simp only[e]at ho;exact ho.elim
  |some d=>
   obtain⟨v,hv',rp⟩:=hr i d e;exact aE (ls hN hv hd hcd pins s σ H (fun v' H'=>H'=H∧v'=v) I ⟨v,hv',rfl,rfl⟩) fun u s' hZ87=>by
    obtain⟨v',H',I',r,e1,e2⟩:=hZ87;subst e1 e2;exact⟨d,by simp only[e],v',G,H',I',r,.refl hs,rp⟩
theorem iX {e:Expr}{t:TE}{d:D}(h:PE X e t)(ht:∀σ H,t σ H fun v H'=>H'=H∧∀G,Rep X.K G d v):PD X E e (fun _=>.ok d):=by
 intro pins s σ G H ρ I hs hr ho;refine aE (h pins s σ H _ I (ht σ H)) fun u s' hZ88=>?_;obtain⟨v,H',I',r,e1,e2⟩:=hZ88;subst e1;exact⟨d,rfl,v,G,H',I',r,.refl hs,e2 G⟩
theorem ag {i j pos}:PD X E (.Constant (.int i) j pos) (fun _=>.ok (.int i)):=iX Bg fun _ _=>⟨rfl,fun _=>by unfold Rep;rfl⟩
theorem vO {b j pos}:PD X E (.Constant (.bool b) j pos) (fun _=>.ok (.bl b)):=iX CI fun _ _=>⟨rfl,fun _=>by unfold Rep;rfl⟩
theorem Bb {x j pos}:PD X E (.Constant (.str x) j pos) (fun _=>.ok (.str x)):=iX wd fun _ _=>⟨rfl,fun _=>by unfold Rep;rfl⟩
theorem vQ {x:Str}{i:Int}{u:Value}{pos:Pos}(hg:Gl X x)(hm:X.mg x=some u)(r:∃t,u= .int i t)(hd:(x==("__debug__" :Str))=false:=by decide):PD X E (.Name x pos) (fun _=>.ok (.int i)):=
 iX (km (v:=.int i) hg hm r hd) fun _ _=>⟨rfl,fun _=>by unfold Rep;rfl⟩
theorem ae:kE X E [] (fun _=>.ok []):=fun _ _ _ _ G H _ I hs _ _=>Calls.spliced_nil ⟨[],rfl,[],G,H,I,.nil,.refl hs,.nil⟩
theorem aa {e:Expr}{es:List Expr}{f:DS→Res D}{g:DS→Res (List D)}(ha:PD X E e f)(hr:kE X E es g)(hs:starEach (e::es) X.env=(false,eval e X.env)::starEach es X.env:=by rfl) :
  kE X E (e::es) (fun ρ=>(f ρ).bind fun d=>(g ρ).bind fun ds=>.ok (d::ds)):=by
 intro pos pins s σ G H ρ I hsm hro ho;have key:PA X (e::es) (sR (tD X.K E f) (tDA X.K E g)):=cM (eR ha) (iy hr) hs;refine aE (key pos pins s σ H (fun vs H'=>∃ds,((f ρ).bind fun d=>(g ρ).bind fun ds=>.ok (d::ds))= .ok ds∧∃G',Ext G H G' H'∧RepL X.K G' ds vs) I ?_) fun us s' hZ89=>(by obtain⟨vs,H',I',r,ds,e1,G',x,rp⟩:=hZ89;exact⟨ds,e1,vs,G',H',I',r,x,rp⟩);refine⟨G,ρ,hsm,hro,ho.fst,fun d ed v G1 H1 x1 r1=>⟨G1,ρ,x1.gh,hro.mono x1.gg,(ho.snd ed x1.hh).fst,fun ds eds vs G2 H2 x2 r2=>⟨d::ds,al ed (al eds rfl),G2,x1.trans x2,.cons (r1.mono x2.gg) r2⟩⟩⟩
noncomputable def DOp (X:Cx)(E:XK)(f:Value→Value→Sem Value)(g:D→D→Res D):Prop:=
 ∀(pins:List (Addr×Obj)) (s:Shared) (σ:St) (G H:Hp) (x y:V) (dx dy:D) (v u:Value),Inv X pins σ H s→Same G H→Rep X.K G dx x→Rep X.K G dy y→RelV x v→RelV y u→OkR E H (g dx dy)→
  wpAny (model X.prog X.w) X.A (f v u) (DQ X pins σ G H (g dx dy)) X.xe s
theorem DOp.of {f:Value→Value→Sem Value}{r:R2}{g:D→D→Res D}(ho:oU X f r)
  (h:∀(G H:Hp) (x y:V) (dx dy:D),Same G H→Rep X.K G dx x→Rep X.K G dy y→OkR E H (g dx dy)→r x y H (fun v' H'=>∃d G',g dx dy= .ok d∧Ext G H G' H'∧Rep X.K G' d v')):DOp X E f g:=by
 intro pins s σ G H x y dx dy v u I hs rx ry rv ru ok;refine aE (ho pins s σ H x y v u _ I rv ru (h G H x y dx dy hs rx ry ok)) fun w s' hZ90=>(by obtain⟨v',H',I',r',d,G',e,x',rp⟩:=hZ90;exact⟨d,e,v',G',H',I',r',x',rp⟩)
noncomputable def aj (f:DS→Res D)(g:DS→Res D)(o:D→D→Res D):DS→Res D:=fun ρ=>(f ρ).bind fun a=>(g ρ).bind fun b=>o a b
theorem ra {a b:Expr}{fa fb:DS→Res D}(ha:PD X E a fa)(hb:PD X E b fb){op:Value→Value→Sem Value}{o:D→D→Res D}(hop:DOp X E op o){pins:List (Addr×Obj)}{s:Shared}{σ:St}{G H:Hp}{ρ:DS}(I:Inv X pins σ H s)(hs:Same G H)(hro:Ro X.K G σ ρ)(ho:OkR E H (aj fa fb o ρ)) :
  wpAny (model X.prog X.w) X.A (eval a X.env) (fun v s₁=>wpAny (model X.prog X.w) X.A (eval b X.env) (fun u s₂=>wpAny (model X.prog X.w) X.A (op v u) (DQ X pins σ G H (aj fa fb o ρ)) X.xe s₂) X.xe s₁) X.xe s:=by
 refine aE (ha pins s σ G H ρ I hs hro ho.fst) fun v s1 hZ91=>?_;obtain⟨d1,e1,v1,G1,H1,I1,r1,x1,p1⟩:=hZ91;refine aE (hb pins s1 σ G1 H1 ρ I1 x1.gh (hro.mono x1.gg) (ho.snd e1 x1.hh).fst) fun u s2 hZ92=>?_;obtain⟨d2,e2,v2,G2,H2,I2,r2,x2,p2⟩:=hZ92;refine aE (hop pins s2 σ G2 H2 v1 v2 d1 d2 v u I2 x2.gh (p1.mono x2.gg) p2 r1 r2 ((ho.snd e1 x1.hh).snd e2 x2.hh)) fun w s3 hZ93=>?_;obtain⟨d,e,v3,G3,H3,I3,r3,x3,p3⟩:=hZ93;exact⟨d,al e1 (al e2 e),v3,G3,H3,I3,r3,(x1.trans x2).trans x3,p3⟩
theorem aA {op:Operator}{a b:Expr}{fa fb:DS→Res D}{o:D→D→Res D}{pos:Pos}(hop:DOp X E (binaryOp op) o)(ha:PD X E a fa)(hb:PD X E b fb):PD X E (.BinOp a op b pos) (aj fa fb o):=
 fun pins s σ G H ρ I hs hro ho=>wpAny_BinOp (ra ha hb hop I hs hro ho)
theorem oi {op:CmpOp}{a b:Expr}{fa fb:DS→Res D}{o:D→D→Res D}{pos:Pos}(hop:DOp X E (compareOp op) o)(ha:PD X E a fa)(hb:PD X E b fb)(hm:behindInMarks op b=false):PD X E (.Compare a [op] [b] pos) (aj fa fb o):=
 fun pins s σ G H ρ I hs hro ho=>wpAny_Compare1 (ra ha hb hop I hs hro ho) hm
noncomputable def f7 (f:DS→Res D):DS→Res Bool:=fun ρ=>(f ρ).bind fun d=>match d with|.bl b=>.ok b|_=>.bad
theorem aM {op:CmpOp}{a b:Expr}{fa fb:DS→Res D}{o:D→D→Res D}{pos:Pos}(hop:DOp X E (compareOp op) o)(ha:PD X E a fa)(hb:PD X E b fb)(hm:behindInMarks op b=false):rN X E (.Compare a [op] [b] pos) (f7 (aj fa fb o)):=by
 intro pins s σ G H ρ I hs hro ho;refine wpAny_isTrue_Compare1 (aE (ra ha hb hop I hs hro ho.fst) fun v s1 h1=>aE h1 fun u s2 h2=>aE h2 fun c s3 hZ94=>?_) hm;obtain⟨d,e,v3,G3,H3,I3,r3,x3,p3⟩:=hZ94;have k:=ho.snd e (Same.refl H);cases d with
 |bl b=>
  unfold Rep at p3;subst p3;cases r3;exact wpAny_truthy_bool ⟨al e rfl,G3,H3,I3,x3⟩
 |_=>exact k.elim
theorem sx {e:Expr}{f:DS→Res D}(h:PD X E e f)(he:∀whole,isTrue e X.env whole=(do let v ←whole;standAt e.pos;holding [v] (truthy v)):=by intro _;rfl):rN X E e (f7 f):=by
 intro pins s σ G H ρ I hs hro ho;refine isTrue_plain (aE (h pins s σ G H ρ I hs hro ho.fst) fun v s1 hZ95=>?_) (he _);obtain⟨d,e,v3,G3,H3,I3,r3,x3,p3⟩:=hZ95;have k:=ho.snd e (Same.refl H);cases d with
 |bl b=>
  unfold Rep at p3;subst p3;cases r3;exact wpAny_truthy_bool ⟨al e rfl,G3,H3,I3,x3⟩
 |_=>exact k.elim
end
theorem rep_int {K:W.Frag}{G:Hp}{i:Int}{v:V}:Rep K G (.int i) v↔v= .int i:=by unfold Rep;exact Iff.rfl
theorem rep_bl {K:W.Frag}{G:Hp}{i:Bool}{v:V}:Rep K G (.bl i) v↔v= .bl i:=by unfold Rep;exact Iff.rfl
theorem rep_non {K:W.Frag}{G:Hp}{v:V}:Rep K G .non v↔v= .non:=by unfold Rep;exact Iff.rfl
theorem rep_str {K:W.Frag}{G:Hp}{i:Str}{v:V}:Rep K G (.str i) v↔v= .str i:=by unfold Rep;exact Iff.rfl
theorem rep_lst {K:W.Frag}{G:Hp}{ds:List D}{v:V}:Rep K G (.lst ds) v↔∃a xs,v= .ref a∧LsS K G a xs∧RepL K G ds xs:=by unfold Rep;exact Iff.rfl
theorem rep_tup {K:W.Frag}{G:Hp}{ds:List D}{v:V}:Rep K G (.tup ds) v↔∃a xs,v= .ref a∧TpS K G a xs∧RepL K G ds xs:=by unfold Rep;exact Iff.rfl
theorem sN {K:W.Frag}{G:Hp}{ns:List Int}{v:V}:Rep K G (.scr ns) v↔∃a,v= .ref a∧f6 K G a (ns.map V.int):=by unfold Rep;exact Iff.rfl
theorem rep_xc {K:W.Frag}{G:Hp}{C:Addr}{v:V}:Rep K G (.xc C) v↔∃a,v= .ref a∧G a=some (jS a (.ref C))∧ExcK K C:=by unfold Rep;exact Iff.rfl
theorem rep_fdc {K:W.Frag}{G:Hp}{ks:List (List aV)}{ds:List D}{v:V}:Rep K G (.fdc ks ds) v↔∃a o kvs,v= .ref a∧G a=some (.frz o (.dT kvs))∧kvs.map (·.1)=ks∧RepL K G ds (kvs.map (·.2)):=by unfold Rep;exact Iff.rfl
theorem rep_dct {K:W.Frag}{G:Hp}{ks:List (List aV)}{ds:List D}{v:V}:Rep K G (.dct ks ds) v↔∃a kvs,v= .ref a∧Rd G a (.dT kvs)∧kvs.map (·.1)=ks∧RepL K G ds (kvs.map (·.2)):=by unfold Rep;exact Iff.rfl
theorem rep_ins {K:W.Frag}{G:Hp}{C:Addr}{ns:List Str}{ds:List D}{v:V}:Rep K G (.ins C ns ds) v↔∃a dx fs,v= .ref a∧G a=some (.ins C dx fs)∧fs.map (·.1)=ns∧RepL K G ds (fs.map (·.2)):=by unfold Rep;exact Iff.rfl
noncomputable def gA (c:Int→Int→Bool)(g:Int→Int→D):D→D→Res D
 |.int i,.int j=>if c i j=true then .ok (g i j) else .bad
 |_,_=>.bad
section
variable{X:Cx}{E:XK}
theorem nq {f:Value→Value→Sem Value}{C:Int→Int→Prop}{g:Int→Int→V}{c:Int→Int→Bool}{gD:Int→Int→D}(ho:oU X f (rI C g))(hc:∀i j,c i j=true→C i j)(hg:∀i j G,Rep X.K G (gD i j) (g i j)):DOp X E f (gA c gD):=
 DOp.of ho fun G H x y dx dy hs rx ry ok=>by
  unfold gA at ok ⊢;split at ok
  ·rename_i i j;rw[rep_int]at rx ry;subst rx ry;by_cases h:c i j=true
   ·rw[if_pos h];exact⟨i,j,rfl,rfl,hc i j h,_,G,rfl,.refl hs,hg i j G⟩
   ·rw[if_neg h]at ok;exact ok.elim
  ·exact ok.elim
theorem gq {f:Value→Value→Sem Value}{g:Int→Int→V}{gD:Int→Int→D}(ho:oU X f (zD g))(hg:∀i j G,Rep X.K G (gD i j) (g i j)):DOp X E f (gA (fun _ _=>true) gD):=
 DOp.of ho fun G H x y dx dy hs rx ry ok=>by
  unfold gA at ok ⊢;split at ok
  ·rename_i i j;rw[rep_int]at rx ry;subst rx ry;exact⟨i,j,rfl,rfl,_,G,rfl,.refl hs,hg i j G⟩
  ·exact ok.elim
instance (i j:Int):Decidable (CMul i j):=by unfold CMul;infer_instance
instance (i j:Int):Decidable (ux i j):=by unfold ux;infer_instance
noncomputable def uB:D→D→Res D:=gA (fun _ _=>true) fun i j=>.int (i+j)
noncomputable def oH:D→D→Res D:=gA (fun _ _=>true) fun i j=>.int (i-j)
noncomputable def ym:D→D→Res D:=gA (fun i j=>decide (CMul i j)) fun i j=>.int (i*j)
noncomputable def sd:D→D→Res D:=gA (fun i j=>decide (ux i j)) fun i j=>.int (i / j)
noncomputable def pV:D→D→Res D:=gA (fun _ j=>decide (0<j)) fun i j=>.int (i % j)
noncomputable def AR:D→D→Res D:=gA (fun _ _=>true) fun i j=>.bl (decide (i<j))
noncomputable def qy:D→D→Res D:=gA (fun _ _=>true) fun i j=>.bl (decide (i≤j))
noncomputable def Ca:D→D→Res D:=gA (fun _ _=>true) fun i j=>.bl (decide (j<i))
noncomputable def DT:D→D→Res D:=gA (fun _ _=>true) fun i j=>.bl (decide (j≤i))
theorem do_add:DOp X E (binaryOp .Add) uB:=gq AZ fun _ _ _=>rep_int.mpr rfl
theorem nn:DOp X E (binaryOp .Sub) oH:=gq A5 fun _ _ _=>rep_int.mpr rfl
theorem do_mul:DOp X E (binaryOp .Mult) ym:=nq A3 (fun _ _ h=>of_decide_eq_true h) fun _ _ _=>rep_int.mpr rfl
theorem xH:DOp X E (binaryOp .FloorDiv) sd:=nq yw (fun _ _ h=>of_decide_eq_true h) fun _ _ _=>rep_int.mpr rfl
theorem kT:DOp X E (binaryOp .Mod) pV:=nq A1 (fun _ _ h=>of_decide_eq_true h) fun _ _ _=>rep_int.mpr rfl
theorem rX:DOp X E (compareOp .Lt) AR:=gq CD fun _ _ _=>rep_bl.mpr rfl
theorem fY:DOp X E (compareOp .LtE) qy:=gq CC fun _ _ _=>rep_bl.mpr rfl
theorem uK:DOp X E (compareOp .Gt) Ca:=gq CB fun _ _ _=>rep_bl.mpr rfl
noncomputable def AW:D→Res D
 |.int i=>.ok (.int (-i))
 |_=>.bad
theorem Ba {a:Expr}{fa:DS→Res D}{pos:Pos}(ha:PD X E a fa):PD X E (.UnaryOp .USub a pos) (fun ρ=>(fa ρ).bind AW):=by
 intro pins s σ G H ρ I hs hro ho;refine UnaryOp_ (aE (ha pins s σ G H ρ I hs hro ho.fst) fun v s1 hZ96=>?_);obtain⟨d1,e1,v1,G1,H1,I1,r1,x1,p1⟩:=hZ96;have k:=ho.snd e1 x1.hh;cases d1 with
 |int i=>
  rw[rep_int]at p1;subst p1;exact aE (Bz pins s1 σ H1 (.int i) v (fun v' H'=>H'=H1∧v'= .int (-i)) I1 r1 ⟨i,rfl,rfl,rfl⟩) fun w s2 hZ97=>by
   obtain⟨v2,H2,I2,r2,h1,h2⟩:=hZ97;subst h1 h2;exact⟨.int (-i),al e1 rfl,_,G1,_,I2,r2,x1,rep_int.mpr rfl⟩
 |_=>exact k.elim
noncomputable def C6 (d:D):Bool:=match d with|.non=>true|_=>false
noncomputable def Dm (d e:D):Res D:=match e with|.non=>.ok (.bl (C6 d))|_=>.bad
noncomputable def Cw (d e:D):Res D:=match e with|.non=>.ok (.bl (!C6 d))|_=>.bad
theorem vX {a:Expr}{pos:Pos}{f:DS→Res Bool}(ha:rN X E a f):PDW X E (.BoolOp .And [a] pos) f:=by
 intro wh pins s σ G H ρ I hs hro ho;refine isTrue_and (aE (ha pins s σ G H ρ I hs hro ho) fun c s1 e=>?_);cases c with
 |true=>exact isTrue_and_nil e
 |false=>exact e
noncomputable def xq (f g:DS→Res Bool):DS→Res Bool:=fun ρ=>(f ρ).bind fun b=>if b=true then g ρ else .ok false
noncomputable def DW (f g:DS→Res Bool):DS→Res Bool:=fun ρ=>(f ρ).bind fun b=>if b=true then .ok true else g ρ
theorem yC {a b:Expr}{rest:List Expr}{pos:Pos}{f g:DS→Res Bool}(ha:rN X E a f)(hb:PDW X E (.BoolOp .And (b::rest) pos) g):PDW X E (.BoolOp .And (a::b::rest) pos) (xq f g):=by
 intro wh pins s σ G H ρ I hs hro ho;refine isTrue_and (aE (ha pins s σ G H ρ I hs hro ho.fst) fun c s1 hZ98=>?_);obtain⟨e,G1,H1,I1,x1⟩:=hZ98;cases c with
 |true=>exact aE (hb wh pins s1 σ G1 H1 ρ I1 x1.gh (hro.mono x1.gg) (ho.snd e x1.hh)) fun c2 s2 hZ99=>(by obtain⟨e2,G2,H2,I2,x2⟩:=hZ99;exact⟨al e (by rw[if_pos rfl];exact e2),G2,H2,I2,x1.trans x2⟩)
 |false=>exact⟨al e rfl,G1,H1,I1,x1⟩
noncomputable def jV (f:DS→Res Bool):DS→Res Bool:=fun ρ=>(f ρ).bind fun b=>.ok (!b)
theorem dl {a:Expr}{pos:Pos}{f:DS→Res Bool}(ha:rN X E a f):rN X E (.UnaryOp .Not a pos) (jV f):=by
 intro pins s σ G H ρ I hs hro ho;exact isTrue_not (aE (ha pins s σ G H ρ I hs hro ho.fst) fun c s1 hZ100=>(by obtain⟨e,G1,H1,I1,x1⟩:=hZ100;exact⟨al e rfl,G1,H1,I1,x1⟩))
noncomputable def zP (f g:DS→Res D):DS→Res D:=fun ρ=>(f ρ).bind fun d=>match d with|.bl true=>g ρ|.bl false=>.ok (.bl false)|_=>.bad
noncomputable def CF (f g:DS→Res D):DS→Res D:=fun ρ=>(f ρ).bind fun d=>match d with|.bl true=>.ok (.bl true)|.bl false=>g ρ|_=>.bad
noncomputable def Dq (f:DS→Res D):DS→Res D:=fun ρ=>(f ρ).bind fun d=>match d with|.bl b=>.ok (.bl (!b))|_=>.bad
theorem vU {op}{a:Expr}{pos:Pos}{f:DS→Res D}(h:PD X E a f):PD X E (.BoolOp op [a] pos) f:=fun pins s σ G H ρ I hs hro ho=>BoolOp_one (h pins s σ G H ρ I hs hro ho)
theorem A8 {a b:Expr}{rest:List Expr}{pos:Pos}{f g:DS→Res D}(ha:PD X E a f)(hb:PD X E (.BoolOp .And (b::rest) pos) g):PD X E (.BoolOp .And (a::b::rest) pos) (zP f g):=by
 intro pins s σ G H ρ I hs hro ho;refine BoolOp_and (aE (ha pins s σ G H ρ I hs hro ho.fst) fun v s1 hZ101=>?_);obtain⟨d1,e1,v1,G1,H1,I1,r1,x1,p1⟩:=hZ101;have k:=ho.snd e1 x1.hh;cases d1 with
 |bl c=>
  rw[rep_bl]at p1;subst p1;cases r1;refine wpAny_truthy_bool ?_;cases c with
  |true=>exact aE (hb pins s1 σ G1 H1 ρ I1 x1.gh (hro.mono x1.gg) k) fun w s2 hZ102=>(by obtain⟨d2,e2,v2,G2,H2,I2,r2,x2,p2⟩:=hZ102;exact⟨d2,al e1 e2,v2,G2,H2,I2,r2,x1.trans x2,p2⟩)
  |false=>exact⟨_,al e1 rfl,.bl false,G1,H1,I1,rfl,x1,rep_bl.mpr rfl⟩
 |_=>exact k.elim
theorem CH {a b:Expr}{rest:List Expr}{pos:Pos}{f g:DS→Res D}(ha:PD X E a f)(hb:PD X E (.BoolOp .Or (b::rest) pos) g):PD X E (.BoolOp .Or (a::b::rest) pos) (CF f g):=by
 intro pins s σ G H ρ I hs hro ho;refine BoolOp_or (aE (ha pins s σ G H ρ I hs hro ho.fst) fun v s1 hZ103=>?_);obtain⟨d1,e1,v1,G1,H1,I1,r1,x1,p1⟩:=hZ103;have k:=ho.snd e1 x1.hh;cases d1 with
 |bl c=>
  rw[rep_bl]at p1;subst p1;cases r1;refine wpAny_truthy_bool ?_;cases c with
  |false=>exact aE (hb pins s1 σ G1 H1 ρ I1 x1.gh (hro.mono x1.gg) k) fun w s2 hZ104=>(by obtain⟨d2,e2,v2,G2,H2,I2,r2,x2,p2⟩:=hZ104;exact⟨d2,al e1 e2,v2,G2,H2,I2,r2,x1.trans x2,p2⟩)
  |true=>exact⟨_,al e1 rfl,.bl true,G1,H1,I1,rfl,x1,rep_bl.mpr rfl⟩
 |_=>exact k.elim
noncomputable def fF (fa fb fc:DS→Res D)(o o':D→D→Res D):DS→Res Bool:=fun ρ=>(fa ρ).bind fun a=>(fb ρ).bind fun b=>(o a b).bind fun r=>match r with|.bl true=>(fc ρ).bind fun c=>(o' b c).bind fun q=>(match q with|.bl k=>.ok k|_=>.bad)|.bl false=>.ok false|_=>.bad
noncomputable def aF (n:Nat):Bool:=decide (n≤100000)
theorem bc {n:Nat}(h:aF n=true):n≤sizeLine:=le_trans (of_decide_eq_true h) (by decide)
noncomputable def bT (f:DS→Res (List D)):DS→Res D:=fun ρ=>(f ρ).bind fun ds=>if aF ds.length=true then .ok (.lst ds) else .bad
noncomputable def iC (f:DS→Res (List D)):DS→Res D:=fun ρ=>(f ρ).bind fun ds=>if aF ds.length=true then .ok (.tup ds) else .bad
theorem a_ {es:List Expr}{pos:Pos}{f:DS→Res (List D)}(h:kE X E es f):PD X E (.List es pos) (bT f):=by
 intro pins s σ G H ρ I hs hro ho;refine aE (v8 (iy h) pins s σ H (fun v H'=>∃d G',bT f ρ= .ok d∧Ext G H G' H'∧Rep X.K G' d v) I ?_) fun u s' hZ105=>(by obtain⟨v,H',I',r,d,G',e,x,rp⟩:=hZ105;exact⟨d,e,v,G',H',I',r,x,rp⟩);refine⟨G,ρ,hs,hro,ho.fst,fun ds e vs G1 H1 x1 r1=>?_⟩;have k:=ho.snd e x1.hh;by_cases hl:aF ds.length=true
 ·refine⟨by rw[←r1.length];exact bc hl,fun p hp=>⟨.lst ds,aS G1 p (.lst vs),al e (if_pos hl),x1.trans (.new x1.gh hp _),rep_lst.mpr ⟨p,vs,rfl,.of ao,r1.mono (Ext.new x1.gh hp _).gg⟩⟩⟩
 ·rw[if_neg hl]at k;exact k.elim
theorem eQ {es:List Expr}{x1}{pos:Pos}{f:DS→Res (List D)}(h:kE X E es f):PD X E (.Tuple es x1 pos) (iC f):=by
 intro pins s σ G H ρ I hs hro ho;refine aE (Bj (iy h) pins s σ H (fun v H'=>∃d G',iC f ρ= .ok d∧Ext G H G' H'∧Rep X.K G' d v) I ?_) fun u s' hZ106=>(by obtain⟨v,H',I',r,d,G',e,x,rp⟩:=hZ106;exact⟨d,e,v,G',H',I',r,x,rp⟩);refine⟨G,ρ,hs,hro,ho.fst,fun ds e vs G1 H1 x1 r1=>?_⟩;have k:=ho.snd e x1.hh;by_cases hl:aF ds.length=true
 ·refine⟨by rw[←r1.length];exact bc hl,fun p hp=>⟨.tup ds,aS G1 p (.tup vs),al e (if_pos hl),x1.trans (.new x1.gh hp _),rep_tup.mpr ⟨p,vs,rfl,.of ao,r1.mono (Ext.new x1.gh hp _).gg⟩⟩⟩
 ·rw[if_neg hl]at k;exact k.elim
end
section
variable{X:Cx}{E:XK}
theorem Bc {e:Expr}{r:R2}{fa fb:DS→Res D}{o:D→D→Res D}(he:PE X e (DO r (tD X.K E fa) (tD X.K E fb)))
  (h:∀(G H:Hp) (x y:V) (dx dy:D) (Q:VK),Same G H→Rep X.K G dx x→Rep X.K G dy y→OkR E H (o dx dy)→(∀d v' G' H',o dx dy= .ok d→Ext G H G' H'→Rep X.K G' d v'→Q v' H')→r x y H Q):PD X E e (aj fa fb o):=by
 intro pins s σ G H ρ I hs hro ho;refine aE (he pins s σ H (fun v H'=>∃d G',aj fa fb o ρ= .ok d∧Ext G H G' H'∧Rep X.K G' d v) I ?_) fun u s' hZ107=>(by obtain⟨v,H',I',r',d,G',e,x,rp⟩:=hZ107;exact⟨d,e,v,G',H',I',r',x,rp⟩);refine⟨G,ρ,hs,hro,ho.fst,fun d1 e1 v1 G1 H1 x1 p1=>⟨G1,ρ,x1.gh,hro.mono x1.gg,(ho.snd e1 x1.hh).fst,fun d2 e2 v2 G2 H2 x2 p2=>?_⟩⟩;exact h G2 H2 v1 v2 d1 d2 _ x2.gh (p1.mono x2.gg) p2 ((ho.snd e1 x1.hh).snd e2 x2.hh) fun d v' G' H' ed xx rp=>⟨d,G',al e1 (al e2 ed),(x1.trans x2).trans xx,rp⟩
theorem RepL.atI {K:W.Frag}{G:Hp}{ds:List D}{vs:List V}{i:Int}{d:D}(h:RepL K G ds vs)(e:atI ds i=some d):∃v,L2.atI vs i=some v∧Rep K G d v:=by
 unfold L2.atI at e ⊢;rw[←h.length];cases q:zn ds.length i with
 |none=>rw[q]at e;cases e
 |some j=>
  rw[q]at e;exact h.get (by simpa using e)
noncomputable def bG:D→D→Res D
 |.lst l,.int i=>match L2.atI l i with|some d=>.ok d|none=>.bad
 |.tup l,.int i=>match L2.atI l i with|some d=>.ok d|none=>.bad
 |.scr ns,.int i=>match L2.atI ns i with|some n=>.ok (.int n)|none=>.bad
 |.str z,.int i=>match L2.atI z.cps.toList i with|some c=>if aF z.length=true then .ok (.str ⟨#[c]⟩) else .bad|none=>.bad
 |_,_=>.bad
theorem xr {α β:Type}{f:α→β}{xs:List α}{i:Int}{a:α}(h:L2.atI xs i=some a):L2.atI (xs.map f) i=some (f a):=by
 unfold L2.atI at h ⊢;rw[length_map];cases q:zn xs.length i with
 |none=>rw[q]at h;cases h
 |some j=>
  rw[q]at h;show (xs.map f)[j]?=some (f a);have h':xs[j]?=some a:=h;rw[getElem?_map,h'];rfl
theorem bj {a b:Expr}{pos:Pos}{fa fb:DS→Res D}(ha:PD X E a fa)(hb:PD X E b fb)(hp:rO b:=by intro _ _;rfl):PD X E (.Subscript a b pos) (aj fa fb bG):=by
 refine Bc (CJ AF (eR ha) (eR hb) hp) fun G H x y dx dy Q hs rx ry ok k=>?_;unfold bG at ok k;split at ok
 ·rename_i l i;rw[rep_lst]at rx;rw[rep_int]at ry;obtain⟨p,xs,rfl,sq,rl⟩:=rx;subst ry;dsimp only at ok k;cases q:L2.atI l i with
  |none=>rw[q]at ok;exact ok.elim
  |some d=>
   obtain⟨v,hv,rv⟩:=rl.atI q;rw[q]at k;exact .inl ⟨p,xs,i,v,rfl,rfl,hs.seq sq.sq,hv,k d v G H rfl (.refl hs) rv⟩
 ·rename_i l i;rw[rep_tup]at rx;rw[rep_int]at ry;obtain⟨p,xs,rfl,sq,rl⟩:=rx;subst ry;dsimp only at ok k;cases q:L2.atI l i with
  |none=>rw[q]at ok;exact ok.elim
  |some d=>
   obtain⟨v,hv,rv⟩:=rl.atI q;rw[q]at k;exact .inr (.inl ⟨p,xs,i,v,rfl,rfl,hs.seqT sq,hv,k d v G H rfl (.refl hs) rv⟩)
 ·rename_i ns i;rw[sN]at rx;rw[rep_int]at ry;obtain⟨p,rfl,sq⟩:=rx;subst ry;dsimp only at ok k;cases q:L2.atI ns i with
  |none=>rw[q]at ok;exact ok.elim
  |some n=>
   rw[q]at k;exact .inl ⟨p,_,i,.int n,rfl,rfl,hs.seq sq,xr q,k (.int n) (.int n) G H rfl (.refl hs) (rep_int.mpr rfl)⟩
 ·rename_i z i;rw[rep_str]at rx;rw[rep_int]at ry;subst rx ry;dsimp only at ok k;cases q:L2.atI z.cps.toList i with
  |none=>rw[q]at ok;exact ok.elim
  |some c=>
   rw[q]at k ok;dsimp only at k ok;by_cases hz:aF z.length=true
   ·rw[if_pos hz]at k;exact .inr (.inr ⟨z,i,c,rfl,rfl,bc hz,q,k _ _ G H rfl (.refl hs) (rep_str.mpr rfl)⟩)
   ·rw[if_neg hz]at ok;exact ok.elim
 ·exact ok.elim
noncomputable def xl (K:W.Frag)(E:XK)(r:List V→Hp→VK→Prop)(g:List D→Res D):Prop:=
 ∀(G H:Hp) (vs:List V) (ds:List D) (Q:VK),Same G H→RepL K G ds vs→OkR E H (g ds)→(∀d v' G' H',g ds= .ok d→Ext G H G' H'→Rep K G' d v'→Q v' H')→r vs H Q
noncomputable def bn (fs:DS→Res (List D))(g:List D→Res D):DS→Res D:=fun ρ=>(fs ρ).bind g
theorem vV {e:Expr}{r:List V→Hp→VK→Prop}{fs:DS→Res (List D)}{g:List D→Res D}(he:PE X e (DA r (tDA X.K E fs)))(h:xl X.K E r g):PD X E e (bn fs g):=by
 intro pins s σ G H ρ I hs hro ho;refine aE (he pins s σ H (fun v H'=>∃d G',bn fs g ρ= .ok d∧Ext G H G' H'∧Rep X.K G' d v) I ?_) fun u s' hZ108=>(by obtain⟨v,H',I',r',d,G',e,x,rp⟩:=hZ108;exact⟨d,e,v,G',H',I',r',x,rp⟩);refine⟨G,ρ,hs,hro,ho.fst,fun ds e1 vs G1 H1 x1 p1=>?_⟩;exact h G1 H1 vs ds _ x1.gh p1 (ho.snd e1 x1.hh) fun d v' G' H' ed xx rp=>⟨d,G',al e1 ed,x1.trans xx,rp⟩
theorem iW {x:Str}{p pos:Pos}{e:Expr}{es:List Expr}{id:String}{r:List V→Hp→VK→Prop}{fs:DS→Res (List D)}{g:List D→Res D}(hc:dz X (.builtin id) r)(h:xl X.K E r g)(hg:Gl X x)(hm:X.mg x=none)(hv:bootBuiltins x=some (.builtin id))(ha:kE X E (e::es) fs)
  (hn:x≠ "__name__" :=by decide) (hdb:(x==("__debug__" :Str))=false:=by decide)
  (he:starEach (e::es) X.env=(false,eval e X.env)::starEach es X.env:=by rfl) (hpl:(backTo pos (starEach es X.env)).any (·.1)=false:=by rfl):PD X E (.Call (.Name x p) (e::es) [] pos) (bn fs g):=
 vV (qd hc hg hm hv (iy ha) hn hdb he hpl) h
theorem jE {x:Str}{p pos:Pos}{e:Expr}{es:List Expr}{T:String}{r:List V→Hp→VK→Prop}{fs:DS→Res (List D)}{g:List D→Res D}(hc:dz X (.type T) r)(h:xl X.K E r g)(hg:Gl X x)(hm:X.mg x=none)(hv:bootBuiltins x=some (.type T))(ha:kE X E (e::es) fs)
  (hn:x≠ "__name__" :=by decide) (hdb:(x==("__debug__" :Str))=false:=by decide)
  (he:starEach (e::es) X.env=(false,eval e X.env)::starEach es X.env:=by rfl) (hpl:(backTo pos (starEach es X.env)).any (·.1)=false:=by rfl):PD X E (.Call (.Name x p) (e::es) [] pos) (bn fs g):=
 vV (fg hc hg hm hv (iy ha) hn hdb he hpl) h
noncomputable def bz:List D→Res D
 | [.lst l]=>.ok (.int l.length)
 | [.tup l]=>.ok (.int l.length)
 | [.scr ns]=>.ok (.int ns.length)
 |_=>.bad
theorem zU {K:W.Frag}:xl K E (fun xs H Q=>∃p ys,xs=[.ref p]∧(f6 K H p ys∨kG K H p ys)∧Q (.int ys.length) H) bz:=by
 intro G H vs ds Q hs rl ok k;unfold bz at ok k;split at ok
 ·obtain⟨v,r,rfl,l,r0⟩:=rl.inv;rw[r0.inv0];rw[rep_lst]at l;obtain⟨p,xs,rfl,sq,l⟩:=l;exact⟨p,xs,rfl,.inl (hs.seq sq.sq),k _ _ G H rfl (.refl hs) (by rw[l.length];exact rep_int.mpr rfl)⟩
 ·obtain⟨v,r,rfl,l,r0⟩:=rl.inv;rw[r0.inv0];rw[rep_tup]at l;obtain⟨p,xs,rfl,sq,l⟩:=l;exact⟨p,xs,rfl,.inr (hs.seqT sq),k _ _ G H rfl (.refl hs) (by rw[l.length];exact rep_int.mpr rfl)⟩
 ·obtain⟨v,r,rfl,l,r0⟩:=rl.inv;rw[r0.inv0];rw[sN]at l;obtain⟨p,rfl,sq⟩:=l;exact⟨p,_,rfl,.inl (hs.seq sq),k _ _ G H rfl (.refl hs) (by rw[length_map];exact rep_int.mpr rfl)⟩
 ·exact ok.elim
noncomputable def Ct:List D→Res D
 | [.int i,.int j]=>.ok (.int (min i j))
 |_=>.bad
noncomputable def Cs:List D→Res D
 | [.int i,.int j]=>.ok (.int (max i j))
 |_=>.bad
noncomputable def mr:List D→Res D
 | [.lst l]=>.ok (.lst l)
 | [.tup l]=>.ok (.lst l)
 |_=>.bad
noncomputable def lF:List D→Res D
 | [.lst l]=>.ok (.tup l)
 | [.tup l]=>.ok (.tup l)
 |_=>.bad
theorem xE {K:W.Frag}:xl K E (fun xs H Q=>∃p ys,xs=[.ref p]∧(f6 K H p ys∨kG K H p ys)∧∀l,H l=none→Q (.ref l) (aS H l (.lst ys))) mr:=by
 intro G H vs ds Q hs rl ok k;unfold mr at ok k;split at ok
 ·obtain⟨v,r,rfl,m,r0⟩:=rl.inv;rw[r0.inv0];rw[rep_lst]at m;obtain⟨p,xs,rfl,sq,m⟩:=m;exact⟨p,xs,rfl,.inl (hs.seq sq.sq),fun l hl=>k _ _ _ _ rfl (.new hs hl _) (rep_lst.mpr ⟨l,xs,rfl,.of ao,m.mono (Ext.new hs hl _).gg⟩)⟩
 ·obtain⟨v,r,rfl,m,r0⟩:=rl.inv;rw[r0.inv0];rw[rep_tup]at m;obtain⟨p,xs,rfl,sq,m⟩:=m;exact⟨p,xs,rfl,.inr (hs.seqT sq),fun l hl=>k _ _ _ _ rfl (.new hs hl _) (rep_lst.mpr ⟨l,xs,rfl,.of ao,m.mono (Ext.new hs hl _).gg⟩)⟩
 ·exact ok.elim
theorem uI {K:W.Frag}:xl K E (fun xs H Q=>∃p ys,xs=[.ref p]∧((f6 K H p ys∧∀l,H l=none→Q (.ref l) (aS H l (.tup ys)))∨(kG K H p ys∧Q (.ref p) H))) lF:=by
 intro G H vs ds Q hs rl ok k;unfold lF at ok k;split at ok
 ·obtain⟨v,r,rfl,m,r0⟩:=rl.inv;rw[r0.inv0];rw[rep_lst]at m;obtain⟨p,xs,rfl,sq,m⟩:=m;exact⟨p,xs,rfl,.inl ⟨hs.seq sq.sq,fun l hl=>k _ _ _ _ rfl (.new hs hl _) (rep_tup.mpr ⟨l,xs,rfl,.of ao,m.mono (Ext.new hs hl _).gg⟩)⟩⟩
 ·obtain⟨v,r,rfl,m,r0⟩:=rl.inv;rw[r0.inv0];have rx':=m;rw[rep_tup]at m;obtain⟨p,xs,rfl,sq,m⟩:=m;exact⟨p,xs,rfl,.inr ⟨hs.seqT sq,k _ _ G H rfl (.refl hs) rx'⟩⟩
 ·exact ok.elim
inductive pureSp (K:W.Frag)(m:List D→Res D)(vs:List V)(H:Hp)(Q:VK)(E:XK):Prop
 |mk (ds:List D) (G:Hp) (s:Same G H) (r:RepL K G ds vs) (o:OkR E H (m ds)) (k:∀d,m ds= .ok d→∀v G' H',Ext G H G' H'→Rep K G' d v→Q v H')
noncomputable def jL (C:Addr)(m:Str):D→Bool
 |.ins C' ns _=>C'==C&&!ns.contains m
 |_=>false
noncomputable def ie (C:Addr)(m:Str)(fo:DS→Res D)(g:List D→Res D):DS→Res D:=fun ρ=>(fo ρ).bind fun o=>if jL C m o=true then g [o] else .bad
theorem lf {fs:List (Str×V)}{m:Str}(h:(fs.map (·.1)).contains m=false):fs.lookup m=none:=by
 induction fs with
 |nil=>rfl
 |cons p r ih=>
  rw[map_cons,List.contains_cons,Bool.or_eq_false_iff]at h;rw[lookup_cons];have:(m==p.1)=false:=h.1;rw[this];exact ih h.2
theorem vR {pl:Sem Bool}{CX:oR}{k:Nat}{f C:Addr}{fd:FuncData}{ps:List Str}{g:List D→Res D}{m:Str}{apos pos:Pos}{o:Expr}{fo:DS→Res D}(hoo:PD X E o fo)(c:Cls X.K C)(hm:Meth X.K C m f)(F:FnOk X.prog X.w X.K X.mg X.base CX k f fd ps (pureSp X.K g))(hr:Room k X.A)(hb:Binds X.K fd ps [])(hx:bZ CX X E)
  (hpe:PE X (.Call (.Attribute o m apos) [] [] pos) (zG C m (pureSp X.K g) [] E (tD X.K E fo) zc)):PD X E (.Call (.Attribute o m apos) [] [] pos) (ie C m fo g):=by
 intro pins s σ G H ρ I hs hro ho;refine aE (hpe pins s σ H (fun v H'=>∃d G',ie C m fo g ρ= .ok d∧Ext G H G' H'∧Rep X.K G' d v) I ?_) fun u s' hZ109=>(by obtain⟨v,H',I',r',d,G',e,x,rp⟩:=hZ109;exact⟨d,e,v,G',H',I',r',x,rp⟩);refine⟨G,ρ,hs,hro,ho.fst,fun dO e1 v G1 H1 x1 p1=>?_⟩;have kk:=ho.snd e1 x1.hh;by_cases hi:jL C m dO=true
 ·rw[if_pos hi]at kk;cases dO with
  |ins C' ns l=>
   have hi':=hi;unfold jL at hi';rw[and_eq_true,beq_iff_eq,Bool.not_eq_true']at hi';obtain⟨rfl,hn⟩:=hi';have p1':=p1;rw[rep_ins]at p1;obtain⟨a,dx,fs,rfl,ha,hns,_⟩:=p1;refine⟨a,dx,fs,rfl,x1.gh _ _ ha,lf (by rw[hns];exact hn),?_⟩;exact⟨[.ins C' ns l],G1,x1.gh,.cons p1' .nil,kk,fun d ed v G' H' xx rp=>⟨d,G',al e1 (by rw[if_pos hi];exact ed),x1.trans xx,rp⟩⟩
  |_=>cases hi
 ·rw[if_neg hi]at kk;exact kk.elim
noncomputable def pI:List Str→List D→Str→Option D
 |n::ns,d::ds,f=>if n=f then some d else pI ns ds f
 |_,_,_=>none
noncomputable def iL (C:Addr)(f:Str):D→Res D
 |.ins C' ns ds=>if C'=C then (match pI ns ds f with|some d=>.ok d|none=>.bad) else .bad
 |_=>.bad
theorem jP {K:W.Frag}{G:Hp}{f:Str}{d:D}:∀{fs:List (Str×V)} {ds:List D},RepL K G ds (fs.map (·.2))→pI (fs.map (·.1)) ds f=some d→∃v,fs.lookup f=some v∧Rep K G d v
 | [],ds,_,h=>by cases ds <;> cases h
 |(n,v)::r,[],_,h=>by cases h
 |(n,v)::r,e::ds,hr,h=>by
  obtain⟨v',r',q,a,b⟩:=hr.inv;rw[map_cons]at q;cases q;rw[map_cons]at h;unfold pI at h;rw[lookup_cons];by_cases hn:n=f
  ·subst hn;rw[if_pos rfl]at h;cases h;rw[show (n==n)=true by simp];exact⟨v,rfl,a⟩
  ·rw[if_neg hn]at h;rw[show (f==n)=false by simpa using Ne.symm hn];exact jP b h
theorem vP {C:Addr}{o:Expr}{f:Str}{pos:Pos}{fo:DS→Res D}(ho:PD X E o fo)(c:Cls X.K C)(n:NoAttr X.K C f)(hb:attributeBase o f X.env (eval o X.env)=eval o X.env:=by rfl):PD X E (.Attribute o f pos) (fun ρ=>(fo ρ).bind (iL C f)):=by
 intro pins s σ G H ρ I hs hro hok;refine aE (Bf (eR ho) hb pins s σ H (fun v H'=>∃d G',((fo ρ).bind (iL C f))= .ok d∧Ext G H G' H'∧Rep X.K G' d v) I ?_) fun u s' hZ110=>(by obtain⟨v,H',I',r',d,G',e,x,rp⟩:=hZ110;exact⟨d,e,v,G',H',I',r',x,rp⟩);refine⟨G,ρ,hs,hro,hok.fst,fun dO e1 v G1 H1 x1 p1=>?_⟩;have kk:=hok.snd e1 x1.hh;cases dO with
 |ins C' ns l=>
  unfold iL at kk;dsimp only at kk;by_cases hc:C'=C
  ·subst hc;rw[if_pos rfl]at kk;rw[rep_ins]at p1;obtain⟨a,dx,fs,rfl,ha,hns,rl⟩:=p1;subst hns;cases q:pI (fs.map (·.1)) l f with
   |none=>rw[q]at kk;exact kk.elim
   |some d=>
    obtain⟨v,hv,rv⟩:=jP rl q;exact⟨a,C',dx,fs,v,rfl,x1.gh _ _ ha,c,n,hv,d,G1,al e1 (by unfold iL;dsimp only;rw[if_pos rfl,q]),x1,rv⟩
  ·rw[if_neg hc]at kk;exact kk.elim
 |_=>exact kk.elim
theorem du {op op':CmpOp}{a b c:Expr}{pos:Pos}{fa fb fc:DS→Res D}{o o':D→D→Res D}(ho:DOp X E (compareOp op) o)(ho':DOp X E (compareOp op') o')(ha:PD X E a fa)(hb:PD X E b fb)(hc:PD X E c fc)
  (hm:lastMarks [op,op'] [b,c]=false:=by with_unfolding_all rfl):rN X E (.Compare a [op,op'] [b,c] pos) (fF fa fb fc o o'):=by
 intro w s σ G H ρ I hs hro hok;refine isTrue_chain (aE (ha w s σ G H ρ I hs hro hok.fst) fun v s1 ⟨d1,e1,v1,G1,H1,I1,r1,x1,p1⟩=>test_link (aE (hb w s1 σ G1 H1 ρ I1 x1.gh (hro.mono x1.gg) (hok.snd e1 x1.hh).fst) fun u s2 hZ112=>?_)) hm;obtain⟨d2,e2,v2,G2,H2,I2,r2,x2,p2⟩:=hZ112;have k2:=(hok.snd e1 x1.hh).snd e2 x2.hh;refine aE (ho w s2 σ G2 H2 v1 v2 d1 d2 v u I2 x2.gh (p1.mono x2.gg) p2 r1 r2 k2.fst) fun d s3 hZ113=>?_;obtain⟨d3,e3,v3,G3,H3,I3,r3,x3,p3⟩:=hZ113;have k3:=k2.snd e3 x3.hh;cases d3 with
 |bl k=>
  rw[rep_bl]at p3;subst p3;cases r3;refine wpAny_truthy_bool ?_;cases k with
  |false=>exact ite_ff ⟨al e1 (al e2 (al e3 rfl)),G3,H3,I3,(x1.trans x2).trans x3⟩
  |true=>
   refine ite_tt (test_last (aE (hc w s3 σ G3 H3 ρ I3 x3.gh (hro.mono ((x1.gg.trans x2.gg).trans x3.gg)) k3.fst) fun w' s4 hZ114=>?_));obtain⟨d4,e4,v4,G4,H4,I4,r4,x4,p4⟩:=hZ114;have k4:=k3.snd e4 x4.hh;refine aE (ho' w s4 σ G4 H4 v2 v4 d2 d4 u w' I4 x4.gh (p2.mono (x3.gg.trans x4.gg)) p4 r2 r4 k4.fst) fun d' s5 hZ115=>?_;obtain⟨d5,e5,v5,G5,H5,I5,r5,x5,p5⟩:=hZ115;have k5:=k4.snd e5 x5.hh;cases d5 with
   |bl k=>
    rw[rep_bl]at p5;subst p5;cases r5;exact wpAny_truthy_bool ⟨al e1 (al e2 (al e3 (al e4 (al e5 rfl)))),G5,H5,I5,(((x1.trans x2).trans x3).trans x4).trans x5⟩
   |_=>exact k5.elim
 |_=>exact k3.elim
end
mutual
noncomputable def br:D→D→Bool
 |.non,.non=>true
 |.bl a,.bl b=>a==b
 |.int a,.int b=>a==b
 |.bl a,.int b=>(if a then (1:Int) else 0)==b
 |.int a,.bl b=>a==(if b then (1:Int) else 0)
 |.str a,.str b=>a==b
 |.lst a,.lst b=>eqBL a b
 |.tup a,.tup b=>eqBL a b
 |_,_=>false
noncomputable def eqBL:List D→List D→Bool
 | [],[]=>true
 |a::as,b::bs=>br a b&&eqBL as bs
 |_,_=>false
end
mutual
noncomputable def aJ:Nat→D→Bool
 |_,.non=>true
 |_,.bl _=>true
 |_,.int _=>true
 |_,.str _=>true
 |n,.lst l=>decide (1≤n)&&plL (n-1) l
 |n,.tup l=>decide (1≤n)&&plL (n-1) l
 |_,.ins _ _ _=>false
 |_,.dct _ _=>false
 |_,.scr _=>false
 |_,.xc _=>false
 |_,.fdc _ _=>false
noncomputable def plL:Nat→List D→Bool
 |_,[]=>true
 |n,d::ds=>aJ n d&&plL n ds
end
theorem sF:∀{n:Nat} {ds:List D} {i:Nat} {d:D},plL n ds=true→ds[i]?=some d→aJ n d=true
 |_,[],_,_,_,e=>by simp at e
 |n,a::as,0,_,h,e=>by
  simp at e;subst e;unfold plL at h;rw[and_eq_true]at h;exact h.1
 |n,a::as,i+1,d,h,e=>by
  unfold plL at h;rw[and_eq_true]at h;exact sF (i:=i) h.2 (by simpa using e)
theorem pk:∀{as bs:List D} {n:Nat} {e:Nat→Bool},as.length=bs.length→(∀(i:Nat) (a b:D),as[i]?=some a→bs[i]?=some b→e i=br a b)→n=as.length→(List.range n).all e=eqBL as bs
 | [],[],_,_,_,_,hn=>by subst hn;unfold eqBL;rfl
 | [],_::_,_,_,h,_,_=>by simp at h
 |_::_,[],_,_,h,_,_=>by simp at h
 |a::as,b::bs,n,e,h,he,hn=>by
  subst hn;unfold eqBL;rw[length_cons,List.range_succ_eq_map,List.all_cons,he 0 a b rfl rfl,List.all_map];congr 1;exact pk (e:=e ∘ Nat.succ) (by simpa using h) (fun i x y hx hy=>he (i+1) x y (by simpa using hx) (by simpa using hy)) rfl
theorem kU:∀{as bs:List D},as.length≠bs.length→eqBL as bs=false
 | [],[],h=>absurd rfl h
 | [],_::_,_=>by unfold eqBL;rfl
 |_::_,[],_=>by unfold eqBL;rfl
 |a::as,b::bs,h=>by
  unfold eqBL;rw[kU (as:=as) (bs:=bs) (fun z=>h (by simp[z])),Bool.and_false]
mutual
theorem kX:∀{n:Nat} {d:D},aJ n d=true→br d d=true
 |_,.non,_=>by unfold br;rfl
 |_,.bl b,_=>by unfold br;simp
 |_,.int b,_=>by unfold br;simp
 |_,.str b,_=>by unfold br;simp
 |n,.lst l,h=>by
  unfold aJ at h;rw[and_eq_true]at h;unfold br;exact eqBL_refl h.2
 |n,.tup l,h=>by
  unfold aJ at h;rw[and_eq_true]at h;unfold br;exact eqBL_refl h.2
 |_,.ins _ _ _,h=>by unfold aJ at h;cases h
theorem eqBL_refl:∀{n:Nat} {ds:List D},plL n ds=true→eqBL ds ds=true
 |_,[],_=>by unfold eqBL;rfl
 |n,d::ds,h=>by
  unfold plL at h;rw[and_eq_true]at h;unfold eqBL;rw[kX h.1,eqBL_refl h.2];rfl
end
section
variable{X:Cx}{E:XK}{pins:List (Addr×Obj)}{σ:St}{G H:Hp}{s:Shared}
theorem Inv.isTup (I:Inv X pins σ H s){a:Addr}{xs:List V}(h:kG X.K H a xs):∃its:List Value,Vals xs its∧s.heap.IsTuple a its.toArray:=by
 obtain⟨its,r,p,_⟩:=I.tuple h;exact⟨its,r,p⟩
theorem Inv.isLst (I:Inv X pins σ H s){a:Addr}{xs:List V}(h:f6 X.K H a xs):∃its:List Value,Vals xs its∧s.heap.IsList a its.toArray:=by
 obtain⟨its,r,p,_⟩:=I.list h;exact⟨its,r,p.isList⟩
mutual
theorem Rep.inj (I:Inv X pins σ H s)(hs:Same G H):∀{n m:Nat} {d e:D} {x:V},aJ n d=true→aJ m e=true→Rep X.K G d x→Rep X.K G e x→d=e
 |_,_,.non,e,x,_,he,hx,hy=>by
  rw[rep_non]at hx;subst hx;cases e with
  |non=>rfl
  |bl b=>rw[rep_bl]at hy;cases hy
  |int b=>rw[rep_int]at hy;cases hy
  |str b=>rw[rep_str]at hy;cases hy
  |lst b=>rw[rep_lst]at hy;obtain⟨_,_,q,_⟩:=hy;cases q
  |tup b=>rw[rep_tup]at hy;obtain⟨_,_,q,_⟩:=hy;cases q
  |ins _ _ _=>unfold aJ at he;cases he
  |dct _ _=>unfold aJ at he;cases he
  |scr _=>unfold aJ at he;cases he
  |xc _=>unfold aJ at he;cases he
  |fdc _ _=>unfold aJ at he;cases he
 |_,_,.bl c,e,x,_,he,hx,hy=>by
  rw[rep_bl]at hx;subst hx;cases e with
  |non=>rw[rep_non]at hy;cases hy
  |bl b=>rw[rep_bl]at hy;cases hy;rfl
  |int b=>rw[rep_int]at hy;cases hy
  |str b=>rw[rep_str]at hy;cases hy
  |lst b=>rw[rep_lst]at hy;obtain⟨_,_,q,_⟩:=hy;cases q
  |tup b=>rw[rep_tup]at hy;obtain⟨_,_,q,_⟩:=hy;cases q
  |ins _ _ _=>unfold aJ at he;cases he
  |dct _ _=>unfold aJ at he;cases he
  |scr _=>unfold aJ at he;cases he
  |xc _=>unfold aJ at he;cases he
  |fdc _ _=>unfold aJ at he;cases he
 |_,_,.int c,e,x,_,he,hx,hy=>by
  rw[rep_int]at hx;subst hx;cases e with
  |non=>rw[rep_non]at hy;cases hy
  |bl b=>rw[rep_bl]at hy;cases hy
  |int b=>rw[rep_int]at hy;cases hy;rfl
  |str b=>rw[rep_str]at hy;cases hy
  |lst b=>rw[rep_lst]at hy;obtain⟨_,_,q,_⟩:=hy;cases q
  |tup b=>rw[rep_tup]at hy;obtain⟨_,_,q,_⟩:=hy;cases q
  |ins _ _ _=>unfold aJ at he;cases he
  |dct _ _=>unfold aJ at he;cases he
  |scr _=>unfold aJ at he;cases he
  |xc _=>unfold aJ at he;cases he
  |fdc _ _=>unfold aJ at he;cases he
 |_,_,.str c,e,x,_,he,hx,hy=>by
  rw[rep_str]at hx;subst hx;cases e with
  |non=>rw[rep_non]at hy;cases hy
  |bl b=>rw[rep_bl]at hy;cases hy
  |int b=>rw[rep_int]at hy;cases hy
  |str b=>rw[rep_str]at hy;cases hy;rfl
  |lst b=>rw[rep_lst]at hy;obtain⟨_,_,q,_⟩:=hy;cases q
  |tup b=>rw[rep_tup]at hy;obtain⟨_,_,q,_⟩:=hy;cases q
  |ins _ _ _=>unfold aJ at he;cases he
  |dct _ _=>unfold aJ at he;cases he
  |scr _=>unfold aJ at he;cases he
  |xc _=>unfold aJ at he;cases he
  |fdc _ _=>unfold aJ at he;cases he
 |n,m,.lst c,e,x,hd,he,hx,hy=>by
  rw[rep_lst]at hx;obtain⟨a,xs,rfl,sq,rl⟩:=hx;unfold aJ at hd;rw[and_eq_true]at hd;cases e with
  |non=>rw[rep_non]at hy;cases hy
  |bl b=>rw[rep_bl]at hy;cases hy
  |int b=>rw[rep_int]at hy;cases hy
  |str b=>rw[rep_str]at hy;cases hy
  |lst b=>
   rw[rep_lst]at hy;obtain⟨a',ys,q,l,o⟩:=hy;cases q;rw[I.list_inj (hs.seq l.sq) (hs.seq sq.sq)]at o;unfold aJ at he;rw[and_eq_true]at he;rw[RepL.inj I hs hd.2 he.2 rl o]
  |tup b=>
   rw[rep_tup]at hy;obtain⟨a',ys,q,l,o⟩:=hy;cases q;obtain⟨_,_,p1⟩:=I.isLst (hs.seq sq.sq);obtain⟨_,_,p2⟩:=I.isTup (hs.seqT l.sq);exact absurd rfl (SeqAt.ne_of_list_tuple p1 p2)
  |ins _ _ _=>unfold aJ at he;cases he
  |dct _ _=>unfold aJ at he;cases he
  |scr _=>unfold aJ at he;cases he
  |xc _=>unfold aJ at he;cases he
  |fdc _ _=>unfold aJ at he;cases he
 |n,m,.tup c,e,x,hd,he,hx,hy=>by
  rw[rep_tup]at hx;obtain⟨a,xs,rfl,sq,rl⟩:=hx;unfold aJ at hd;rw[and_eq_true]at hd;cases e with
  |non=>rw[rep_non]at hy;cases hy
  |bl b=>rw[rep_bl]at hy;cases hy
  |int b=>rw[rep_int]at hy;cases hy
  |str b=>rw[rep_str]at hy;cases hy
  |tup b=>
   rw[rep_tup]at hy;obtain⟨a',ys,q,l,o⟩:=hy;cases q;rw[I.tuple_inj (hs.seqT l.sq) (hs.seqT sq.sq)]at o;unfold aJ at he;rw[and_eq_true]at he;rw[RepL.inj I hs hd.2 he.2 rl o]
  |lst b=>
   rw[rep_lst]at hy;obtain⟨a',ys,q,l,o⟩:=hy;cases q;obtain⟨_,_,p1⟩:=I.isLst (hs.seq l.sq);obtain⟨_,_,p2⟩:=I.isTup (hs.seqT sq.sq);exact absurd rfl (SeqAt.ne_of_list_tuple p1 p2)
  |ins _ _ _=>unfold aJ at he;cases he
  |dct _ _=>unfold aJ at he;cases he
  |scr _=>unfold aJ at he;cases he
  |xc _=>unfold aJ at he;cases he
  |fdc _ _=>unfold aJ at he;cases he
 |_,_,.ins _ _ _,_,_,hd,_,_,_=>by unfold aJ at hd;cases hd
theorem RepL.inj (I:Inv X pins σ H s)(hs:Same G H):∀{n m:Nat} {ds es:List D} {xs:List V},plL n ds=true→plL m es=true→RepL X.K G ds xs→RepL X.K G es xs→ds=es
 |_,_,[],es,_,_,_,h,h'=>by
  rw[h.inv0]at h';cases es with
  |nil=>rfl
  |cons e es=>obtain⟨_,_,q,_⟩:=h'.inv;cases q
 |_,_,d::ds,es,_,hd,he,h,h'=>by
  obtain⟨v,r,rfl,a,b⟩:=h.inv;cases es with
  |nil=>have z:=h'.inv0;cases z
  |cons e es=>
   obtain⟨v',r',q,a',b'⟩:=h'.inv;cases q;unfold plL at hd he;rw[and_eq_true]at hd he;rw[Rep.inj I hs hd.1 he.1 a a',RepL.inj I hs hd.2 he.2 b b']
end
end
end L2
namespace L2
open PySem PySem.Spec PyProof.Rows PySem.SeqAt
section
variable{X:Cx}{E:XK}{pins:List (Addr×Obj)}{σ:St}{G H:Hp}{s:Shared}
noncomputable def Da (A:Around)(s:Shared)(u v:Value)(b:Bool):Prop:=EqAt A s u v b∧RcAt A s u v b∧RcNeAt A s u v (!b)
theorem sV {xs:List V}{us:List Value}(r:Vals xs us){j:Nat}(h:j<us.toArray.size):∃x,xs[j]?=some x∧RelV x us.toArray[j]:=by
 have hl:=r.length;have h':j<us.length:=by simpa using h
 have hx:j<xs.length:=by omega
 obtain⟨u,hu,ru⟩:=r.get (i:=j) (x:=xs[j]) (by simp[hx]);refine⟨xs[j],by simp[hx],?_⟩;have e:us.toArray[j]=u:=by
  have q:us[j]?=some us[j]:=by simp[h']
  rw[q]at hu;cases hu;simp
 rw[e];exact ru
theorem iI {n:Nat}{ds es:List D}{xs ys:List V}{us vs:List Value}{A:Around}(rd:RepL X.K G ds xs)(re:RepL X.K G es ys)(ru:Vals xs us)(rv:Vals ys vs)
  (ih:∀(d e:D) (x y:V) (u v:Value),d∈ds→e∈es→Rep X.K G d x→Rep X.K G e y→RelV x u→RelV y v→EqAt A s u v (br d e)) :
  ∀j (h1:j<us.toArray.size) (h2:j<vs.toArray.size),EqAt A s us.toArray[j] vs.toArray[j] (br (ds.getD j .non) (es.getD j .non)):=by
 intro j h1 h2;obtain⟨x,hx,rx⟩:=sV ru h1;obtain⟨y,hy,ry⟩:=sV rv h2;have l1:=rd.length;have l2:=re.length;have jx:j<ds.length:=by rw[l1];exact(jj hx).1
 have jy:j<es.length:=by rw[l2];exact(jj hy).1
 have e1:ds[j]?=some ds[j]:=by simp[jx]
 have e2:es[j]?=some es[j]:=by simp[jy]
 obtain⟨x',hx',px⟩:=rd.get e1;obtain⟨y',hy',py⟩:=re.get e2;rw[hx]at hx';cases hx';rw[hy]at hy';cases hy';have g1:ds.getD j .non=ds[j]:=by simp[List.getD,e1]
 have g2:es.getD j .non=es[j]:=by simp[List.getD,e2]
 rw[g1,g2];exact ih _ _ x y _ _ (getElem_mem jx) (getElem_mem jy) px py rx ry
theorem si {ds:List D}{i:Nat}{d:D}(h:ds[i]?=some d):ds.getD i .non=d:=by simp[List.getD,h]
theorem kW {ds es:List D}{us vs:List Value}{xs ys:List V}(rd:RepL X.K G ds xs)(re:RepL X.K G es ys)(ru:Vals xs us)(rv:Vals ys vs)(hsz:us.toArray.size=vs.toArray.size) :
  (List.range us.toArray.size).all (fun j=>br (ds.getD j .non) (es.getD j .non))=eqBL ds es:=by
 have l1:=rd.length;have l2:=re.length;have l3:=ru.length;have l4:=rv.length;have h1:us.length=vs.length:=by simpa using hsz
 refine pk (by omega) (fun i a b ha hb=>?_) (by simp;omega);rw[si ha,si hb]
noncomputable def De (K:W.Frag)(G:Hp)(s:Shared):D→Value→Prop
 |.non,u=>u= .none
 |.bl b,u=>u= .bool b
 |.int i,u=>∃t,u= .int i t
 |.str x,u=>∃t,u= .str x t
 |.lst ds,u=>∃a its xs,u= .ref a∧s.heap.IsList a its.toArray∧RepL K G ds xs∧Vals xs its
 |.tup ds,u=>∃a its xs,u= .ref a∧s.heap.IsTuple a its.toArray∧RepL K G ds xs∧Vals xs its
 |.ins _ _ _,_=>True
 |.dct _ _,_=>True
 |.scr _,_=>True
 |.xc _,_=>True
 |.fdc _ _,_=>True
theorem iR (I:Inv X pins σ H s)(hs:Same G H){d:D}{x:V}{u:Value}(rx:Rep X.K G d x)(ru:RelV x u):De X.K G s d u:=by
 cases d with
 |non=>rw[rep_non]at rx;subst rx;exact ru
 |bl b=>rw[rep_bl]at rx;subst rx;exact ru
 |int i=>rw[rep_int]at rx;subst rx;exact ru
 |str i=>rw[rep_str]at rx;subst rx;exact ru
 |lst l=>
  rw[rep_lst]at rx;obtain⟨a,xs,rfl,sq,rl⟩:=rx;obtain⟨its,r,p⟩:=I.isLst (hs.seq sq.sq);exact⟨a,its,xs,ru,p,rl,r⟩
 |tup l=>
  rw[rep_tup]at rx;obtain⟨a,xs,rfl,sq,rl⟩:=rx;obtain⟨its,r,p⟩:=I.isTup (hs.seqT sq.sq);exact⟨a,its,xs,ru,p,rl,r⟩
 |ins _ _ _=>trivial
 |dct _ _=>trivial
 |scr _=>trivial
 |xc _=>trivial
 |fdc _ _=>trivial
theorem tz {n m:Nat}{ds es:List D}{a b:Addr}{xs ys:List V}{us vs:List Value}{A:Around}(hu:A.units<cLine)(ha:s.heap.IsList a us.toArray)(hb:s.heap.IsList b vs.toArray)(rd:RepL X.K G ds xs)(re:RepL X.K G es ys)(ru:Vals xs us)(rv:Vals ys vs)
  (same:a=b→eqBL ds es=true)
  (ih:∀(d e:D) (x y:V) (u v:Value),d∈ds→e∈es→Rep X.K G d x→Rep X.K G e y→RelV x u→RelV y v→EqAt A.in1 s u v (br d e)):Da A s (.ref a) (.ref b) (eqBL ds es):=by
 have l1:=rd.length;have l2:=re.length;have l3:=ru.length;have l4:=rv.length;have rc:RcAt A s (.ref a) (.ref b) (eqBL ds es)∧RcNeAt A s (.ref a) (.ref b) (!eqBL ds es):=by
  by_cases o:us.toArray.size=vs.toArray.size
  ·have e1:=kW rd re ru rv o;rw[←e1];exact⟨RcAt.lists ha hb o hu (iI (n:=n) rd re ru rv ih),RcNeAt.lists ha hb o hu (iI (n:=n) rd re ru rv ih)⟩
  ·have e1:eqBL ds es=false:=kU fun z=>o (by simp;omega);rw[e1];have hne:(us.toArray.size != vs.toArray.size)=true:=by simpa using o
   exact⟨RcAt.lists_lengths ha hb hne hu,RcNeAt.lists_lengths ha hb hne hu⟩
 refine⟨?_,rc.1,rc.2⟩;by_cases hab:a=b
 ·subst hab;rw[same rfl];exact EqAt.same _
 ·exact EqAt.of_refs hab rc.1
theorem qJ {n m:Nat}{ds es:List D}{a b:Addr}{xs ys:List V}{us vs:List Value}{A:Around}(hu:A.units<cLine)(ha:s.heap.IsTuple a us.toArray)(hb:s.heap.IsTuple b vs.toArray)(rd:RepL X.K G ds xs)(re:RepL X.K G es ys)(ru:Vals xs us)(rv:Vals ys vs)
  (same:a=b→eqBL ds es=true)
  (ih:∀(d e:D) (x y:V) (u v:Value),d∈ds→e∈es→Rep X.K G d x→Rep X.K G e y→RelV x u→RelV y v→EqAt A.in1 s u v (br d e)):Da A s (.ref a) (.ref b) (eqBL ds es):=by
 have l1:=rd.length;have l2:=re.length;have l3:=ru.length;have l4:=rv.length;have val:((List.range (min us.toArray.size vs.toArray.size)).all (fun j=>br (ds.getD j .non) (es.getD j .non))&&us.toArray.size==vs.toArray.size)=eqBL ds es:=by
  by_cases o:us.toArray.size=vs.toArray.size
  ·have e1:=kW rd re ru rv o;rw[←o,Nat.min_self,e1];simp
  ·have e1:eqBL ds es=false:=kU fun z=>o (by simp;omega);have e2:(us.toArray.size==vs.toArray.size)=false:=by simpa using o
   rw[e1,e2,Bool.and_false]
 have rc:RcAt A s (.ref a) (.ref b) (eqBL ds es)∧RcNeAt A s (.ref a) (.ref b) (!eqBL ds es):=by
  rw[←val];exact⟨RcAt.tuples ha hb hu (iI (n:=n) rd re ru rv ih),RcNeAt.tuples ha hb hu (iI (n:=n) rd re ru rv ih)⟩
 refine⟨?_,rc.1,rc.2⟩;by_cases hab:a=b
 ·subst hab;rw[same rfl];exact EqAt.same _
 ·exact EqAt.of_refs hab rc.1
theorem cN {n:Nat}{ds:List D}{d:D}(h:plL n ds=true)(hd:d∈ds):aJ n d=true:=by
 obtain⟨i,hi⟩:=List.getElem?_of_mem hd;exact sF h hi
theorem me (I:Inv X pins σ H s)(hs:Same G H):∀(n m:Nat) (d e:D) (x y:V) (u v:Value) (A:Around),aJ n d=true→aJ m e=true→Rep X.K G d x→Rep X.K G e y→RelV x u→RelV y v→A.units+n<cLine→Da A s u v (br d e):=by
 intro n
 induction n with
 |zero=>
  intro m d e x y u v A w q k E L O hu;have kd:=iR I hs k L;have r:=iR I hs E O;have o:A.units<cLine:=by omega
  cases d with
  |lst l=>unfold aJ at w;simp at w
  |tup l=>unfold aJ at w;simp at w
  |ins _ _ _=>unfold aJ at w;cases w
  |dct _ _=>unfold aJ at w;cases w
  |scr _=>unfold aJ at w;cases w
  |xc _=>unfold aJ at w;cases w
  |fdc _ _=>unfold aJ at w;cases w
  |non=>
   cases (show u= .none from kd);cases e with
   |non=>cases (show v= .none from r);unfold br;exact⟨EqAt.same _,RcAt.none_none,RcNeAt.none_none⟩
   |bl b=>cases (show v= .bool b from r);unfold br;exact⟨EqAt.none_bool _,RcAt.none_bool _,RcNeAt.none_bool _⟩
   |int b=>obtain⟨t,rfl⟩:=r;unfold br;exact⟨EqAt.none_int _ _,RcAt.none_int _ _,RcNeAt.none_int _ _⟩
   |str b=>obtain⟨t,rfl⟩:=r;unfold br;exact⟨EqAt.none_str _ _,RcAt.none_str _ _,RcNeAt.none_str _ _⟩
   |lst b=>obtain⟨a,C,N,rfl,p,_⟩:=r;unfold br;exact⟨EqAt.none_list p o,RcAt.none_list p o,RcNeAt.none_list p o⟩
   |tup b=>obtain⟨a,C,N,rfl,p,_⟩:=r;unfold br;exact⟨EqAt.none_tuple p o,RcAt.none_tuple p o,RcNeAt.none_tuple p o⟩
   |ins _ _ _=>unfold aJ at q;cases q
   |dct _ _=>unfold aJ at q;cases q
   |scr _=>unfold aJ at q;cases q
   |xc _=>unfold aJ at q;cases q
   |fdc _ _=>unfold aJ at q;cases q
  |bl c=>
   cases (show u= .bool c from kd);cases e with
   |non=>cases (show v= .none from r);unfold br;exact⟨EqAt.bool_none _,RcAt.bool_none _,RcNeAt.bool_none _⟩
   |bl b=>cases (show v= .bool b from r);unfold br;exact⟨EqAt.bool_bool _ _,RcAt.bool_bool _ _,RcNeAt.bool_bool _ _⟩
   |int b=>obtain⟨t,rfl⟩:=r;unfold br;exact⟨EqAt.bool_int _ _ _,RcAt.bool_int _ _ _,RcNeAt.bool_int _ _ _⟩
   |str b=>obtain⟨t,rfl⟩:=r;unfold br;exact⟨EqAt.bool_str _ _ _,RcAt.bool_str _ _ _,RcNeAt.bool_str _ _ _⟩
   |lst b=>obtain⟨a,C,N,rfl,p,_⟩:=r;unfold br;exact⟨EqAt.bool_list _ p o,RcAt.bool_list _ p o,RcNeAt.bool_list _ p o⟩
   |tup b=>obtain⟨a,C,N,rfl,p,_⟩:=r;unfold br;exact⟨EqAt.bool_tuple _ p o,RcAt.bool_tuple _ p o,RcNeAt.bool_tuple _ p o⟩
   |ins _ _ _=>unfold aJ at q;cases q
   |dct _ _=>unfold aJ at q;cases q
   |scr _=>unfold aJ at q;cases q
   |xc _=>unfold aJ at q;cases q
   |fdc _ _=>unfold aJ at q;cases q
  |int c=>
   obtain⟨t0,rfl⟩:=kd;cases e with
   |non=>cases (show v= .none from r);unfold br;exact⟨EqAt.int_none _ _,RcAt.int_none _ _,RcNeAt.int_none _ _⟩
   |bl b=>cases (show v= .bool b from r);unfold br;exact⟨EqAt.int_bool _ _ _,RcAt.int_bool _ _ _,RcNeAt.int_bool _ _ _⟩
   |int b=>obtain⟨t,rfl⟩:=r;unfold br;exact⟨EqAt.int_int _ _ _ _,RcAt.int_int _ _ _ _,RcNeAt.int_int _ _ _ _⟩
   |str b=>obtain⟨t,rfl⟩:=r;unfold br;exact⟨EqAt.int_str _ _ _ _,RcAt.int_str _ _ _ _,RcNeAt.int_str _ _ _ _⟩
   |lst b=>obtain⟨a,C,N,rfl,p,_⟩:=r;unfold br;exact⟨EqAt.int_list _ _ p o,RcAt.int_list _ _ p o,RcNeAt.int_list _ _ p o⟩
   |tup b=>obtain⟨a,C,N,rfl,p,_⟩:=r;unfold br;exact⟨EqAt.int_tuple _ _ p o,RcAt.int_tuple _ _ p o,RcNeAt.int_tuple _ _ p o⟩
   |ins _ _ _=>unfold aJ at q;cases q
   |dct _ _=>unfold aJ at q;cases q
   |scr _=>unfold aJ at q;cases q
   |xc _=>unfold aJ at q;cases q
   |fdc _ _=>unfold aJ at q;cases q
  |str c=>
   obtain⟨t0,rfl⟩:=kd;cases e with
   |non=>cases (show v= .none from r);unfold br;exact⟨EqAt.str_none _ _,RcAt.str_none _ _,RcNeAt.str_none _ _⟩
   |bl b=>cases (show v= .bool b from r);unfold br;exact⟨EqAt.str_bool _ _ _,RcAt.str_bool _ _ _,RcNeAt.str_bool _ _ _⟩
   |int b=>obtain⟨t,rfl⟩:=r;unfold br;exact⟨EqAt.str_int _ _ _ _,RcAt.str_int _ _ _ _,RcNeAt.str_int _ _ _ _⟩
   |str b=>obtain⟨t,rfl⟩:=r;unfold br;exact⟨EqAt.str_str _ _ _ _,RcAt.str_str _ _ _ _,RcNeAt.str_str _ _ _ _⟩
   |lst b=>obtain⟨a,C,N,rfl,p,_⟩:=r;unfold br;exact⟨EqAt.str_list _ _ p o,RcAt.str_list _ _ p o,RcNeAt.str_list _ _ p o⟩
   |tup b=>obtain⟨a,C,N,rfl,p,_⟩:=r;unfold br;exact⟨EqAt.str_tuple _ _ p o,RcAt.str_tuple _ _ p o,RcNeAt.str_tuple _ _ p o⟩
   |ins _ _ _=>unfold aJ at q;cases q
   |dct _ _=>unfold aJ at q;cases q
   |scr _=>unfold aJ at q;cases q
   |xc _=>unfold aJ at q;cases q
   |fdc _ _=>unfold aJ at q;cases q
 |succ n ih=>
  intro m d e x y u v A w q k E L O hu;have kd:=iR I hs k L;have r:=iR I hs E O;have o:A.units<cLine:=by omega
  have hu1:A.in1.units+n<cLine:=by show A.units+1+n<cLine;omega
  have M:∀(c:D),aJ (n+1) c=true→(match c with|.lst _=>False|.tup _=>False|_=>True)→aJ n c=true:=fun c h hc=>by cases c <;> first|exact hc.elim|(unfold aJ at h ⊢;exact h)
  cases d with
  |lst l=>
   obtain⟨a,us,N,rfl,B,rl,r1⟩:=kd;have hd':=w;unfold aJ at hd';rw[and_eq_true]at hd';cases e with
   |non=>cases (show v= .none from r);unfold br;exact⟨EqAt.list_none B o,RcAt.list_none B o,RcNeAt.list_none B o⟩
   |bl b=>cases (show v= .bool b from r);unfold br;exact⟨EqAt.list_bool _ B o,RcAt.list_bool _ B o,RcNeAt.list_bool _ B o⟩
   |int b=>obtain⟨t,rfl⟩:=r;unfold br;exact⟨EqAt.list_int _ _ B o,RcAt.list_int _ _ B o,RcNeAt.list_int _ _ B o⟩
   |str b=>obtain⟨t,rfl⟩:=r;unfold br;exact⟨EqAt.list_str _ _ B o,RcAt.list_str _ _ B o,RcNeAt.list_str _ _ B o⟩
   |lst l2=>
    obtain⟨b,vs,ys,rfl,F,J,r2⟩:=r;have he':=q;unfold aJ at he';rw[and_eq_true]at he';unfold br;refine tz (X:=X) (n:=n) (m:=m) o B F rl J r1 r2 (fun hab=>?_) fun d' e' x' y' u' v' hm1 hm2 q1 q2 q3 q4=>(ih (m-1) d' e' x' y' u' v' A.in1 (cN hd'.2 hm1) (cN he'.2 hm2) q1 q2 q3 q4 hu1).1;subst hab;have ex:x= .ref a:=by rw[rep_lst]at k;obtain⟨a',_,rfl,_⟩:=k;cases L;rfl
    have ey:y= .ref a:=by rw[rep_lst]at E;obtain⟨a',_,rfl,_⟩:=E;cases O;rfl
    subst ex ey;have z:=Rep.inj I hs w q k E;cases z;exact eqBL_refl hd'.2
   |tup l2=>
    obtain⟨b,vs,ys,rfl,F,J,r2⟩:=r;unfold br;exact⟨EqAt.list_tuple B F o,RcAt.list_tuple B F o,RcNeAt.list_tuple B F o⟩
   |ins _ _ _=>unfold aJ at q;cases q
   |dct _ _=>unfold aJ at q;cases q
   |scr _=>unfold aJ at q;cases q
   |xc _=>unfold aJ at q;cases q
   |fdc _ _=>unfold aJ at q;cases q
  |tup l=>
   obtain⟨a,us,N,rfl,B,rl,r1⟩:=kd;have hd':=w;unfold aJ at hd';rw[and_eq_true]at hd';cases e with
   |non=>cases (show v= .none from r);unfold br;exact⟨EqAt.tuple_none B o,RcAt.tuple_none B o,RcNeAt.tuple_none B o⟩
   |bl b=>cases (show v= .bool b from r);unfold br;exact⟨EqAt.tuple_bool _ B o,RcAt.tuple_bool _ B o,RcNeAt.tuple_bool _ B o⟩
   |int b=>obtain⟨t,rfl⟩:=r;unfold br;exact⟨EqAt.tuple_int _ _ B o,RcAt.tuple_int _ _ B o,RcNeAt.tuple_int _ _ B o⟩
   |str b=>obtain⟨t,rfl⟩:=r;unfold br;exact⟨EqAt.tuple_str _ _ B o,RcAt.tuple_str _ _ B o,RcNeAt.tuple_str _ _ B o⟩
   |tup l2=>
    obtain⟨b,vs,ys,rfl,F,J,r2⟩:=r;have he':=q;unfold aJ at he';rw[and_eq_true]at he';unfold br;refine qJ (X:=X) (n:=n) (m:=m) o B F rl J r1 r2 (fun hab=>?_) fun d' e' x' y' u' v' hm1 hm2 q1 q2 q3 q4=>(ih (m-1) d' e' x' y' u' v' A.in1 (cN hd'.2 hm1) (cN he'.2 hm2) q1 q2 q3 q4 hu1).1;subst hab;have ex:x= .ref a:=by rw[rep_tup]at k;obtain⟨a',_,rfl,_⟩:=k;cases L;rfl
    have ey:y= .ref a:=by rw[rep_tup]at E;obtain⟨a',_,rfl,_⟩:=E;cases O;rfl
    subst ex ey;have z:=Rep.inj I hs w q k E;cases z;exact eqBL_refl hd'.2
   |lst l2=>
    obtain⟨b,vs,ys,rfl,F,J,r2⟩:=r;unfold br;exact⟨EqAt.tuple_list B F o,RcAt.tuple_list B F o,RcNeAt.tuple_list B F o⟩
   |ins _ _ _=>unfold aJ at q;cases q
   |dct _ _=>unfold aJ at q;cases q
   |scr _=>unfold aJ at q;cases q
   |xc _=>unfold aJ at q;cases q
   |fdc _ _=>unfold aJ at q;cases q
  |ins _ _ _=>unfold aJ at w;cases w
  |dct _ _=>unfold aJ at w;cases w
  |scr _=>unfold aJ at w;cases w
  |xc _=>unfold aJ at w;cases w
  |fdc _ _=>unfold aJ at w;cases w
  |non=>exact ih m _ e x y u v A (M _ w trivial) q k E L O (by omega)
  |bl c=>exact ih m _ e x y u v A (M _ w trivial) q k E L O (by omega)
  |int c=>exact ih m _ e x y u v A (M _ w trivial) q k E L O (by omega)
  |str c=>exact ih m _ e x y u v A (M _ w trivial) q k E L O (by omega)
noncomputable def js (d e:D):Res D:=if aJ 20 d=true∧aJ 20 e=true then .ok (.bl (br d e)) else .bad
noncomputable def vG (d e:D):Res D:=if aJ 20 d=true∧aJ 20 e=true then .ok (.bl (!br d e)) else .bad
theorem eY (hu:X.A.units+64<cLine):DOp X E (compareOp .Eq) js:=by
 intro pins s σ G H x y dx dy v u I hs rx ry rv ru ok;unfold js at ok ⊢;by_cases h:aJ 20 dx=true∧aJ 20 dy=true
 ·rw[if_pos h];exact(me I hs 20 20 dx dy x y v u X.A h.1 h.2 rx ry rv ru (by omega)).2.1 _ _ _ _ ⟨_,rfl,.bl (br dx dy),G,H,I,rfl,.refl hs,rep_bl.mpr rfl⟩
 ·rw[if_neg h]at ok;exact ok.elim
theorem rY (hu:X.A.units+64<cLine):DOp X E (compareOp .NotEq) vG:=by
 intro pins s σ G H x y dx dy v u I hs rx ry rv ru ok;unfold vG at ok ⊢;by_cases h:aJ 20 dx=true∧aJ 20 dy=true
 ·rw[if_pos h];exact(me I hs 20 20 dx dy x y v u X.A h.1 h.2 rx ry rv ru (by omega)).2.2 _ _ _ _ ⟨_,rfl,.bl (!br dx dy),G,H,I,rfl,.refl hs,rep_bl.mpr rfl⟩
 ·rw[if_neg h]at ok;exact ok.elim
end
section
variable{X:Cx}{E:XK}{pins:List (Addr×Obj)}{σ:St}{G H:Hp}{s:Shared}
open Classical in
noncomputable def xk (K:W.Frag)(G:Hp)(ds:List D)(dx:D)(u:Value):Bool:=decide (∃d x,d∈ds∧Rep K G d x∧RelV x u∧br d dx=true)
theorem gz (I:Inv X pins σ H s)(hs:Same G H){ds:List D}{dx d:D}{x:V}{u:Value}(hp:plL 19 ds=true)(hd:d∈ds)(rx:Rep X.K G d x)(ru:RelV x u):xk X.K G ds dx u=br d dx:=by
 unfold xk;cases e:br d dx with
 |true=>exact @decide_eq_true _ (Classical.propDecidable _) ⟨d,x,hd,rx,ru,e⟩
 |false=>
  refine @decide_eq_false _ (Classical.propDecidable _) fun hZ116=>?_;obtain⟨d',x',hd',rx',ru',e'⟩:=hZ116;have hx:x'=x:=RelV.inj ru' ru;subst hx;rw[Rep.inj I hs (cN hp hd') (cN hp hd) rx' rx,e]at e';cases e'
theorem fz {ds:List D}{xs:List V}{us:List Value}{f:Value→Bool}{g:D→Bool}:RepL X.K G ds xs→Vals xs us→(∀d x u,d∈ds→Rep X.K G d x→RelV x u→f u=g d)→us.any f=ds.any g:=by
 intro rd
 induction ds generalizing xs us with
 |nil=>intro r _;rw[rd.inv0]at r;cases r;rfl
 |cons d ds ih=>
  intro r h;obtain⟨v,q,rfl,a,b⟩:=rd.inv;cases r with
  |cons r1 r2=>
   rw[any_cons,any_cons,h d v _ mem_cons_self a r1,ih b r2 fun d' x' u' hm=>h d' x' u' (dQ hm)]
noncomputable def qx (neg:Bool)(d e:D):Res D:=match e with
 |.lst l=>if plL 19 l=true∧aJ 19 d=true then .ok (.bl (if neg then !(l.any fun y=>br y d) else l.any fun y=>br y d)) else .bad
 |.tup l=>if plL 19 l=true∧aJ 19 d=true then .ok (.bl (if neg then !(l.any fun y=>br y d) else l.any fun y=>br y d)) else .bad
 |_=>.bad
theorem kj {ds:List D}{xs:List V}{us:List Value}{u:Value}(rd:RepL X.K G ds xs)(r:Vals xs us)(hu:u∈us):∃d x,d∈ds∧Rep X.K G d x∧RelV x u:=by
 induction ds generalizing xs us with
 |nil=>rw[rd.inv0]at r;cases r;cases hu
 |cons d ds ih=>
  obtain⟨v,q,rfl,a,b⟩:=rd.inv;cases r with
  |cons r1 r2=>
   rcases mem_cons.mp hu with rfl|hu
   ·exact⟨d,v,mem_cons_self,a,r1⟩
   ·obtain⟨d',x',h1,h2,h3⟩:=ih b r2 hu;exact⟨d',x',dQ h1,h2,h3⟩
theorem BY (hu:X.A.units+64<cLine):DOp X E (compareOp .In) (qx false):=by
 intro pins s σ G H x y B dy v u I j rx ry rv ru ok;unfold qx at ok ⊢;cases dy with
 |lst l=>
  dsimp only at ok ⊢;by_cases h:plL 19 l=true∧aJ 19 B=true
  ·rw[if_pos h];rw[rep_lst]at ry;obtain⟨a,xs,rfl,sq,rl⟩:=ry;cases (show u= .ref a from ru);obtain⟨its,r,p⟩:=I.isLst (j.seq sq.sq);refine in_listAt (xk X.K G l B) p (fun w hw=>?_) ?_
   ·obtain⟨d,z,h1,t,C⟩:=kj rl r (by simpa using hw);rw[gz I j h.1 h1 t C];exact(me I j 19 19 d B z x w v X.A.in1 (cN h.1 h1) h.2 t rx C rv (by show X.A.units+1+19<cLine;omega)).1
   ·have e1:its.toArray.any (xk X.K G l B)=l.any fun y=>br y B:=by
     rw[any_toArray];exact fz rl r fun d z w hm t C=>gz I j h.1 hm t C
    rw[e1];exact⟨_,rfl,.bl (l.any fun y=>br y B),G,H,I,rfl,.refl j,rep_bl.mpr rfl⟩
  ·rw[if_neg h]at ok;exact ok.elim
 |tup l=>
  dsimp only at ok ⊢;by_cases h:plL 19 l=true∧aJ 19 B=true
  ·rw[if_pos h];rw[rep_tup]at ry;obtain⟨a,xs,rfl,sq,rl⟩:=ry;cases (show u= .ref a from ru);obtain⟨its,r,p⟩:=I.isTup (j.seqT sq.sq);refine in_tupleAt (xk X.K G l B) p (fun w hw=>?_) ?_
   ·obtain⟨d,z,h1,t,C⟩:=kj rl r (by simpa using hw);rw[gz I j h.1 h1 t C];exact(me I j 19 19 d B z x w v X.A.in1 (cN h.1 h1) h.2 t rx C rv (by show X.A.units+1+19<cLine;omega)).1
   ·have e1:its.toArray.any (xk X.K G l B)=l.any fun y=>br y B:=by
     rw[any_toArray];exact fz rl r fun d z w hm t C=>gz I j h.1 hm t C
    rw[e1];exact⟨_,rfl,.bl (l.any fun y=>br y B),G,H,I,rfl,.refl j,rep_bl.mpr rfl⟩
  ·rw[if_neg h]at ok;exact ok.elim
 |_=>exact ok.elim
theorem pi (hu:X.A.units+64<cLine):DOp X E (compareOp .NotIn) (qx true):=by
 intro pins s σ G H x y B dy v u I j rx ry rv ru ok;unfold qx at ok ⊢;cases dy with
 |lst l=>
  dsimp only at ok ⊢;by_cases h:plL 19 l=true∧aJ 19 B=true
  ·rw[if_pos h];rw[rep_lst]at ry;obtain⟨a,xs,rfl,sq,rl⟩:=ry;cases (show u= .ref a from ru);obtain⟨its,r,p⟩:=I.isLst (j.seq sq.sq);refine notIn_listAt (xk X.K G l B) p (fun w hw=>?_) ?_
   ·obtain⟨d,z,h1,t,C⟩:=kj rl r (by simpa using hw);rw[gz I j h.1 h1 t C];exact(me I j 19 19 d B z x w v X.A.in1 (cN h.1 h1) h.2 t rx C rv (by show X.A.units+1+19<cLine;omega)).1
   ·have e1:its.toArray.any (xk X.K G l B)=l.any fun y=>br y B:=by
     rw[any_toArray];exact fz rl r fun d z w hm t C=>gz I j h.1 hm t C
    rw[e1];exact⟨_,rfl,.bl (!(l.any fun y=>br y B)),G,H,I,rfl,.refl j,rep_bl.mpr rfl⟩
  ·rw[if_neg h]at ok;exact ok.elim
 |tup l=>
  dsimp only at ok ⊢;by_cases h:plL 19 l=true∧aJ 19 B=true
  ·rw[if_pos h];rw[rep_tup]at ry;obtain⟨a,xs,rfl,sq,rl⟩:=ry;cases (show u= .ref a from ru);obtain⟨its,r,p⟩:=I.isTup (j.seqT sq.sq);refine notIn_tupleAt (xk X.K G l B) p (fun w hw=>?_) ?_
   ·obtain⟨d,z,h1,t,C⟩:=kj rl r (by simpa using hw);rw[gz I j h.1 h1 t C];exact(me I j 19 19 d B z x w v X.A.in1 (cN h.1 h1) h.2 t rx C rv (by show X.A.units+1+19<cLine;omega)).1
   ·have e1:its.toArray.any (xk X.K G l B)=l.any fun y=>br y B:=by
     rw[any_toArray];exact fz rl r fun d z w hm t C=>gz I j h.1 hm t C
    rw[e1];exact⟨_,rfl,.bl (!(l.any fun y=>br y B)),G,H,I,rfl,.refl j,rep_bl.mpr rfl⟩
  ·rw[if_neg h]at ok;exact ok.elim
 |_=>exact ok.elim
noncomputable def C_:D→Option Value
 |.non=>some (.type "NoneType")
 |.bl _=>some (.type "bool")
 |.int _=>some (.type "int")
 |.str _=>some (.type "str")
 |.lst _=>some (.type "list")
 |.tup _=>some (.type "tuple")
 |.ins _ _ _=>none
 |.dct _ _=>none
 |.scr _=>none
 |.xc C=>some (.ref C)
 |.fdc _ _=>none
noncomputable def dk (K:W.Frag)(c:Value)(d:D):Res D:=match C_ d with
 |some t=>match W.kitOne K t c with|some b=>.ok (.bl b)|none=>.bad
 |none=>.bad
theorem vg {A:Around}{u:Value}{c:Value}{d:D}{x:V}{b:Bool}{t:Value}{Q:Value→Shared→Prop}{E':Value→Shared→Prop}(I:Inv X pins σ H s)(hs:Same G H)(rx:Rep X.K G d x)(ru:RelV x u)(ht:C_ d=some t)(e:W.kitOne X.K t c=some b)(h:∀tk,Q (.bool b) {s with toks:=tk}) :
  wpAny (model X.prog X.w) A (call (.builtin "isinstance") [u,c]) Q E' s:=by
 have kv:=iR I hs rx ru;cases d with
 |non=>cases ht;cases (show u= .none from kv);exact W.kia_one W.kitx_none I.kIn True.intro e (fun z=>nomatch z) h
 |bl y=>cases ht;cases (show u= .bool y from kv);exact W.kia_one W.kitx_bool I.kIn True.intro e (fun z=>nomatch z) h
 |int i=>cases ht;obtain⟨t,rfl⟩:=kv;exact W.kia_one W.kitx_int I.kIn True.intro e (fun z=>nomatch z) h
 |str i=>cases ht;obtain⟨t,rfl⟩:=kv;exact W.kia_one W.kitx_str I.kIn True.intro e (fun z=>nomatch z) h
 |lst l=>
  cases ht;obtain⟨a,its,xs,rfl,⟨o,h1,h2,_⟩,_⟩:=kv;exact W.kia_one W.kitx_list I.kIn ⟨o,h1,h2⟩ e (fun z=>nomatch z) h
 |tup l=>
  cases ht;obtain⟨a,its,xs,rfl,⟨o,h1,h2,_⟩,_⟩:=kv;exact W.kia_one W.kitx_tuple I.kIn ⟨o,h1,h2⟩ e (fun z=>nomatch z) h
 |ins _ _ _=>cases ht
 |dct _ _=>cases ht
 |scr _=>cases ht
 |fdc _ _=>cases ht
 |xc C=>
  cases ht;rw[rep_xc]at rx;obtain⟨a,rfl,ha,kk⟩:=rx;cases (show u=Value.ref a from ru);obtain⟨p,_,_⟩:=(show ObjOk X.prog X.w H s.heap a (jS a (.ref C)) from I.hok a _ (hs a _ ha));exact W.kia_one (vq kk) I.kIn p e (fun z=>nomatch z) h
theorem A_ {a c:Expr}{p pos:Pos}{fa:DS→Res D}{vc:V}(ha:PD X E a fa)(hcl:PE X c (tC vc))(hvc:cV vc≠ .none)(hg:Gl X "isinstance")(hm:X.mg "isinstance" =none)
  (hs1:starEach [a,c] X.env=(false,eval a X.env)::starEach [c] X.env:=by rfl) (hs2:starEach [c] X.env=(false,eval c X.env)::starEach [] X.env:=by rfl) (hpl:(backTo pos (starEach [c] X.env)).any (·.1)=false:=by rfl) :
  PD X E (.Call (.Name "isinstance" p) [a,c] [] pos) (fun ρ=>(fa ρ).bind (dk X.K (cV vc))):=by
 intro pins s σ G H ρ I hs hro ho;have hp:PA X [a,c] (sR (tD X.K E fa) (sR (tC vc) zc)):=cM (eR ha) (cM hcl gI hs2) hs1;refine wpAny_Call_Name_kw (gC I hg hm PyProof.Rows.boot_isinstance ?_ (by decide) (by decide));refine PyProof.Rows.callWith_builtin1 (aE (hp pos pins s σ H (fun vs H'=>∃d x G',fa ρ= .ok d∧vs=[x,vc]∧Ext G H G' H'∧Rep X.K G' d x) I ?_) fun us s1 hZ117=>?_) hs1 hpl
 ·exact⟨G,ρ,hs,hro,ho.fst,fun d e v G1 H1 x1 rp=>⟨d,v,G1,e,rfl,x1,rp⟩⟩
 ·obtain⟨vs,H1,I1,r1,d,x,G1,e1,e2,x1,rp⟩:=hZ117;subst e2;obtain⟨u1,u2,rfl,q1,q2⟩:=zI r1;rw[zT q2 hvc];have k:=ho.snd e1 x1.hh;unfold dk at k;cases ht:C_ d with
  |none=>rw[ht]at k;exact k.elim
  |some t=>
   rw[ht]at k;dsimp only at k;cases hk:W.kitOne X.K t (cV vc) with
   |none=>rw[hk]at k;exact k.elim
   |some b=>exact vg I1 x1.gh rp q1 ht hk fun tk=>⟨.bl b,al e1 (by unfold dk;rw[ht];dsimp only;rw[hk]),.bl b,G1,H1,I1.tok tk,rfl,x1,rep_bl.mpr rfl⟩
end
end L2
namespace L2
open PySem PySem.Spec PyProof.Rows
noncomputable def xo (K:W.Frag)(J:It)(ds:List D)(G:Hp):Prop:=∀(G2 H2:Hp),Same G G2→Same G2 H2→∀(i:Nat),
 (∀d,ds[i]?=some d→J.go i H2∧∀x H',J.yld i H2 x H'→∃G',Ext G2 H2 G' H'∧Rep K G' d x)∧(ds.length≤i→J.stop i H2)
inductive tDI (K:W.Frag)(E:XK)(fi:DS→Res (List D))(σ:St)(H:Hp)(R:It→Hp→Prop):Prop
 |mk (G:Hp) (ρ:DS) (s:Same G H) (r:Ro K G σ ρ) (o:OkR E H (fi ρ)) (k:∀ds,fi ρ= .ok ds→∀J G' H',Ext G H G' H'→xo K J ds G'→R J H')
section
variable{X:Cx}{E:XK}{tg:Expr}
noncomputable def y7:D→Res (List D)
 |.lst l=>.ok l
 |_=>.bad
noncomputable def Bx:D→Res (List D)
 |.tup l=>.ok l
 |_=>.bad
theorem wX {K:W.Frag}{G:Hp}{a:Addr}{xs:List V}{ds:List D}(sq:f6 K G a xs)(rl:RepL K G ds xs):xo K (C3 K a) ds G:=by
 intro G2 H2 g1 g2 i;have sq2:f6 K H2 a xs:=g2.seq (g1.seq sq);refine⟨fun d hd=>?_,fun hl=>⟨xs,sq2,by rw[←rl.length];exact hl⟩⟩;obtain⟨v,hv,rv⟩:=rl.get hd;refine⟨⟨xs,v,sq2,hv⟩,fun y H' hZ118=>?_⟩;obtain⟨e,h⟩:=hZ118;subst e;have q:=h xs sq2;rw[hv]at q;cases q;exact⟨G2,.refl g2,rv.mono g1⟩
theorem y9 {K:W.Frag}{G:Hp}{a:Addr}{xs:List V}{ds:List D}(sq:kG K G a xs)(rl:RepL K G ds xs):xo K (C4 K a) ds G:=by
 intro G2 H2 g1 g2 i;have sq2:kG K H2 a xs:=g2.seqT (g1.seqT sq);refine⟨fun d hd=>?_,fun hl=>⟨xs,sq2,by rw[←rl.length];exact hl⟩⟩;obtain⟨v,hv,rv⟩:=rl.get hd;refine⟨⟨xs,v,sq2,hv⟩,fun y H' hZ119=>?_⟩;obtain⟨e,h⟩:=hZ119;subst e;have q:=h xs sq2;rw[hv]at q;cases q;exact⟨G2,.refl g2,rv.mono g1⟩
noncomputable def jF (lo:Int)(n:Nat):List D:=(List.range n).map fun (i:Nat)=>D.int (lo+(i:Int))
theorem mK {K:W.Frag}{G:Hp}(lo:Int)(n:Nat):xo K (BJ lo n) (jF lo n) G:=by
 intro G2 H2 g1 g2 i;refine⟨fun d hd=>?_,fun hl=>(show n≤i by simpa [jF] using hl)⟩;unfold jF at hd;rw[getElem?_map]at hd;cases e:(List.range n)[i]? with
 |none=>rw[e]at hd;cases hd
 |some j=>
  rw[e]at hd;obtain⟨hj,rfl⟩:=jj e;cases hd;have hi:i<n:=by simpa using hj
  refine⟨hi,fun y H' hZ120=>?_⟩;obtain⟨e1,e2⟩:=hZ120;subst e1 e2;refine⟨G2,.refl g2,rep_int.mpr ?_⟩;rw[List.getElem_range]
theorem cx {e:Expr}{f:DS→Res D}(h:PD X E e f):PI X tg e (tDI X.K E (fun ρ=>(f ρ).bind y7)):=by
 intro pins s σ H R I hZ6;obtain⟨G,ρ,hs,hro,ho,k⟩:=hZ6;refine yL (eR h) pins s σ H R I ⟨G,ρ,hs,hro,ho.fst,fun d e v G1 H1 x1 p1=>?_⟩;have kk:=ho.snd e x1.hh;cases d with
 |lst l=>
  rw[rep_lst]at p1;obtain⟨a,xs,rfl,sq,rl⟩:=p1;exact⟨a,rfl,⟨xs,x1.gh.seq sq.sq⟩,k l (al e rfl) (C3 X.K a) G1 H1 x1 (wX sq.sq rl)⟩
 |_=>exact kk.elim
theorem yJ {e:Expr}{f:DS→Res D}(h:PD X E e f):PI X tg e (tDI X.K E (fun ρ=>(f ρ).bind Bx)):=by
 intro pins s σ H R I hZ7;obtain⟨G,ρ,hs,hro,ho,k⟩:=hZ7;refine Bk (eR h) pins s σ H R I ⟨G,ρ,hs,hro,ho.fst,fun d e v G1 H1 x1 p1=>?_⟩;have kk:=ho.snd e x1.hh;cases d with
 |tup l=>
  rw[rep_tup]at p1;obtain⟨a,xs,rfl,sq,rl⟩:=p1;exact⟨a,rfl,⟨xs,x1.gh.seqT sq⟩,k l (al e rfl) (C4 X.K a) G1 H1 x1 (y9 sq rl)⟩
 |_=>exact kk.elim
noncomputable def cH (i:Int):Bool:=decide (-(2 ^ 62)≤i)&&decide (i<2 ^ 62)
noncomputable def rg:List D→Res (List D)
 | [.int j]=>if cH j=true then .ok (jF 0 j.toNat) else .bad
 |_=>.bad
noncomputable def wJ:List D→Res (List D)
 | [.int i,.int j]=>if (cH i&&cH j)=true then .ok (jF i (j-i).toNat) else .bad
 |_=>.bad
theorem iz {a:Expr}{p pos:Pos}{fs:DS→Res (List D)}(hg:Gl X "range")(hm:X.mg "range" =none)(ha:kE X E [a] fs)(hs:starEach [a] X.env=[(false,eval a X.env)]:=by rfl):PI X tg (.Call (.Name "range" p) [a] [] pos) (tDI X.K E (fun ρ=>(fs ρ).bind rg)):=by
 intro pins s σ H R I hZ8;obtain⟨G,ρ,hsm,hro,ho,k⟩:=hZ8;refine ue hg hm (iy ha) hs pins s σ H R I ⟨G,ρ,hsm,hro,ho.fst,fun ds e vs G1 H1 x1 p1=>?_⟩;have kk:=ho.snd e x1.hh;unfold rg at kk;split at kk
 ·rename_i j;obtain⟨v,r,rfl,rv,r0⟩:=p1.inv;rw[r0.inv0];rw[rep_int]at rv;subst rv;by_cases hj:cH j=true
  ·have hj':=hj;unfold cH at hj';rw[and_eq_true]at hj';exact⟨j,rfl,of_decide_eq_true hj'.1,of_decide_eq_true hj'.2,k _ (al e (if_pos hj)) _ G1 H1 x1 (mK 0 j.toNat)⟩
  ·rw[if_neg hj]at kk;exact kk.elim
 ·exact kk.elim
noncomputable def aX (t:D→Res Bool)(f:D→Res D):List D→Res (List D)
 | []=>.ok []
 |d::ds=>match t d with
  |.ok true=>(match f d with
   |.ok e=>(aX t f ds).bind fun es=>.ok (e::es)
   |_=>.bad)
  |.ok false=>aX t f ds
  |_=>.bad
theorem ju {t:D→Res Bool}{f:D→Res D}:∀{as bs es:List D},aX t f (as ++ bs)= .ok es→∃e1 e2,aX t f as= .ok e1∧aX t f bs= .ok e2∧es=e1 ++ e2
 | [],bs,es,h=>⟨[],es,rfl,h,rfl⟩
 |a::as,bs,es,h=>by
  rw[List.cons_append]at h;unfold aX at h;cases ht:t a with
  |bad=>rw[ht]at h;cases h
  |exc c=>rw[ht]at h;cases h
  |ok b=>
   rw[ht]at h;cases b with
   |false=>
    obtain⟨e1,e2,h1,h2,h3⟩:=ju h;exact⟨e1,e2,by unfold aX;rw[ht];exact h1,h2,h3⟩
   |true=>
    cases hf:f a with
    |bad=>rw[hf]at h;cases h
    |exc c=>rw[hf]at h;cases h
    |ok e=>
     rw[hf]at h;dsimp only at h;cases hr:aX t f (as ++ bs) with
     |bad=>rw[hr]at h;cases h
     |exc c=>rw[hr]at h;cases h
     |ok es'=>
      rw[hr]at h;have h':Res.ok (e::es')=Res.ok es:=h;cases h';obtain⟨e1,e2,h1,h2,h3⟩:=ju hr;subst h3;exact⟨e::e1,e2,by unfold aX;rw[ht,hf];dsimp only;rw[h1];rfl,h2,rfl⟩
theorem jw {t:D→Res Bool}{f:D→Res D}:∀{as es:List D},aX t f as= .ok es→es.length≤as.length
 | [],es,h=>by unfold aX at h;cases h;exact le_refl _
 |a::as,es,h=>by
  unfold aX at h;cases ht:t a with
  |bad=>rw[ht]at h;cases h
  |exc c=>rw[ht]at h;cases h
  |ok b=>
   rw[ht]at h;cases b with
   |false=>exact Nat.le_succ_of_le (jw h)
   |true=>
    cases hf:f a with
    |bad=>rw[hf]at h;cases h
    |exc c=>rw[hf]at h;cases h
    |ok e=>
     rw[hf]at h;dsimp only at h;cases hr:aX t f as with
     |bad=>rw[hr]at h;cases h
     |exc c=>rw[hr]at h;cases h
     |ok es'=>
      rw[hr]at h;have h':Res.ok (e::es')=Res.ok es:=h;cases h';have:=jw hr;rw[length_cons,length_cons];omega
noncomputable def cY (caps:List (Option Nat))(ρ:DS):DS:=caps.map fun o=>o.bind fun k=>(ρ[k]?).join
theorem xA {K:W.Frag}{G:Hp}{σ:St}{ρ:DS}{caps:List (Option Nat)}(h:Ro K G σ ρ):Ro K G (dJ caps σ) (cY caps ρ):=by
 intro i d e;unfold cY at e;rw[getElem?_map]at e;unfold dJ;rw[getElem?_map];cases q:caps[i]? with
 |none=>rw[q]at e;cases e
 |some o=>
  rw[q]at e;cases o with
  |none=>simp at e
  |some k=>
   simp only[map_some,bind_some,Option.some.injEq]at e ⊢;cases q2:ρ[k]? with
   |none=>rw[q2]at e;simp at e
   |some o2=>
    rw[q2]at e;simp at e;subst e;obtain⟨v,hv,rv⟩:=h k d q2;exact⟨v,by rw[hv];rfl,rv⟩
theorem Ro.set {K:W.Frag}{G:Hp}{σ:St}{ρ:DS}{j:Nat}{v:V}{d:D}(h:Ro K G σ ρ)(hj:j<σ.length)(r:Rep K G d v):Ro K G (σ.set j (some v)) (ρ.set j (some d)):=by
 intro i e q;by_cases hi:i=j
 ·subst hi;by_cases hl:i<ρ.length
  ·rw[getElem?_set_self hl]at q;cases q;exact⟨v,getElem?_set_self hj,r⟩
  ·rw[List.getElem?_eq_none (by simpa using hl)]at q;cases q
 ·rw[getElem?_set_ne (Ne.symm hi)]at q ⊢;exact h i e q
noncomputable abbrev jl:XK:=fun _ _ _=>False
noncomputable def uz (X:Cx)(E:XK)(ifs:List Expr)(f:DS→Res Bool):Prop:=BF X ifs (tDT X.K E f)
theorem cT:uz X E [] (fun _=>.ok true):=fun pins s σ H Q I hZ121=>(by obtain⟨G,ρ,hs,hr,ho,k⟩:=hZ121;exact yM pins s σ H Q I (k true rfl G H (.refl hs)))
theorem lm {c:Expr}{f:DS→Res Bool}(h:rN X E c f):uz X E [c] f:=yN (Ds h)
end
section
variable{X:Cx}{E:XK}
noncomputable def allInts:List D→Option (List Int)
 | []=>some []
 |.int i::ds=>(allInts ds).map (i::·)
 |_=>none
theorem fy:∀{ds:List D} {ns:List Int},allInts ds=some ns→ds=ns.map D.int
 | [],ns,h=>by unfold allInts at h;cases h;rfl
 |d::ds,ns,h=>by
  cases d with
  |int i=>
   unfold allInts at h;cases q:allInts ds with
   |none=>rw[q]at h;cases h
   |some ms=>rw[q]at h;cases h;rw[fy q];rfl
  |_=>unfold allInts at h;cases h
theorem d9:∀(ns:List Int),allInts (ns.map D.int)=some ns
 | []=>rfl
 |n::ns=>by show (allInts (ns.map D.int)).map (n::·)=_;rw[d9 ns];rfl
noncomputable def Dp:List Int→Int
 | []=>0
 | [a]=>a
 |a::as=>min a (Dp as)
noncomputable def fM:List Int→Int
 | []=>0
 | [a]=>a
 |a::as=>max a (fM as)
theorem e_:∀{ns:List Int},ns≠[]→fM ns∈ns∧∀a∈ns,a≤fM ns
 | [],h=>absurd rfl h
 | [a],_=>⟨mem_singleton.mpr rfl,fun b hb=>by rw[mem_singleton.mp hb];exact Int.le_refl _⟩
 |a::b::r,_=>by
  obtain⟨h1,h2⟩:=e_ (ns:=b::r) (by simp);show max a (fM (b::r))∈_∧_;refine⟨?_,fun c hc=>?_⟩
  ·by_cases h:fM (b::r)≤a
   ·rw[Int.max_eq_left h];exact mem_cons_self
   ·rw[Int.max_eq_right (by omega)];exact dQ h1
  ·show c≤max a (fM (b::r))
   rcases mem_cons.mp hc with rfl|hc
   ·exact Int.le_max_left _ _
   ·exact Int.le_trans (h2 c hc) (Int.le_max_right _ _)
noncomputable def nZ:List D→Res D
 | [.lst l]=>match allInts l with|some (n::ns)=>.ok (.int (fM (n::ns)))|_=>.bad
 |_=>.bad
theorem tf (hc:X.calm=true):dz X (.builtin "max") (fun xs H Q=>∃p ns,xs=[.ref p]∧f6 X.K H p (ns.map V.int)∧ns≠[]∧Q (.int (fM ns)) H):=by
 intro pins s σ H xs us Q I r h;obtain⟨p,ns,rfl,sq,hne,q⟩:=h;obtain⟨u,rfl,ru⟩:=ij r;cases (show u= .ref p from ru);obtain⟨its,rv,pl,_⟩:=I.list sq;have hi:=k9 rv;obtain⟨ys,e⟩:=hi.allInts.items;have C:ns=ys.toList.map (·.1):=by rw[←hi.numsOf,←nums_intItems,←e]
 have hsz:0<ys.size:=by
  have h3:0<ns.length:=length_pos_iff.mpr hne;rw[C,length_map,length_toList]at h3;exact h3
 have hl:=pl.isList;rw[e]at hl;refine max_intList (I.ok.hd hc) hl hsz fun v h' tk hv hk=>?_;obtain⟨t,rfl⟩:=intItems_at hv;obtain⟨h1,h2⟩:=argBest_gt (numAt ys) (ys.size-1);have hm:numAt ys (argBest (fun i j=>decide (numAt ys i>numAt ys j)) (ys.size-1))=fM ns:=by
  obtain⟨m1,m2⟩:=e_ hne;refine Int.le_antisymm (m2 _ ?_) ?_
  ·rw[C,numAt_eq];exact getD_mem (by rw[length_map,length_toList];omega)
  ·rw[C]at m1;obtain⟨j,hj,ej⟩:=mem_getD m1;rw[length_map,length_toList]at hj;rw[←C]at ej;rw[←ej,C,←numAt_eq];exact h2 j (by omega)
 rw[hm];exact⟨.int (fM ns),H,I.kept hk,⟨t,rfl⟩,q⟩
theorem xF {K:W.Frag}:xl K E (fun xs H Q=>∃p ns,xs=[.ref p]∧f6 K H p (ns.map V.int)∧ns≠[]∧Q (.int (fM ns)) H) nZ:=by
 intro G H vs ds Q hs rl ok k;unfold nZ at ok k;split at ok
 ·rename_i l;obtain⟨v,r,rfl,rx,r0⟩:=rl.inv;rw[r0.inv0];rw[rep_lst]at rx;obtain⟨p,xs,rfl,sq,rx⟩:=rx;dsimp only at k;cases q:allInts l with
  |none=>rw[q]at ok;exact ok.elim
  |some ns=>
   cases ns with
   |nil=>rw[q]at ok;exact ok.elim
   |cons n ns=>
    rw[q]at k;have e:=fy q;subst e;have ex:=rx.ints;subst ex;exact⟨p,n::ns,rfl,hs.seq sq.sq,by simp,k _ _ G H rfl (.refl hs) (rep_int.mpr rfl)⟩
 ·exact ok.elim
noncomputable def oy (hi:Int)(n:Nat):List D:=(List.range n).map fun (i:Nat)=>D.int (hi-(i:Int))
theorem lT {a b c:Int}{t u v:Tok}{n:Nat}{r:Addr}{pins:List (Addr×Obj)}{σ:St}{H:Hp}{s:Shared}{Q:VK}(hc:X.calm=true)(I:Inv X pins σ H s)(hr:IsRange s.heap r a b c t u v)(hsm:Builtin.Range.small a b c=true)(hn:Builtin.Range.rangeSize a b c=n)(hz:n≤100000)
  (q:∀p,H p=none→Q (.ref p) (aS H p (.lst ((List.range n).map fun (i:Nat)=>V.int (a+(i:Int)*c))))):wpAny (model X.prog X.w) X.A (call (.type "list") [.ref r]) (EP X pins σ Q) X.xe s:=by
 refine call_list_range (I.ok.hd hc) hr hsm hn (le_trans hz (by decide)) fun h' tk acc c' hk hD hI=>?_;obtain⟨h1,h2⟩:=hI;have hv:Vals ((List.range n).map fun (i:Nat)=>V.int (a+(i:Int)*c)) acc.toList:=by
  have aux:∀(m:Nat) (f:Nat→V) (l:List Value),l.length=m→(∀j u,l[j]?=some u→RelV (f j) u)→Vals ((List.range m).map f) l:=by
   intro m
   induction m with
   |zero=>
    intro f l hl _;cases l with
    |nil=>exact .nil
    |cons x xs=>simp at hl
   |succ m ih=>
    intro f l hl h;cases l with
    |nil=>simp at hl
    |cons x xs=>
     rw[List.range_succ_eq_map,map_cons,map_map];exact .cons (h 0 x rfl) (ih (f ∘ Nat.succ) xs (by simpa using hl) fun j u e=>h (j+1) u (by simpa using e))
  refine aux n _ acc.toList (by simpa using h1) fun j u e=>?_;obtain⟨t',rfl⟩:=h2 j u (by simpa using e);exact⟨t',rfl⟩
 refine⟨.ref s.heap.objs.size,_,I.laid (o:=.lst ((List.range n).map fun (i:Nat)=>V.int (a+(i:Int)*c))) hk (le_refl _) ⟨?_,acc.toList,c',hv,?_⟩,rfl,q _ (I.hok.fresh (le_refl _))⟩
 ·rw[length_map,length_range];exact le_trans hz (by decide)
 ·rw[hD]
theorem gu {i:Int}(h1: -(2 ^ 62)≤i)(h2:i≤2 ^ 62):Builtin.Range.rangeFitsLong i=true:=by
 unfold Builtin.Range.rangeFitsLong;simp only[and_eq_true,decide_eq_true_eq];omega
theorem mI {a b:Int}:Builtin.Range.rangeSize a b (-1)=((a-b).toNat:Int):=by
 unfold Builtin.Range.rangeSize;rw[if_neg (by decide)];split
 ·have:(-(-1:Int))=1:=by decide
  rw[this,Int.ediv_one];omega
 ·omega
theorem mJ {a b c:Int}(h1: -(2 ^ 60)≤a)(h2:a<2 ^ 60)(h3: -(2 ^ 60)≤b)(h4:b<2 ^ 60)(hc:c=1∨c= -1):Builtin.Range.small a b c=true:=by
 rcases hc with rfl|rfl
 ·exact small_one (by omega) (by omega) (by omega) (by omega)
 ·unfold Builtin.Range.small;rw[mI,gu (i:=a) (by omega) (by omega),gu (i:=b) (by omega) (by omega),gu (i:= -1) (by decide) (by decide),gu (i:=((a-b).toNat:Int)) (by omega) (by omega)];rw[if_neg (by decide),gu (i:=b+(-1+1)) (by omega) (by omega)];simp
noncomputable def qA (p:Addr)(a b c:Int):HO:=.ext fun h=>∃t u v,IsRange h p a b c t u v
theorem Inv.rng {pins:List (Addr×Obj)}{σ:St}{H:Hp}{s:Shared}{a b c:Int}{t u v:Tok}{tk:Nat}(I:Inv X pins σ H s):Inv X pins σ (aS H s.heap.objs.size (qA s.heap.objs.size a b c)) {s with heap:=s.heap.push {cls:=.type "range",data:=.fields #[.int a t,.int b u,.int c v]},toks:=tk}:=
 I.laid (fun b o e=>Heap.get?_push_of_some _ e) (le_refl _) ⟨⟨t,u,v,Heap.get?_push_size _ rfl⟩,⟨_,Heap.get?_push_size _ rfl⟩,fun h1 h2 ⟨t,u,v,e⟩ k=>⟨t,u,v,k _ e⟩⟩
theorem oY:dz X (.type "range") (fun xs H Q=>∃i j,xs=[.int i,.int j]∧∀p,H p=none→Q (.ref p) (aS H p (qA p i j 1))):=by
 intro pins s σ H xs us Q I r h;obtain⟨i,j,rfl,q⟩:=h;obtain⟨u1,u2,rfl,⟨t1,rfl⟩,⟨t2,rfl⟩⟩:=zI r;exact call_range_2 ⟨.ref s.heap.objs.size,_,I.rng,rfl,q _ (I.hok.fresh (le_refl _))⟩
theorem C1 {x y z:V}{us:List Value}(r:Vals [x,y,z] us):∃u v w,us=[u,v,w]∧RelV x u∧RelV y v∧RelV z w:=by
 cases r with
 |cons a b=>cases b with
  |cons c d=>cases d with
   |cons e f=>cases f;exact⟨_,_,_,rfl,a,c,e⟩
theorem oZ:dz X (.type "range") (fun xs H Q=>∃i j,xs=[.int i,.int j,.int (-1)]∧∀p,H p=none→Q (.ref p) (aS H p (qA p i j (-1)))):=by
 intro pins s σ H xs us Q I r h;obtain⟨i,j,rfl,q⟩:=h;obtain⟨u1,u2,u3,rfl,⟨t1,rfl⟩,⟨t2,rfl⟩,⟨t3,rfl⟩⟩:=C1 r;exact call_range_3 (by decide) ⟨.ref s.heap.objs.size,_,I.rng (tk:=s.toks),rfl,q _ (I.hok.fresh (le_refl _))⟩ (.inl (PyProof.noPylong_small (by decide)))
theorem iG (hc:X.calm=true):dz X (.type "list") (fun xs H Q=>∃p a b c n,xs=[.ref p]∧H p=some (qA p a b c)∧Builtin.Range.small a b c=true∧Builtin.Range.rangeSize a b c=((n:Nat):Int)∧n≤100000∧∀l,H l=none→Q (.ref l) (aS H l (.lst ((List.range n).map fun (i:Nat)=>V.int (a+(i:Int)*c))))):=by
 intro pins s σ H xs us Q I r h;obtain⟨p,a,b,c,n,rfl,hp,hsm,hn,hz,q⟩:=h;obtain⟨u,rfl,ru⟩:=ij r;cases (show u= .ref p from ru);obtain⟨⟨t,u,v,e⟩,_,_⟩:=(show ObjOk X.prog X.w H s.heap p (qA p a b c) from I.hok p _ hp);exact lT hc I e hsm hn hz q
noncomputable def fZ (i:Int):Bool:=decide (-(2 ^ 60)≤i)&&decide (i<2 ^ 60)
noncomputable def mw:List D→Res D
 | [.int i,.int j]=>if (fZ i&&fZ j&&aF (j-i).toNat)=true then .ok (.lst (jF i (j-i).toNat)) else .bad
 |_=>.bad
noncomputable def mx:List D→Res D
 | [.int i,.int j,.int k]=>if (fZ i&&fZ j&&aF (i-j).toNat&&decide (k= -1))=true then .ok (.lst (oy i (i-j).toNat)) else .bad
 |_=>.bad
theorem lx {K:W.Frag}{G:Hp}{f:Nat→D}{g:Nat→V}(h:∀i,Rep K G (f i) (g i)):∀(l:List Nat),RepL K G (l.map f) (l.map g)
 | []=>.nil
 |a::r=>.cons (h a) (lx h r)
theorem q0 {a b:Expr}{p1 p2 pos1 pos2:Pos}{fs:DS→Res (List D)}(hc:X.calm=true)(hgl:Gl X "list")(hml:X.mg "list" =none)(hg:Gl X "range")(hm:X.mg "range" =none)(ha:kE X E [a,b] fs)
  (hs:starEach [a,b] X.env=(false,eval a X.env)::starEach [b] X.env:=by rfl) (hpl:(backTo pos2 (starEach [b] X.env)).any (·.1)=false:=by rfl)
  (hs3:starEach [.Call (.Name "range" p2) [a,b] [] pos2] X.env=(false,eval (.Call (.Name "range" p2) [a,b] [] pos2) X.env)::starEach [] X.env:=by rfl) :
  PD X E (.Call (.Name "list" p1) [.Call (.Name "range" p2) [a,b] [] pos2] [] pos1) (bn fs mw):=by
 intro pins s σ G H ρ I hsm hro ho;have he:=fg (pos:=pos1) (p:=p1) (iG hc) hgl hml PyProof.Rows.boot_list (cM (fg (pos:=pos2) (p:=p2) oY hg hm boot_range (iy ha) (by decide) (by decide) hs hpl) gI hs3) (by decide) (by decide) hs3 rfl;refine aE (he pins s σ H (fun v H'=>∃d G',bn fs mw ρ= .ok d∧Ext G H G' H'∧Rep X.K G' d v) I ?_) fun u s' hZ122=>(by obtain⟨v,H',I',r,d,G',e,xx,rp⟩:=hZ122;exact⟨d,e,v,G',H',I',r,xx,rp⟩);refine⟨G,ρ,hsm,hro,ho.fst,fun ds e vs G1 H1 x1 p1=>?_⟩;have kk:=ho.snd e x1.hh;unfold mw at kk;split at kk
 ·rename_i i j;obtain⟨v,r,rfl,rv,r0⟩:=p1.inv;obtain⟨v2,r2,rfl,rv2,r02⟩:=r0.inv;rw[r02.inv0];rw[rep_int]at rv rv2;subst rv rv2;by_cases hj:(fZ i&&fZ j&&aF (j-i).toNat)=true
  ·have hj':=hj;unfold fZ at hj';simp only[and_eq_true,decide_eq_true_eq]at hj';obtain⟨⟨⟨a1,a2⟩,b1,b2⟩,l1⟩:=hj';refine⟨i,j,rfl,fun p hp=>⟨p,i,j,1,(j-i).toNat,rfl,ao,mJ a1 a2 b1 b2 (.inl rfl),by rw[rangeSize_one];split <;> omega,of_decide_eq_true l1,fun l hl=>?_⟩⟩;have x2:=x1.trans (Ext.new x1.gh hp (qA p i j 1));have x3:=x2.trans (Ext.new x2.gh hl (.lst ((List.range (j-i).toNat).map fun (k:Nat)=>V.int (i+(k:Int)*1))));refine⟨_,_,al e (if_pos hj),x3,rep_lst.mpr ⟨l,_,rfl,.of ao,lx (fun k=>rep_int.mpr (by rw[Int.mul_one])) _⟩⟩
  ·rw[if_neg hj]at kk;exact kk.elim
 ·exact kk.elim
theorem q_ {a b c:Expr}{p1 p2 pos1 pos2:Pos}{fs:DS→Res (List D)}(hc:X.calm=true)(hgl:Gl X "list")(hml:X.mg "list" =none)(hg:Gl X "range")(hm:X.mg "range" =none)(ha:kE X E [a,b,c] fs)
  (hs:starEach [a,b,c] X.env=(false,eval a X.env)::starEach [b,c] X.env:=by rfl) (hpl:(backTo pos2 (starEach [b,c] X.env)).any (·.1)=false:=by rfl)
  (hs3:starEach [.Call (.Name "range" p2) [a,b,c] [] pos2] X.env=(false,eval (.Call (.Name "range" p2) [a,b,c] [] pos2) X.env)::starEach [] X.env:=by rfl) :
  PD X E (.Call (.Name "list" p1) [.Call (.Name "range" p2) [a,b,c] [] pos2] [] pos1) (bn fs mx):=by
 intro pins s σ G H ρ I hsm hro ho;have he:=fg (pos:=pos1) (p:=p1) (iG hc) hgl hml PyProof.Rows.boot_list (cM (fg (pos:=pos2) (p:=p2) oZ hg hm boot_range (iy ha) (by decide) (by decide) hs hpl) gI hs3) (by decide) (by decide) hs3 rfl;refine aE (he pins s σ H (fun v H'=>∃d G',bn fs mx ρ= .ok d∧Ext G H G' H'∧Rep X.K G' d v) I ?_) fun u s' hZ123=>(by obtain⟨v,H',I',r,d,G',e,xx,rp⟩:=hZ123;exact⟨d,e,v,G',H',I',r,xx,rp⟩);refine⟨G,ρ,hsm,hro,ho.fst,fun ds e vs G1 H1 x1 p1=>?_⟩;have kk:=ho.snd e x1.hh;unfold mx at kk;split at kk
 ·rename_i i j k;obtain⟨v,r,rfl,rv,r0⟩:=p1.inv;obtain⟨v2,r2,rfl,rv2,r02⟩:=r0.inv;obtain⟨v3,r3,rfl,rv3,r03⟩:=r02.inv;rw[r03.inv0];rw[rep_int]at rv rv2 rv3;subst rv rv2 rv3;by_cases hj:(fZ i&&fZ j&&aF (i-j).toNat&&decide (k= -1))=true
  ·have hj':=hj;unfold fZ at hj';simp only[and_eq_true,decide_eq_true_eq]at hj';obtain⟨⟨⟨⟨a1,a2⟩,b1,b2⟩,l1⟩,rfl⟩:=hj';refine⟨i,j,rfl,fun p hp=>⟨p,i,j,-1,(i-j).toNat,rfl,ao,mJ a1 a2 b1 b2 (.inr rfl),mI,of_decide_eq_true l1,fun l hl=>?_⟩⟩;have x2:=x1.trans (Ext.new x1.gh hp (qA p i j (-1)));have x3:=x2.trans (Ext.new x2.gh hl (.lst ((List.range (i-j).toNat).map fun (k:Nat)=>V.int (i+(k:Int)*(-1)))));refine⟨_,_,al e (if_pos hj),x3,rep_lst.mpr ⟨l,_,rfl,.of ao,lx (fun k=>rep_int.mpr (by congr 1;omega)) _⟩⟩
  ·rw[if_neg hj]at kk;exact kk.elim
 ·exact kk.elim
noncomputable def xC (l:List D)(lo hi:Option Int):List D:=(l.drop (HT.cb l.length 0 lo)).take (HT.cb l.length l.length hi-HT.cb l.length 0 lo)
theorem rT {K:W.Frag}{G:Hp}{ds:List D}{xs:List V}(h:RepL K G ds xs)(lo hi:Option Int):RepL K G (xC ds lo hi) (pe xs lo hi):=by
 unfold xC pe;rw[←h.length];exact(h.drop _).take _
noncomputable def iB (lo hi:Option Int):D→Res D
 |.lst l=>.ok (.lst (xC l lo hi))
 |.tup l=>if HT.cb l.length 0 lo=0∧HT.cb l.length l.length hi=l.length then .bad else .ok (.tup (xC l lo hi))
 |_=>.bad
inductive tPO (K:W.Frag)(E:XK)(f:DS→Res (Option Int))(σ:St)(H:Hp)(Q:Option Int→Hp→Prop):Prop
 |mk (G:Hp) (ρ:DS) (s:Same G H) (r:Ro K G σ ρ) (ok:OkR E H (f ρ)) (k:∀o,f ρ= .ok o→∀G' H',Ext G H G' H'→Q o H')
noncomputable def BN (X:Cx)(E:XK)(e:Option Expr)(f:DS→Res (Option Int)):Prop:=PO X e (tPO X.K E f)
theorem lq:BN X E none (fun _=>.ok none):=fun pins s σ H Q I hZ124=>(by obtain⟨G,ρ,hs,hr,ho,k⟩:=hZ124;exact yS pins s σ H Q I (k none rfl G H (.refl hs)))
noncomputable def Dh:D→Res (Option Int)
 |.int i=>.ok (some i)
 |_=>.bad
theorem lr {e:Expr}{f:DS→Res D}(h:PD X E e f):BN X E (some e) (fun ρ=>(f ρ).bind Dh):=by
 intro pins s σ H Q I hZ9;obtain⟨G,ρ,hs,hr,ho,k⟩:=hZ9;refine yT (eR h) pins s σ H Q I ⟨G,ρ,hs,hr,ho.fst,fun d e v G1 H1 x1 p1=>?_⟩;have kk:=ho.snd e x1.hh;cases d with
 |int i=>rw[rep_int]at p1;exact⟨i,p1,k (some i) (al e rfl) G1 H1 x1⟩
 |_=>exact kk.elim
noncomputable def BG (f:DS→Res D)(lo hi:DS→Res (Option Int)):DS→Res D:=fun ρ=>(f ρ).bind fun d=>(lo ρ).bind fun l=>(hi ρ).bind fun u=>iB l u d
theorem ll {e:Expr}{lo hi:Option Expr}{p2 pos:Pos}{f:DS→Res D}{fl fh:DS→Res (Option Int)}(he:PD X E e f)(hl:BN X E lo fl)(hh:BN X E hi fh):PD X E (.Subscript e (.Slice lo hi none p2) pos) (BG f fl fh):=by
 intro pins s σ G H ρ I hsm hro ho;have hp:=wc (pos:=pos) (p2:=p2) (sl_list.or Br) (eR he) hl hh;refine aE (hp pins s σ H (fun v H'=>∃d G',BG f fl fh ρ= .ok d∧Ext G H G' H'∧Rep X.K G' d v) I ?_) fun u s' hZ125=>(by obtain⟨v,H',I',r,d,G',e,xx,rp⟩:=hZ125;exact⟨d,e,v,G',H',I',r,xx,rp⟩);refine⟨G,ρ,hsm,hro,ho.fst,fun d e v G1 H1 x1 p1=>?_⟩;have k1:=ho.snd e x1.hh;refine⟨G1,ρ,x1.gh,hro.mono x1.gg,k1.fst,fun l el G2 H2 x2=>?_⟩;have k2:=k1.snd el x2.hh;refine⟨G2,ρ,x2.gh,(hro.mono x1.gg).mono x2.gg,k2.fst,fun u eu G3 H3 F=>?_⟩;have k3:=k2.snd eu F.hh;have x13:=(x1.trans x2).trans F;have p3:=p1.mono (x2.gg.trans F.gg);cases d with
 |lst ds=>
  rw[rep_lst]at p3;obtain⟨a,xs,rfl,sq,rl⟩:=p3;exact .inl ⟨a,xs,rfl,F.gh.seq sq.sq,fun p hp=>⟨_,_,al e (al el (al eu rfl)),x13.trans (.new F.gh hp _),rep_lst.mpr ⟨p,_,rfl,.of ao,(rT rl l u).mono (Ext.new F.gh hp _).gg⟩⟩⟩
 |tup ds=>
  rw[rep_tup]at p3;obtain⟨a,xs,rfl,sq,rl⟩:=p3;unfold iB at k3;dsimp only at k3;by_cases hw:HT.cb ds.length 0 l=0∧HT.cb ds.length ds.length u=ds.length
  ·rw[if_pos hw]at k3;exact k3.elim
  ·exact .inr ⟨a,xs,rfl,F.gh.seqT sq,by rw[←rl.length];exact hw,fun p hp=>⟨_,_,al e (al el (al eu (if_neg hw))),x13.trans (.new F.gh hp _),rep_tup.mpr ⟨p,_,rfl,.of ao,(rT rl l u).mono (Ext.new F.gh hp _).gg⟩⟩⟩
 |_=>exact k3.elim
end
inductive Out where
 |nx (ρ:DS)|rt (d:D)|bk (ρ:DS)|ct (ρ:DS)|exc (c:Addr)|bad
noncomputable def OkO (E:XK)(H:Hp):Out→Prop
 |.exc c=>∀H',Same H H'→E (.ref c) none H'
 |.bad=>False
 |_=>True
noncomputable def Out.then:Out→(DS→Out)→Out
 |.nx ρ,f=>f ρ
 |o,_=>o
noncomputable def Res.out {α:Type}:Res α→(α→Out)→Out
 |.ok a,f=>f a
 |.exc c,_=>.exc c
 |.bad,_=>.bad
noncomputable def SO (X:Cx)(pins:List (Addr×Obj))(G H:Hp)(o:Out)(fl:Flow)(s':Shared):Prop:=
 match fl with
 |.next=>∃ρ' σ' G' H',o= .nx ρ'∧Inv X pins σ' H' s'∧Ext G H G' H'∧Ro X.K G' σ' ρ'
 |.brk=>∃ρ' σ' G' H',o= .bk ρ'∧Inv X pins σ' H' s'∧Ext G H G' H'∧Ro X.K G' σ' ρ'
 |.cont=>∃ρ' σ' G' H',o= .ct ρ'∧Inv X pins σ' H' s'∧Ext G H G' H'∧Ro X.K G' σ' ρ'
 |.ret u=>∃d v σ' G' H',o= .rt d∧Inv X pins σ' H' s'∧RelV v u∧Ext G H G' H'∧Rep X.K G' d v
noncomputable def xn (X:Cx)(E:XK)(st:Stmt)(F:DS→Out):Prop:=
 ∀(pins:List (Addr×Obj)) (s:Shared) (σ:St) (G H:Hp) (ρ:DS),Inv X pins σ H s→Same G H→Ro X.K G σ ρ→OkO E H (F ρ)→
  wpAny (model X.prog X.w) X.A (exec st X.env) (SO X pins G H (F ρ)) X.xe s
noncomputable def Df (X:Cx)(E:XK)(sts:List Stmt)(F:DS→Out):Prop:=
 ∀(pins:List (Addr×Obj)) (s:Shared) (σ:St) (G H:Hp) (ρ:DS),Inv X pins σ H s→Same G H→Ro X.K G σ ρ→OkO E H (F ρ)→
  wpAny (model X.prog X.w) X.A (execs sts X.env) (SO X pins G H (F ρ)) X.xe s
theorem OkO.fst {E:XK}{H:Hp}{o:Out}{f:DS→Out}(h:OkO E H (o.then f)):OkO E H o:=by cases o <;> first|exact h|trivial
theorem OkO.snd {E:XK}{H H1:Hp}{o:Out}{f:DS→Out}{ρ:DS}(h:OkO E H (o.then f))(e:o= .nx ρ)(s:Same H H1):OkO E H1 (f ρ):=by
 subst e;have h':OkO E H (f ρ):=h;cases q:f ρ with
 |exc c=>rw[q]at h';exact fun H' s'=>h' H' (s.trans s')
 |bad=>rw[q]at h';exact h'
 |nx _=>trivial
 |rt _=>trivial
 |bk _=>trivial
 |ct _=>trivial
theorem OkO.le {E:XK}{H H1:Hp}{o:Out}(h:OkO E H o)(s:Same H H1):OkO E H1 o:=by
 cases o with
 |exc c=>exact fun H' s'=>h H' (s.trans s')
 |bad=>exact h
 |_=>trivial
theorem OkO.res {α:Type}{E:XK}{H:Hp}{x:Res α}{f:α→Out}(h:OkO E H (x.out f)):OkR E H x:=by cases x <;> first|exact h|trivial
theorem OkO.res2 {α:Type}{E:XK}{H H1:Hp}{x:Res α}{f:α→Out}{a:α}(h:OkO E H (x.out f))(e:x= .ok a)(s:Same H H1):OkO E H1 (f a):=by
 subst e;exact OkO.le (show OkO E H (f a) from h) s
theorem b_ {α:Type}{x:Res α}{f:α→Out}{a:α}(e:x= .ok a):x.out f=f a:=by subst e;rfl
section
variable{X:Cx}{E:XK}
noncomputable def az (F R:DS→Out):DS→Out:=fun ρ=>(F ρ).then R
theorem sI {st:Stmt}{F:DS→Out}(h1:xn X E st F):Df X E [st] F:=by
 intro pins s σ G H ρ I hs hr ho;refine wpAny_execs_cons (aE (h1 pins s σ G H ρ I hs hr ho) fun fl s1 q=>?_);cases fl with
 |next=>exact wpAny_execs_nil q
 |brk=>exact q
 |cont=>exact q
 |ret u=>exact q
noncomputable def cG (f:DS→Res D):DS→Out:=fun ρ=>(f ρ).out .rt
theorem wu {e:Expr}{pos:Pos}{f:DS→Res D}(h:PD X E e f):xn X E (.Return (some e) pos) (cG f):=by
 intro pins s σ G H ρ I hs hr ho;refine aE (rf (pos:=pos) (eR h) pins s σ H {nx:=fun _ _=>False,bk:=fun _ _=>False,ct:=fun _ _=>False,rt:=fun v H'=>∃d G',f ρ= .ok d∧Ext G H G' H'∧Rep X.K G' d v} I ⟨G,ρ,hs,hr,ho.res,fun d e v G' H' x rp=>⟨d,G',e,x,rp⟩⟩) fun fl s1 q=>?_;cases fl with
 |next=>obtain⟨_,_,_,q⟩:=q;exact q.elim
 |brk=>obtain⟨_,_,_,q⟩:=q;exact q.elim
 |cont=>obtain⟨_,_,_,q⟩:=q;exact q.elim
 |ret u=>
  obtain⟨v,σ',H',I',rv,d,G',e,x,rp⟩:=q;exact⟨d,v,σ',G',H',b_ e,I',rv,x,rp⟩
noncomputable def aN (i:Nat)(f:DS→Res D):DS→Out:=fun ρ=>(f ρ).out fun d=>.nx (ρ.set i (some d))
noncomputable def gy (fc:DS→Res Bool)(Fa Fb:DS→Out):DS→Out:=fun ρ=>(fc ρ).out fun k=>if k=true then Fa ρ else Fb ρ
noncomputable def a7 (C:Addr)(ok:DS→Bool):DS→Out:=fun ρ=>if ok ρ=true then .exc C else .bad
theorem qf {x:Str}{np cpos pos:Pos}{e:Expr}{es:List Expr}{C:Addr}{t:TA}(hR:il X E)(hc:X.calm=true)(Gx:ExcC X.K X.mg x C)(hg:Gl X x)(ha:PA X (e::es) t)(ok:DS→Bool)
  (ht:∀σ G H ρ,Same G H→Ro X.K G σ ρ→ok ρ=true→t σ H fun vs H1=>vs.length≤sizeLine∧H1=H)
  (he:starEach (e::es) X.env=(false,eval e X.env)::starEach es X.env:=by rfl) (hpl:(backTo cpos (starEach es X.env)).any (·.1)=false:=by rfl) (hdb:(x==("__debug__" :Str))=false:=by decide)
  (hmono:∀σ H Q Q',(∀vs H1,Q vs H1→Q' vs H1)→t σ H Q→t σ H Q') :
  xn X E (.Raise (some (.Call (.Name x np) (e::es) [] cpos)) none pos) (a7 C ok):=by
 intro pins s σ G H ρ I hs hr ho;unfold a7 at ho ⊢;by_cases hk:ok ρ=true
 ·rw[if_pos hk]at ho ⊢;refine wpAny_mono (wy hR hc Gx hg ha he hpl hdb pins s σ H {nx:=fun _ _=>False,bk:=fun _ _=>False,ct:=fun _ _=>False,rt:=fun _ _=>False} I (hmono _ _ _ _ (fun vs H1 hZ126=>(by obtain⟨a,b⟩:=hZ126;exact⟨a,by subst b;exact ho _ (.refl _)⟩)) (ht σ G H ρ hs hr hk))) (fun fl s1 q=>?_) fun _ _ z=>z;cases fl with
  |next=>obtain⟨_,_,_,q⟩:=q;exact q.elim
  |brk=>obtain⟨_,_,_,q⟩:=q;exact q.elim
  |cont=>obtain⟨_,_,_,q⟩:=q;exact q.elim
  |ret u=>obtain⟨_,_,_,_,_,q⟩:=q;exact q.elim
 ·rw[if_neg hk]at ho;exact ho.elim
noncomputable def yb (j:Nat)(F:DS→Out):List D→DS→Out
 | [],ρ=>.nx ρ
 |d::ds,ρ=>match F (ρ.set j (some d)) with
  |.nx ρ'=>yb j F ds ρ'
  |.ct ρ'=>yb j F ds ρ'
  |.bk ρ'=>.nx ρ'
  |.rt d=>.rt d
  |.exc c=>.exc c
  |.bad=>.bad
noncomputable def Dj (fi:DS→Res (List D))(j:Nat)(F:DS→Out):DS→Out:=fun ρ=>(fi ρ).out fun ds=>yb j F ds ρ
end
noncomputable def fO:Out→Res D
 |.rt d=>.ok d
 |.nx _=>.ok .non
 |.exc c=>.exc c
 |_=>.bad
noncomputable def au (N:List Str)(ds:List D):DS:=ds.map some ++ replicate (N.length-ds.length) none
theorem ly {K:W.Frag}{G:Hp}{N:List Str}{ds:List D}{vs:List V}(h:RepL K G ds vs):Ro K G (cW N vs) (au N ds):=by
 intro i d e;unfold au at e;unfold cW;by_cases hi:i<ds.length
 ·rw[List.getElem?_append_left (by simpa using hi),getElem?_map]at e;cases q:ds[i]? with
  |none=>rw[q]at e;cases e
  |some d'=>
   rw[q]at e;cases e;obtain⟨v,hv,rv⟩:=h.get q;have hv2:i<vs.length:=(jj hv).1;exact⟨v,by rw[List.getElem?_append_left (by simpa using hv2),getElem?_map,hv];rfl,rv⟩
 ·rw[List.getElem?_append_right (by simpa using hi),getElem?_replicate]at e;split at e <;> cases e
section
variable{P:Program}{w:World}{K:W.Frag}{mg:Str→Option Value}{base:Heap}
noncomputable abbrev oS (P:Program)(w:World)(K:W.Frag)(mg:Str→Option Value)(base:Heap)(N:List Str)(qual:Str)(scope:Scope)(f:Addr)(cdv:Value)(A:Around)(outer:List Env)(s:Shared)(H:Hp)(E:XK):Cx:=lP (CXF P w) P w K mg base N qual scope f cdv A outer s H E
theorem Fun.okF {x qual:Str}{st:Stmt}{f:Addr}{fd:FuncData}{N ps:List Str}{k:Nat}{sp:Sp}(F:Fun K x qual st f fd)(S:FnScope N ps (af st))(len:∀vs H Q E,sp vs H Q E→vs.length=ps.length)
  (hbody:∀(cdv:Value) (A:Around) (outer:List Env) (s:Shared) (H:Hp) (vs:List V) (Q:VK) (E:XK),Room k (A.deeper (envOfC qual (af st) s.heap.objs.size f cdv))→sp vs H Q E→
   ∃t,BP (oS P w K mg base N qual (af st) f cdv A outer s H E) (bv st) t∧t {nx:=fun _ H'=>Q .non H',rt:=Q} (cW N vs) H):FnOk P w K mg base (CXF P w) (k+1) f fd ps sp:=by
 obtain⟨oc,od,kV,doc,pm,an,cdv,ct,osl,rfl,lk,hcd⟩:=F.ex;exact u7 lk hcd S len fun A outer s H vs Q E hr hsp=>hbody cdv A outer s H vs Q E hr hsp
theorem Fun.pure {x qual:Str}{st:Stmt}{f:Addr}{fd:FuncData}{N ps:List Str}{k:Nat}{m:List D→Res D}(F:Fun K x qual st f fd)(S:FnScope N ps (af st))(len:∀ds,m ds≠ .bad→ds.length=ps.length)
  (hbody:∀(cdv:Value) (A:Around) (outer:List Env) (s:Shared) (H:Hp) (E:XK),Room k (A.deeper (envOfC qual (af st) s.heap.objs.size f cdv))→
   ∃Fb,Df (oS P w K mg base N qual (af st) f cdv A outer s H E) E (bv st) Fb∧∀ds,m ds≠ .bad→fO (Fb (au N ds))=m ds):FnOk P w K mg base (CXF P w) (k+1) f fd ps (pureSp K m):=by
 have nb:∀{E:XK} {H:Hp} {r:Res D},OkR E H r→r≠ .bad:=fun h z=>by rw[z]at h;exact h
 obtain⟨oc,od,kV,doc,pm,an,cdv,ct,osl,rfl,lk,hcd⟩:=F.ex;refine u7 lk hcd S (fun vs H Q E hZ127=>(by obtain⟨ds,G,_,rl,L,_⟩:=hZ127;rw[←rl.length];exact len ds (nb L))) fun A outer s H vs Q E hr hsp=>?_;obtain⟨ds,G,hs,rl,L,k⟩:=hsp;obtain⟨Fb,hb,hm⟩:=hbody cdv A outer s H E hr;have J:=hm ds (nb L);have hoO:OkO E H (Fb (au N ds)):=by
  rw[←J]at L;cases q:Fb (au N ds) with
  |exc c=>rw[q]at L;exact L
  |bad=>rw[q]at L;exact L
  |_=>trivial
 refine⟨fun D σ H1=>(σ=cW N vs∧H1=H∧(D.nx=fun _ M=>Q .non M)∧D.rt=Q),?_,rfl,rfl,rfl,rfl⟩;intro pins s1 σ H1 D I hZ10;obtain⟨e1,e2,e3,e4⟩:=hZ10;subst e1 e2;refine aE (hb pins s1 _ G H1 (au N ds) I hs (ly rl) hoO) fun fl s2 q=>?_;cases fl with
 |next=>
  obtain⟨ρ',t,G',M,e,I',x,r⟩:=q;refine⟨t,M,I',?_⟩;rw[e3];exact k .non (by rw[←J,e];rfl) .non G' M x (rep_non.mpr rfl)
 |brk=>
  obtain⟨ρ',t,G',M,e,I',x,r⟩:=q;rw[e]at J;exact absurd J.symm (nb L)
 |cont=>
  obtain⟨ρ',t,G',M,e,I',x,r⟩:=q;rw[e]at J;exact absurd J.symm (nb L)
 |ret u=>
  obtain⟨d,v,t,G',M,e,I',rv,x,rp⟩:=q;refine⟨v,t,M,I',rv,?_⟩;rw[e4];exact k d (by rw[←J,e];rfl) v G' M x rp
end
section
variable{X:Cx}{E:XK}
noncomputable def ac (i:Nat):DS→Res D:=fun ρ=>match ρ[i]? with|some (some d)=>.ok d|_=>.bad
theorem dv (i:Nat){x:Str}{pos:Pos}(hN:X.N[i]?=some x:=by rfl)(hv:xg X.env.scope x:=by first|exact Or.inl rfl|exact Or.inr (Or.inl rfl)|exact Or.inr (Or.inr rfl))(hd:(x==("__debug__" :Str))=false:=by decide)
  (hcd:(x==("__classdict__" :Str))=false:=by decide):PD X E (.Name x pos) (ac i):=Bd hN hv hd hcd
end
section
variable{α β:Type}{a:α}{f:α→Res β}{g:α→Out}{c:Addr}
theorem aw:(Res.ok a).bind f=f a:=id rfl
theorem pA:(Res.exc c:Res α).bind f= .exc c:=id rfl
theorem bN:(Res.ok a).out g=g a:=id rfl
theorem qL:(Res.exc c:Res α).out g= .exc c:=id rfl
end
section
variable{ρ:DS}{R:DS→Out}{d e:D}{i j:Int}{l:List D}{c:Addr}{F F':DS→Out}{f f':DS→Res D}{fc:DS→Res Bool}{b:Bool}
theorem qO:(Out.nx ρ).then R=R ρ:=id rfl
theorem qP:(Out.rt d).then R= .rt d:=id rfl
theorem pD:(Out.exc c).then R= .exc c:=id rfl
theorem qN:az F R ρ=(F ρ).then R:=id rfl
theorem nE {k:Nat}:aN k f ρ=(f ρ).out fun d=>.nx (ρ.set k (some d)):=id rfl
theorem qM:cG f ρ=(f ρ).out .rt:=id rfl
theorem B6:gy fc F F' ρ=(fc ρ).out fun k=>if k=true then F ρ else F' ρ:=id rfl
theorem zk {o:D→D→Res D}:aj f f' o ρ=(f ρ).bind fun a=>(f' ρ).bind fun b=>o a b:=id rfl
theorem B2 {fs:DS→Res (List D)}{g:List D→Res D}:bn fs g ρ=(fs ρ).bind g:=id rfl
theorem Aa:f7 f ρ=(f ρ).bind fun d=>match d with|.bl b=>.ok b|_=>.bad:=id rfl
theorem x8:ac 0 (some d::ρ)= .ok d:=id rfl
theorem x9 {k:Nat}{o:Option D}:ac (k+1) (o::ρ)=ac k ρ:=id rfl
theorem xX {o o':Option D}:(o::ρ).set 0 o'=o'::ρ:=id rfl
theorem xY {k:Nat}{o o':Option D}:(o::ρ).set (k+1) o'=o::ρ.set k o':=id rfl
theorem uV:fO (.rt d)= .ok d:=id rfl
theorem uU:fO (.nx ρ)= .ok .non:=id rfl
theorem tE:fO (.exc c)= .exc c:=id rfl
theorem zZ:uB (.int i) (.int j)= .ok (.int (i+j)):=id rfl
theorem Ay:oH (.int i) (.int j)= .ok (.int (i-j)):=id rfl
theorem xT (h1: -(2 ^ 64)<j)(h2:j<2 ^ 64):ym (.int i) (.int j)= .ok (.int (i*j)):=by
 unfold ym gA;dsimp only;rw[if_pos (decide_eq_true (show CMul i j from Or.inr ⟨h1,h2⟩))]
theorem uT (h:0<j):pV (.int i) (.int j)= .ok (.int (i % j)):=by
 unfold pV gA;dsimp only;rw[if_pos (decide_eq_true h)]
theorem r7 (h1:0<j)(h2:j<1073741824):sd (.int i) (.int j)= .ok (.int (i / j)):=by
 unfold sd gA;dsimp only;rw[if_pos (decide_eq_true (show ux i j from ⟨h1,h2⟩))]
theorem B8:AR (.int i) (.int j)= .ok (.bl (decide (i<j))):=id rfl
theorem zj:qy (.int i) (.int j)= .ok (.bl (decide (i≤j))):=id rfl
theorem B5:Ca (.int i) (.int j)= .ok (.bl (decide (j<i))):=id rfl
theorem B4:DT (.int i) (.int j)= .ok (.bl (decide (j≤i))):=id rfl
theorem xN:bz [.lst l]= .ok (.int l.length):=id rfl
theorem xO:bz [.tup l]= .ok (.int l.length):=id rfl
theorem qK {d:D}(h:atI l i=some d):bG (.lst l) (.int i)= .ok d:=by unfold bG;dsimp only;rw[h]
theorem iu {d:D}(h:atI l i=some d):bG (.tup l) (.int i)= .ok d:=by unfold bG;dsimp only;rw[h]
theorem jn {α:Type}{xs:List α}{i:Int}{v:α}(h0:0≤i)(h:xs[i.toNat]?=some v):atI xs i=some v:=by
 have:=rR (j:=i.toNat) h;rwa[Int.toNat_of_nonneg h0]at this
theorem xS:Ct [.int i,.int j]= .ok (.int (min i j)):=id rfl
theorem xQ:Cs [.int i,.int j]= .ok (.int (max i j)):=id rfl
end
section
variable{X:Cx}{E:XK}
noncomputable def bS (f:DS→Res D):DS→Out:=fun ρ=>(f ρ).out fun _=>.nx ρ
theorem ug {x:Str}{np cpos pos jp:Pos}{v1 v2:Expr}{rest:List Expr}{n:Nat}{t:St→Hp→Prop}{C:Addr}(hR:il X E)(hc:X.calm=true)(Gx:ExcC X.K X.mg x C)(hg:Gl X x)(h:BE X (v1::v2::rest) n t)(ok:DS→Bool)
  (ht:∀σ G H ρ,Same G H→Ro X.K G σ ρ→ok ρ=true→t σ H) (hn:n≤100000:=by decide)
  (he:starEach [.JoinedStr (v1::v2::rest) jp] X.env=(false,eval (.JoinedStr (v1::v2::rest) jp) X.env)::starEach [] X.env:=by rfl) (hdb:(x==("__debug__" :Str))=false:=by decide) :
  xn X E (.Raise (some (.Call (.Name x np) [.JoinedStr (v1::v2::rest) jp] [] cpos)) none pos) (a7 C ok):=
 qf hR hc Gx hg (cM (yG h hn) gI he) ok (fun σ G H ρ hs hr hk=>⟨ht σ G H ρ hs hr hk,fun x=>⟨by show 1≤sizeLine;decide,rfl⟩⟩) he rfl hdb fun σ H Q Q' hq hZ128=>(by obtain⟨a,b⟩:=hZ128;exact⟨a,fun x=>hq _ _ (b x)⟩)
theorem uh {x:Str}{np cpos pos jp:Pos}{y:Str}{j:Nat}{C:Addr}(hR:il X E)(hc:X.calm=true)(Gx:ExcC X.K X.mg x C)(hg:Gl X x)
  (he:starEach [.Constant (.str y) j jp] X.env=(false,eval (.Constant (.str y) j jp) X.env)::starEach [] X.env:=by rfl) (hdb:(x==("__debug__" :Str))=false:=by decide) :
  xn X E (.Raise (some (.Call (.Name x np) [.Constant (.str y) j jp] [] cpos)) none pos) (a7 C fun _=>true):=
 qf hR hc Gx hg (cM wd gI he) (fun _=>true) (fun σ G H ρ hs hr hk=>⟨by show 1≤sizeLine;decide,rfl⟩) he rfl hdb fun σ H Q Q' hq h=>hq _ _ h
noncomputable def pX (i:Nat)(ρ:DS):Bool:=match ρ[i]? with|some (some (.int n))=>decide (n.natAbs.log2<1920)|_=>false
theorem pY {i:Nat}{K:W.Frag}{σ:St}{G H:Hp}{ρ:DS}(hr:Ro K G σ ρ)(h:pX i ρ=true):w9 (ze i) σ H:=by
 unfold pX at h;split at h
 ·rename_i n q;obtain⟨v,hv,rv⟩:=hr i _ q;rw[rep_int]at rv;subst rv;exact⟨_,hv,rfl,n,rfl,of_decide_eq_true h⟩
 ·cases h
noncomputable def nP (K:W.Frag)(C:Addr)(m:List D→Res D):Sp:=fun vs H Q E=>∃p dx rest ds G,vs= .ref p::rest∧H p=some (.ins C dx [])∧Same G H∧G p=none∧RepL K G ds rest∧OkR E H (m ds)∧
 ∀ns fds,m ds= .ok (.ins C ns fds)→∀fs G' H',fs.map (·.1)=ns→RepL K G' fds (fs.map (·.2))→H' p=some (.ins C dx fs)→(∀b o,H b=some o→b≠p→H' b=some o)→Same G G'→Same G' H'→(∀b o,G' b=some o→G b=some o∨H b=none∨nV o)→G' p=none→Q .non H'
noncomputable def zL (C:Addr)(m:List D→Res D):Prop:=∀ds d,m ds= .ok d→∃ns fds,d= .ins C ns fds
theorem yy {CX:oR}{k:Nat}{f C:Addr}{fd:FuncData}{ps:List Str}{m:List D→Res D}{x:Str}{p pos:Pos}{e:Expr}{es:List Expr}{fs:DS→Res (List D)}(M:Mk X.K C f)(F:FnOk X.prog X.w X.K X.mg X.base CX k f fd ps (nP X.K C m))(hmk:zL C m)(hr:Room (k+1) X.A)(hg:Gl X x)(hm:X.mg x=some (.ref C))(hb:Binds X.K fd ps [])(hx:bZ CX X E)
  (ha:kE X E (e::es) fs) (hpe:∀t,PA X (e::es) t→PE X (.Call (.Name x p) (e::es) [] pos) (zF C (nP X.K C m) [] E t)) :
  PD X E (.Call (.Name x p) (e::es) [] pos) (bn fs m):=by
 intro pins s σ G H ρ I hs hro ho;refine aE (hpe _ (iy ha) pins s σ H (fun v H'=>∃d G',bn fs m ρ= .ok d∧Ext G H G' H'∧Rep X.K G' d v) I ?_) fun u s' hZ129=>(by obtain⟨v,H',I',r',d,G',e,x,rp⟩:=hZ129;exact⟨d,e,v,G',H',I',r',x,rp⟩);refine⟨G,ρ,hs,hro,ho.fst,fun ds e1 vs G1 H1 x1 p1 y dy hy hdy hne=>?_⟩;have kk:=ho.snd e1 x1.hh;have N:Same H1 (aS (aS H1 dy (.own y)) y (.ins C dy [])):=fun b o J=>by rw[ai (ap J hy),ai (ap J hdy)];exact J
 have fr2:∀b,(aS (aS H1 dy (.own y)) y (.ins C dy [])) b=none→H1 b=none:=fun b J=>N.free J;have g1y:G1 y=none:=by
  cases q:G1 y with
  |none=>rfl
  |some o=>rw[x1.gh y o q]at hy;cases hy
 refine⟨y,dy,vs,ds,G1,by rw[append_nil],ao,x1.gh.trans N,g1y,p1,kk.le N,fun ns fds em fs2 G' H' hn rl hp kp sg sh nw gp=>⟨rfl,?_⟩⟩;refine⟨.ins C ns fds,aS G' y (.ins C dy fs2),al e1 em,x1.trans ⟨?_,?_,?_,?_⟩,rep_ins.mpr ⟨y,dy,fs2,rfl,ao,hn,rl.mono ?_⟩⟩
 ·exact fun b o J=>kp b o (N b o J) (ap J hy)
 ·exact fun b o J=>by rw[ai (ap (sg b o J) gp)];exact sg b o J
 ·intro b o J;by_cases L:b=y
  ·subst L;rw[ao]at J;cases J;exact hp
  ·rw[ai L]at J;exact sh b o J
 ·intro b o J;by_cases L:b=y
  ·subst L;exact .inr (.inl hy)
  ·rw[ai L]at J;exact(nw b o J).imp id (Or.imp (fr2 b) id)
 ·exact fun b o J=>by rw[ai (ap J gp)];exact J
noncomputable def DI (F:DS→Out)(g:Addr→Option D):DS→Out:=fun ρ=>match F ρ with
 |.exc c=>(match g c with|some d=>.rt d|none=>.bad)
 |o=>o
end
theorem xy:bootBuiltins "list" =some (.type "list"):=by decide +kernel
theorem uF:bootBuiltins "tuple" =some (.type "tuple"):=by decide +kernel
theorem BU:bootBuiltins "ValueError" =some (.type "ValueError"):=by decide +kernel
theorem uE:bootBuiltins "max" =some (.builtin "max"):=by decide +kernel
section
variable{X:Cx}{E:XK}
theorem iY {x:Str}{i:Int}{pos:Pos}(hm:∃t,X.mg x=some (.int i t))(hg:Gl X x:=by rfl)(hd:(x==("__debug__" :Str))=false:=by decide):PD X E (.Name x pos) (fun _=>.ok (.int i)):=by
 obtain⟨t,hm⟩:=hm;exact vQ hg hm ⟨t,rfl⟩ hd
theorem v6 {x:Str}{i:Int}{pos:Pos}(hm:∃t,X.mg x=some (.int i t))(hg:Gl X x:=by rfl)(hd:(x==("__debug__" :Str))=false:=by decide):PE X (.Name x pos) (tC (.int i)):=by
 obtain⟨t,hm⟩:=hm;exact km hg hm ⟨t,rfl⟩ hd
theorem oJ {i:Int}{σ:St}{H:Hp}(h:i.natAbs.log2<1920):w9 (tC (.int i)) σ H:=⟨rfl,i,rfl,h⟩
end
section
variable{ρ:DS}{fa fb fc:DS→Res D}{f g:DS→Res Bool}{b:Bool}{c:Addr}{F:DS→Out}{j:Nat}{d:D}{ds:List D}
theorem z_:xq f g ρ=(f ρ).bind fun b=>if b=true then g ρ else .ok false:=id rfl
theorem B9:DW f g ρ=(f ρ).bind fun b=>if b=true then .ok true else g ρ:=id rfl
theorem Aw:jV f ρ=(f ρ).bind fun b=>.ok (!b):=id rfl
theorem xK:bS fa ρ=(fa ρ).out fun _=>.nx ρ:=id rfl
theorem Ag {fi:DS→Res (List D)}:Dj fi j F ρ=(fi ρ).out fun ds=>yb j F ds ρ:=id rfl
theorem kY {ok:DS→Bool}(h:ok ρ=true):a7 c ok ρ= .exc c:=if_pos h
theorem At {a b:Int}:vG (.int a) (.int b)= .ok (.bl (!(a==b))):=id rfl
theorem Ae {a b:Int}:js (.int a) (.int b)= .ok (.bl (a==b)):=id rfl
theorem xI:zP fa fb ρ=(fa ρ).bind fun d=>match d with|.bl true=>fb ρ|.bl false=>.ok (.bl false)|_=>.bad:=id rfl
theorem xU:Dq fa ρ=(fa ρ).bind fun d=>match d with|.bl b=>.ok (.bl (!b))|_=>.bad:=id rfl
theorem xP {fs:DS→Res (List D)}:bT fs ρ=(fs ρ).bind fun ds=>if aF ds.length=true then .ok (.lst ds) else .bad:=id rfl
theorem x6 {fs:DS→Res (List D)}:iC fs ρ=(fs ρ).bind fun ds=>if aF ds.length=true then .ok (.tup ds) else .bad:=id rfl
theorem xR {C:Addr}{m:Str}{gm:List D→Res D}:ie C m fa gm ρ=(fa ρ).bind fun o=>if jL C m o=true then gm [o] else .bad:=id rfl
theorem uW {lo hi:DS→Res (Option Int)}:BG fa lo hi ρ=(fa ρ).bind fun d=>(lo ρ).bind fun l=>(hi ρ).bind fun u=>iB l u d:=id rfl
theorem Az {F:DS→Out}{gx:Addr→Option D}:DI F gx ρ=match F ρ with|.exc c=>(match gx c with|some d=>.rt d|none=>.bad)|o=>o:=id rfl
theorem Al {d:D}:Dm d .non= .ok (.bl (C6 d)):=id rfl
theorem xV {d:D}:Cw d .non= .ok (.bl (!C6 d)):=id rfl
theorem jD {n:Int}(h1: -(10 ^ 20)<n)(h2:n<10 ^ 20):n.natAbs.log2<1920:=by
 have h:n.natAbs<2 ^ 100:=by omega
 by_cases hz:n.natAbs=0
 ·rw[hz];decide
 ·exact lt_of_lt_of_le ((Nat.log2_lt hz).mpr h) (by decide)
end
section
variable{X:Cx}{E:XK}
theorem mF {x:Str}{np cpos pos jp:Pos}{v1 v2:Expr}{rest:List Expr}{n:Nat}{t:St→Hp→Prop}{C:Addr}(Gx:ExcC X.K X.mg x C)(h:BE X (v1::v2::rest) n t)(ok:DS→Bool)
  (ht:∀σ G H ρ,Same G H→Ro X.K G σ ρ→ok ρ=true→t σ H) (hR:il X E:=by exact mG fun _ _ _ h=>h) (hc:X.calm=true:=by rfl) (hg:Gl X x:=by rfl) (hn:n≤100000:=by decide)
  (he:starEach [.JoinedStr (v1::v2::rest) jp] X.env=(false,eval (.JoinedStr (v1::v2::rest) jp) X.env)::starEach [] X.env:=by rfl) (hdb:(x==("__debug__" :Str))=false:=by decide) :
  xn X E (.Raise (some (.Call (.Name x np) [.JoinedStr (v1::v2::rest) jp] [] cpos)) none pos) (a7 C ok):=ug hR hc Gx hg h ok ht hn he hdb
theorem zC {x:Str}{np cpos pos jp:Pos}{y:Str}{j:Nat}{C:Addr}(Gx:ExcC X.K X.mg x C)(hR:il X E:=by exact mG fun _ _ _ h=>h)(hc:X.calm=true:=by rfl)(hg:Gl X x:=by rfl)
  (he:starEach [.Constant (.str y) j jp] X.env=(false,eval (.Constant (.str y) j jp) X.env)::starEach [] X.env:=by rfl) (hdb:(x==("__debug__" :Str))=false:=by decide) :
  xn X E (.Raise (some (.Call (.Name x np) [.Constant (.str y) j jp] [] cpos)) none pos) (a7 C fun _=>true):=uh hR hc Gx hg he hdb
theorem CG {pl:Sem Bool}{k:Nat}{f C:Addr}{fd:FuncData}{ps:List Str}{g:List D→Res D}{m:Str}{apos pos:Pos}{o:Expr}{fo:DS→Res D}(hoo:PD X E o fo)(c:Cls X.K C)(hm:Meth X.K C m f)(F:FnOk X.prog X.w X.K X.mg X.base (CXF X.prog X.w) k f fd ps (pureSp X.K g))(hr:Room k X.A)(hb:Binds X.K fd ps [])
  (hx:bZ (CXF X.prog X.w) X E:=by exact gn fun _ _ _ h=>h)
  (ht:eval (.Call (.Attribute o m apos) [] [] pos) X.env=(do
   let ov ←eval o X.env
   standAt apos.atName
   let (f,first) ←holding [ov] (getMethod ov m pl)
   callWith pos f first (backTo pos (starEach [] X.env)) (backToKw pos (keywordEach [] X.env))):=by rfl):PD X E (.Call (.Attribute o m apos) [] [] pos) (ie C m fo g):=
 vR (pl:=pl) hoo c hm F hr hb hx (v_ (pl:=pl) (eR hoo) c hm F hr hb .nil hx ht)
end
section
variable{X:Cx}{E:XK}{e e2:Expr}{p pos:Pos}{f f2:DS→Res D}
theorem bK (hm:X.mg "len" =none)(h:PD X E e f)(hg:Gl X "len" :=by rfl)(he:starEach [e] X.env=(false,eval e X.env)::starEach [] X.env:=by rfl):PD X E (.Call (.Name "len" p) [e] [] pos) (fun ρ=>(f ρ).bind fun a=>bz [a]):=by
 have q:=iW (X:=X) (E:=E) (p:=p) (pos:=pos) m_ zU hg hm PySem.boot_len (aa h ae he) (by decide) (by decide) he rfl;have e:bn (fun ρ=>(f ρ).bind fun d=>(Res.ok []:Res (List D)).bind fun ds=>.ok (d::ds)) bz=fun ρ=>(f ρ).bind fun a=>bz [a]:=funext fun ρ=>by
  show ((f ρ).bind _).bind _=_;cases f ρ <;> rfl
 exact e ▸ q
theorem vW (hm:X.mg "tuple" =none)(h:PD X E e f)(hg:Gl X "tuple" :=by rfl)(he:starEach [e] X.env=(false,eval e X.env)::starEach [] X.env:=by rfl):PD X E (.Call (.Name "tuple" p) [e] [] pos) (fun ρ=>(f ρ).bind fun a=>lF [a]):=by
 have q:=jE (X:=X) (E:=E) (p:=p) (pos:=pos) lN uI hg hm uF (aa h ae he) (by decide) (by decide) he rfl;have e:bn (fun ρ=>(f ρ).bind fun d=>(Res.ok []:Res (List D)).bind fun ds=>.ok (d::ds)) lF=fun ρ=>(f ρ).bind fun a=>lF [a]:=funext fun ρ=>by
  show ((f ρ).bind _).bind _=_;cases f ρ <;> rfl
 exact e ▸ q
theorem yz (hm:X.mg "max" =none)(h:PD X E e f)(hc:X.calm=true:=by rfl)(hg:Gl X "max" :=by rfl)(he:starEach [e] X.env=(false,eval e X.env)::starEach [] X.env:=by rfl):PD X E (.Call (.Name "max" p) [e] [] pos) (fun ρ=>(f ρ).bind fun a=>nZ [a]):=by
 have q:=iW (X:=X) (E:=E) (p:=p) (pos:=pos) (tf hc) xF hg hm uE (aa h ae he) (by decide) (by decide) he rfl;have e:bn (fun ρ=>(f ρ).bind fun d=>(Res.ok []:Res (List D)).bind fun ds=>.ok (d::ds)) nZ=fun ρ=>(f ρ).bind fun a=>nZ [a]:=funext fun ρ=>by
  show ((f ρ).bind _).bind _=_;cases f ρ <;> rfl
 exact e ▸ q
theorem CK {x:Str}{n:String}{pos:Pos}(hm:X.mg x=none)(hv:bootBuiltins x=some (.type n))(hg:Gl X x:=by rfl)(hn:x≠ "__name__" :=by decide)(hd:(x==("__debug__" :Str))=false:=by decide):PE X (.Name x pos) (tC (.ty n)):=yD hg hm hv rfl hn hd
theorem gJ {x:Str}{C:Addr}{pos:Pos}(hm:X.mg x=some (.ref C))(hg:Gl X x:=by rfl)(hd:(x==("__debug__" :Str))=false:=by decide):PE X (.Name x pos) (tC (.ref C)):=km hg hm rfl hd
theorem iZ {a c:Expr}{p pos:Pos}{fa:DS→Res D}{vc:V}(hm:X.mg "isinstance" =none)(ha:PD X E a fa)(hcl:PE X c (tC vc))(hvc:cV vc≠ .none:=by exact fun z=>nomatch z)(hg:Gl X "isinstance" :=by rfl)
  (hs1:starEach [a,c] X.env=(false,eval a X.env)::starEach [c] X.env:=by rfl) (hs2:starEach [c] X.env=(false,eval c X.env)::starEach [] X.env:=by rfl) (hpl:(backTo pos (starEach [c] X.env)).any (·.1)=false:=by rfl) :
  PD X E (.Call (.Name "isinstance" p) [a,c] [] pos) (fun ρ=>(fa ρ).bind (dk X.K (cV vc))):=A_ ha hcl hvc hg hm hs1 hs2 hpl
end
section
variable{ρ:DS}{fa fb fc:DS→Res D}{c:Addr}{l:List D}{i:Int}
noncomputable def C7:D→D→Res D→Res Bool
 |.int a,.int b,z=>if a≤b then z.bind fun c=>(match c with|.int c=>.ok (decide (b≤c))|_=>.bad) else .ok false
 |_,_,_=>.bad
theorem An {x y z:Int}:C7 (.int x) (.int y) (.ok (.int z))= .ok (decide (x≤y)&&decide (y≤z)):=by
 unfold C7;dsimp only;by_cases h:x≤y
 ·rw[if_pos h,decide_eq_true h];rfl
 ·rw[if_neg h,decide_eq_false h];rfl
theorem tB:fF fa fb fc qy qy ρ=(fa ρ).bind fun a=>(fb ρ).bind fun b=>C7 a b (fc ρ):=by
 unfold fF;cases fa ρ with
 |ok a=>
  cases fb ρ with
  |ok b=>
   rw[aw,aw,aw,aw];cases a with
   |int x=>
    cases b with
    |int y=>
     rw[zj,aw];unfold C7;dsimp only;by_cases h:x≤y
     ·rw[decide_eq_true h,if_pos h];dsimp only;cases fc ρ with
      |ok c=>
       rw[aw,aw];cases c <;> rfl
      |_=>rfl
     ·rw[decide_eq_false h,if_neg h]
    |_=>rfl
   |_=>cases b <;> rfl
  |_=>rfl
 |_=>rfl
theorem Ab:Dh (.int i)= .ok (some i):=id rfl
theorem x7:Bx (.tup l)= .ok l:=id rfl
theorem xW:y7 (.lst l)= .ok l:=id rfl
theorem B_:a7 c (fun _=>true) ρ= .exc c:=id rfl
theorem Av:AW (.int i)= .ok (.int (-i)):=id rfl
theorem xZ {x y z:D}:(([x,y,z]:List D).length:Int)=3:=id rfl
theorem zl {x:D}{r:List D}:bG (.tup (x::r)) (.int 0)= .ok x:=iu (jn (by decide) rfl)
theorem zm {x y:D}{r:List D}:bG (.tup (x::y::r)) (.int 1)= .ok y:=iu (jn (by decide) rfl)
theorem uX {x y z:D}{r:List D}:bG (.tup (x::y::z::r)) (.int 2)= .ok z:=iu (jn (by decide) rfl)
theorem uQ {x:D}{r:List D}:bG (.lst (x::r)) (.int 0)= .ok x:=qK (jn (by decide) rfl)
theorem uR {x y:D}{r:List D}:bG (.lst (x::y::r)) (.int 1)= .ok y:=qK (jn (by decide) rfl)
theorem Ao {α:Type}:aF ([]:List α).length=true:=decide_eq_true (by show 0≤100000;decide)
theorem Ap {α:Type}{a:α}:aF [a].length=true:=decide_eq_true (by show 1≤100000;decide)
theorem Aq {α:Type}{a b:α}:aF [a,b].length=true:=decide_eq_true (by show 2≤100000;decide)
theorem Ar {α:Type}{a b c:α}:aF [a,b,c].length=true:=decide_eq_true (by show 3≤100000;decide)
theorem As {α:Type}{a b c d:α}:aF [a,b,c,d].length=true:=decide_eq_true (by show 4≤100000;decide)
theorem Ax {x y z:D}:iB none (some 2) (.tup [x,y,z])= .ok (.tup [x,y]):=by
 unfold iB;dsimp only;rw[if_neg (by simp[HT.cb])];rfl
end
theorem ff {P:Program}{w:World}{X:Cx}:bZ (CXF P w) X jl:=by
 intro pins σ H s e s' I h;obtain⟨_,_,_,_,_,_,_,_,_,_,_,_,_,_,q⟩:=h;exact q.elim
noncomputable def Ch:D→Option aV
 |.int i=>some (.inl i)
 |.str x=>some (.inr x)
 |_=>none
noncomputable def e7:List D→Option (List aV)
 | []=>some []
 |d::ds=>match Ch d,e7 ds with
  |some k,some ks=>some (k::ks)
  |_,_=>none
theorem hJ {K:W.Frag}{G:Hp}:∀{ds:List D} {xs:List V} {k:List aV},RepL K G ds xs→e7 ds=some k→xs=k.map kV
 | [],xs,k,h,e=>by unfold e7 at e;cases e;rw[h.inv0];rfl
 |d::ds,xs,k,h,e=>by
  obtain⟨v,r,rfl,h1,h2⟩:=h.inv;unfold e7 at e;split at e
  ·rename_i k0 ks e1 e2;cases e;rw[hJ h2 e2];unfold Ch at e1;split at e1
   ·cases e1;rw[rep_int.mp h1];rfl
   ·cases e1;rw[rep_str.mp h1];rfl
   ·cases e1
  ·cases e
noncomputable def oM:List (List aV)→List D→List aV→Option D
 |k::ks,d::ds,q=>if k=q then some d else oM ks ds q
 |_,_,_=>none
theorem qp {K:W.Frag}{G:Hp}{q:List aV}:∀{kvs:List (List aV×V)} {ds:List D},RepL K G ds (kvs.map (·.2))→(∀d,oM (kvs.map (·.1)) ds q=some d→∃v,gb kvs q=some v∧Rep K G d v)∧(oM (kvs.map (·.1)) ds q=none→gb kvs q=none)
 | [],ds,h=>⟨fun d e=>(by unfold oM at e;cases ds <;> cases e),fun _=>rfl⟩
 |(k,v)::r,ds,h=>by
  cases ds with
  |nil=>exact absurd h.inv0 (by simp)
  |cons d0 ds=>
   obtain⟨v',r',e',h1,h2⟩:=h.inv;rw[map_cons]at e';cases e';have ih:=qp (q:=q) h2;have ev:gb ((k,v)::r) q=if k=q then some v else gb r q:=by
    unfold gb;rw[find?_cons];by_cases z:k=q
    ·rw[decide_eq_true z,if_pos z];rfl
    ·rw[decide_eq_false z,if_neg z]
   rw[map_cons];unfold oM;rw[ev];by_cases z:k=q
   ·rw[if_pos z,if_pos z];exact⟨fun d e=>⟨v,rfl,(by cases e;exact h1)⟩,fun e=>(by cases e)⟩
   ·rw[if_neg z,if_neg z];exact ih
noncomputable def iH (ks:List (List aV))(ds kd:List D):Res D:=match e7 kd with
 |some k=>(match oM ks ds k with|some d=>.ok d|none=>.bad)
 |none=>.bad
noncomputable def bR:D→D→Res D
 |.dct ks ds,.tup kd=>iH ks ds kd
 |.fdc ks ds,.tup kd=>iH ks ds kd
 |_,_=>.bad
theorem Same.rd {H H':Hp}{a:Addr}{u:HO}(s:Same H H')(h:Rd H a u):Rd H' a u:=by
 rcases h with h|⟨o,h⟩
 ·exact .inl (s _ _ h)
 ·exact .inr ⟨o,s _ _ h⟩
section
variable{X:Cx}{E:XK}
theorem kl {o i:Expr}{pos:Pos}{fo fi:DS→Res D}(hu:X.A.units+64<cLine)(ho:PD X E o fo)(hi:PD X E i fi)(hs:xm i:=by intro _ _;rfl):PD X E (.Subscript o i pos) (aj fo fi bR):=by
 intro pins s σ G H ρ I hsm hro hok;refine aE (sy (pos:=pos) (by omega) (eR ho) (eR hi) hs pins s σ H (fun v H'=>∃d G',aj fo fi bR ρ= .ok d∧Ext G H G' H'∧Rep X.K G' d v) I ?_) fun u s' hZ130=>(by obtain⟨v,H',I',r',d,G',e,x,rp⟩:=hZ130;exact⟨d,e,v,G',H',I',r',x,rp⟩);refine⟨G,ρ,hsm,hro,hok.fst,fun d1 e1 v1 G1 H1 x1 p1=>⟨G1,ρ,x1.gh,hro.mono x1.gg,(hok.snd e1 x1.hh).fst,fun d2 e2 v2 G2 H2 x2 p2=>?_⟩⟩;have L:=(hok.snd e1 x1.hh).snd e2 x2.hh;have eo:aj fo fi bR ρ=bR d1 d2:=by unfold aj;rw[e1,aw,e2,aw]
 have go:∀{ks:List (List aV)} {ds kd:List D} {a:Addr} {J:List (List aV×V)},bR d1 d2=iH ks ds kd→v1= .ref a→Rd G1 a (.dT J)→J.map (·.1)=ks→RepL X.K G1 ds (J.map (·.2))→Rep X.K G2 (.tup kd) v2→zE (fun _ H Q=>Q v1 H) (fun _ H Q=>Q v2 H) σ H2 (fun v H'=>∃d G',aj fo fi bR ρ= .ok d∧Ext G H G' H'∧Rep X.K G' d v):=fun {ks ds kd a J} ed ev rd hk rl p2=>by
  rw[ed]at L;unfold iH at L;cases ek:e7 kd with
  |none=>rw[ek]at L;exact L.elim
  |some k=>
  rw[ek]at L;dsimp only at L;cases eq:oM ks ds k with
  |none=>rw[eq]at L;exact L.elim
  |some d=>
  rw[rep_tup]at p2;obtain⟨b,xs,rfl,tb,rk⟩:=p2;subst hk;obtain⟨v,ev',rv⟩:=(qp (q:=k) rl).1 d eq;have hx:=hJ rk ek;subst hx;refine⟨a,v,ev,.inr ⟨J,k,b,(x2.gg.trans x2.gh).rd rd,rfl,x2.gh _ _ tb.h,ev'.symm⟩,d,G2,?_,x1.trans x2,rv.mono x2.gg⟩;rw[eo,ed];unfold iH;rw[ek];dsimp only;rw[eq]
 cases d1 with
 |dct ks ds=>
  cases d2 with
  |tup kd=>
   rw[rep_dct]at p1;obtain⟨a,J,e,rd,hk,rl⟩:=p1;exact go rfl e rd hk rl p2
  |_=>exact L.elim
 |fdc ks ds=>
  cases d2 with
  |tup kd=>
   rw[rep_fdc]at p1;obtain⟨a,o,J,e,rd,hk,rl⟩:=p1;exact go rfl e (.inr ⟨o,rd⟩) hk rl p2
  |_=>exact L.elim
 |_=>exact L.elim
end
section
variable{X:Cx}{E:XK}
noncomputable def uC:D→D→Res D
 |.str a,.str b=>if aF (a.length+b.length)=true then .ok (.str (a ++ b)) else .bad
 |_,_=>.bad
theorem do_addS:DOp X E (binaryOp .Add) uC:=DOp.of qZ fun G H x y dx dy hs rx ry ok=>by
 unfold uC at ok ⊢;split at ok
 ·rename_i a b;rw[rep_str]at rx ry;subst rx ry;by_cases hz:aF (a.length+b.length)=true
  ·rw[if_pos hz];exact⟨a,b,rfl,rfl,bc hz,_,G,rfl,.refl hs,rep_str.mpr rfl⟩
  ·rw[if_neg hz]at ok;exact ok.elim
 ·exact ok.elim
noncomputable def tj:D→D→Res D
 |.lst a,.lst b=>if aF (a.length+b.length)=true then .ok (.lst (a ++ b)) else .bad
 |_,_=>.bad
theorem zX:DOp X E (binaryOp .Add) tj:=DOp.of A0 fun G H x y dx dy hs rx ry ok=>by
 unfold tj at ok ⊢;split at ok
 ·rename_i a b;rw[rep_lst]at rx ry;obtain⟨p,xs,rfl,l1,r1⟩:=rx;obtain⟨q,ys,rfl,l2,r2⟩:=ry;by_cases hz:aF (a.length+b.length)=true
  ·rw[if_pos hz];refine⟨p,q,xs,ys,rfl,rfl,hs _ _ l1.h,hs _ _ l2.h,by rw[←r1.length,←r2.length];exact bc hz,fun t ht=>⟨_,_,rfl,.new hs ht _,?_⟩⟩;exact rep_lst.mpr ⟨t,_,rfl,.of ao,(r1.append r2).mono (Ext.new hs ht _).gg⟩
  ·rw[if_neg hz]at ok;exact ok.elim
 ·exact ok.elim
theorem RepL.flat {K:W.Frag}{G:Hp}{ds:List D}{vs:List V}(h:RepL K G ds vs):∀n:Nat,RepL K G (replicate n ds).flatten (replicate n vs).flatten
 |0=>.nil
 |n+1=>by rw[replicate_succ,replicate_succ,flatten_cons,flatten_cons];exact h.append (RepL.flat h n)
noncomputable def wI:D→D→Res D
 |.lst a,.int k=>if (decide (-1000000≤k)&&decide (k≤1000000)&&aF (a.length*k.toNat))=true then .ok (.lst (replicate k.toNat a).flatten) else .bad
 |_,_=>.bad
theorem zY:DOp X E (binaryOp .Mult) wI:=DOp.of A4 fun G H x y dx dy hs rx ry ok=>by
 unfold wI at ok ⊢;split at ok
 ·rename_i a k;rw[rep_lst]at rx;rw[rep_int]at ry;subst ry;obtain⟨p,xs,rfl,l1,r1⟩:=rx;by_cases hz:(decide (-1000000≤k)&&decide (k≤1000000)&&aF (a.length*k.toNat))=true
  ·rw[if_pos hz];simp only[and_eq_true,decide_eq_true_eq]at hz;refine⟨p,k,xs,rfl,rfl,hs _ _ l1.h,by omega,by omega,by rw[←r1.length];exact bc hz.2,fun t ht=>⟨_,_,rfl,.new hs ht _,?_⟩⟩;exact rep_lst.mpr ⟨t,_,rfl,.of ao,(r1.flat _).mono (Ext.new hs ht _).gg⟩
  ·rw[if_neg hz]at ok;exact ok.elim
 ·exact ok.elim
noncomputable def rA:List D→Res D
 | [.int i]=>if (decide (-(10 ^ 20)<i)&&decide (i<10 ^ 20))=true then .ok (.str (toString i)) else .bad
 |_=>.bad
theorem xG {K:W.Frag}:xl K E (fun xs H Q=>∃i,xs=[.int i]∧i.natAbs.log2<1920∧Q (.str (toString i)) H) rA:=by
 intro G H vs ds Q hs rl ok k;unfold rA at ok k;split at ok
 ·rename_i i;obtain⟨v,r,rfl,rx,r0⟩:=rl.inv;rw[r0.inv0];rw[rep_int]at rx;subst rx;by_cases hz:(decide (-(10 ^ 20)<i)&&decide (i<10 ^ 20))=true
  ·dsimp only at k;rw[if_pos hz]at k;simp only[and_eq_true,decide_eq_true_eq]at hz;exact⟨i,rfl,jD hz.1 hz.2,k _ _ G H rfl (.refl hs) (rep_str.mpr rfl)⟩
  ·rw[if_neg hz]at ok;exact ok.elim
 ·exact ok.elim
noncomputable def A6 (g1 g2:D→D→Res D)(a b:D):Res D:=match g1 a b with
 |.bad=>g2 a b
 |r=>r
theorem DOp.or {f:Value→Value→Sem Value}{g1 g2:D→D→Res D}(h1:DOp X E f g1)(h2:DOp X E f g2):DOp X E f (A6 g1 g2):=by
 intro w s σ G H x y dx dy v u I hs rx ry rv ru ok;unfold A6 at ok ⊢;cases q:g1 dx dy with
 |bad=>
  rw[q]at ok;exact h2 w s σ G H x y dx dy v u I hs rx ry rv ru ok
 |ok d=>
  rw[q]at ok;have:=h1 w s σ G H x y dx dy v u I hs rx ry rv ru (by rw[q];exact ok);rw[q]at this;exact this
 |exc c=>
  rw[q]at ok;have:=h1 w s σ G H x y dx dy v u I hs rx ry rv ru (by rw[q];exact ok);rw[q]at this;exact this
noncomputable def bg:D→D→Res D:=A6 uB (A6 uC tj)
noncomputable def lU:D→D→Res D:=A6 ym wI
theorem aI:DOp X E (binaryOp .Add) bg:=do_add.or (do_addS.or zX)
theorem g_:DOp X E (binaryOp .Mult) lU:=do_mul.or zY
theorem pq {i j:Int}:bg (.int i) (.int j)= .ok (.int (i+j)):=id rfl
theorem dM {a b:List D}(h:aF (a.length+b.length)=true):bg (.lst a) (.lst b)= .ok (.lst (a ++ b)):=by
 show tj (.lst a) (.lst b)=_;exact if_pos h
end
section
variable{X:Cx}{E:XK}{tg:Expr}
end
section
variable{X:Cx}{E:XK}
noncomputable def pZ (fo:DS→Res D)(g:Str→DS→Res D):DS→Res D:=fun ρ=>(fo ρ).bind fun d=>match d with
 |.str y=>g y ρ
 |_=>.bad
end
section
variable{X:Cx}{E:XK}
end
section
variable{X:Cx}{E:XK}{pins:List (Addr×Obj)}{σ:St}{H:Hp}{s:Shared}
theorem Inv.again {h':Heap}{a:Addr}{o:HO}{t':Nat}{m:Str→Option Value}(I:Inv X pins σ H s)
  (hl:∀(i:Nat) (x:Str) (v:V),X.N[i]?=some x→σ[i]?=some (some v)→xg X.env.scope x→∃u,RelV v u∧zK X.env s.heap m x u) (hn:h'.Ns X.env.locals m)
  (hk:∀b u,b≠X.env.locals→s.heap.get? b=some u→h'.get? b=some u) (hp:s.heap.objs.size≤a) (new:ObjOk X.prog X.w (aS H a o) h' a o):Inv X pins σ (aS H a o) {s with heap:=h',toks:=t'}:=by
 have hna:H a=Option.none:=I.hok.fresh hp;have ne:∀{b:Addr} {o:Obj},X.s₀.heap.get? b=some o→b≠X.env.locals:=fun e=>ne_of_lt (lt_of_lt_of_le (Heap.lt_size e) I.ok.above);have lt:X.env.locals<s.heap.objs.size:=I.lt;have hal:a≠X.env.locals:=ne_of_gt (lt_of_lt_of_le lt hp);have hu:∀{b:Addr} {u:HO},H b=some u→(aS H a o) b=some u:=fun e=>(by rw[ai (ap e hna)];exact e);have L:∀{b:Addr} {f:Obj},s.heap.get? b=some f→b≠a:=fun e z=>absurd (lt_of_lt_of_le (Heap.lt_size e) (by rw[z];exact hp)) (lt_irrefl _);refine⟨I.ok,I.os,I.bare,⟨fun b f e n hb hx=>hk _ _ (ne e) (I.base.keep b f e n hb hx),fun b f e n hb hx=>?_,fun b f e n hx=>?_,fun b f e hx=>?_,fun b xs e=>hu (I.base.tups b xs e),fun b f u e=>hu (I.base.frzs b f u e),fun b ps e=>?_⟩,⟨m,hn,fun i x v j e2 e3=>?_⟩,fun y c e=>?_,?_,fun y c e=>?_,fun p hp'=>?_,?_,I.len⟩
 ·obtain⟨sl,j⟩:=I.base.slot b f e n hb hx;exact⟨sl,hk _ _ (ne e) j⟩
 ·obtain⟨o',j⟩:=I.base.there b f e hx;rw[ai (L j)];exact I.base.free b f e n hx
 ·obtain⟨o',j⟩:=I.base.there b f e hx;exact⟨o',hk _ _ (ne e) j⟩
 ·obtain⟨more,j⟩:=I.base.tbls b ps e;exact⟨more,hu j⟩
 ·obtain⟨u,r,lk⟩:=hl i x v j e2 e3;refine⟨u,r,?_⟩
  rcases lk with lk|⟨k1,c,k2,f,k3,k4⟩
  ·exact .inl lk
  ·exact .inr ⟨k1,c,k2,f,hk _ _ (I.cne x c k2) k3,k4⟩
 ·obtain⟨w',f,k3,k4⟩:=I.cell y c e;exact⟨w',f,hk _ _ (I.cne y c e) k3,k4⟩
 ·show (aS H a o) X.env.locals=Option.none;rw[ai hal.symm];exact I.free
 ·obtain⟨w',f,k3,k4⟩:=I.cell y c e;rw[ai (L k3)];exact I.freeC y c e
 ·obtain⟨e,n,nl,nf,d⟩:=I.pin p hp';exact⟨hk _ _ nl e,by rw[ai (L e)];exact n,nl,nf,d⟩
 ·intro b u e;by_cases hb:b=a
  ·subst hb;rw[ao]at e;cases e;exact new
  ·rw[ai hb]at e;refine(I.hok b u e).stay (fun c v hc q=>hk c v (fun z=>?_) q) (fun c q=>hu q) fun c xs q=>hu q
   rcases hc with hc|hc
   ·rw[hc]at z;rw[z,I.free]at e;cases e
   ·rw[z,I.free]at hc;cases hc
end
section
variable{X:Cx}{E:XK}{pins:List (Addr×Obj)}{σ:St}{H:Hp}{s:Shared}
noncomputable def qD (h:Heap)(L:Addr):List (Addr×Obj):=(List.range h.objs.size).filterMap fun b=>if b=L then none else (h.get? b).map fun o=>(b,o)
theorem butOne_mem {h:Heap}{L b:Addr}{o:Obj}:(b,o)∈qD h L↔b≠L∧h.get? b=some o:=by
 unfold qD;rw[mem_filterMap];constructor
 ·intro hZ11;obtain⟨c,_,hc⟩:=hZ11;split at hc
  ·cases hc
  ·rename_i hne;cases q:h.get? c with
   |none=>rw[q]at hc;cases hc
   |some u=>rw[q]at hc;cases hc;exact⟨hne,q⟩
 ·intro hZ12;obtain⟨h1,h2⟩:=hZ12;exact⟨b,mem_range.mpr (Heap.lt_size h2),by rw[if_neg h1,h2];rfl⟩
noncomputable def Bo:V→List V→Hp→VK→Prop:=fun x xs H Q=>∃z y,x= .str z∧xs=[.str y]∧(y.length==0)=false∧z.length≤100000∧(Txt.split z y).length≤sizeLine∧∀l,H l=none→Q (.ref l) (aS H l (.lst ((Txt.split z y).map V.str)))
theorem mP:∀{l:List (Str×Tok)},Vals ((l.map (·.1)).map V.str) (strValues l)
 | []=>.nil
 |(y,t)::l=>.cons ⟨t,rfl⟩ mP
theorem vF:BD X "str.split" Bo:=by
 intro pins s σ H x xs v us Q I rx r h;obtain⟨z,y,rfl,rfl,hy,hz,hlen,q⟩:=h;obtain⟨t,rfl⟩:=rx;obtain⟨u,rfl,ru⟩:=ij r;obtain⟨t2,rfl⟩:=ru;obtain⟨m,hn,hl⟩:=I.loc
 let h₀:Heap:={objs:= #[]}
 have fr:Fr h₀ X.env.locals s.heap m:=⟨hn,fun b o e=>(by cases e),zero_le _⟩;have nw:News h₀ X.env.locals s.heap (qD s.heap X.env.locals):=fun p hp=>⟨(butOne_mem.mp hp).2,(butOne_mem.mp hp).1,rfl⟩;refine splitN1 fr nw hy (fun l h' k el fr' nw'=>?_) (by rw[sizeLine_eq];omega);have hk:∀b u,b≠X.env.locals→s.heap.get? b=some u→h'.get? b=some u:=fun b u hb e=>(nw' (b,u) (dQ (butOne_mem.mpr ⟨hb,e⟩))).1;have hnew:=(nw' _ (mem_cons_self ..)).1;have J:Inv X pins σ (aS H s.heap.objs.size (.lst ((Txt.split z y).map V.str))) {s with heap:=h',toks:=k}:=
  I.again (t':=k) hl fr'.ns hk (le_refl _) ⟨by rw[length_map];exact hlen,strValues l,0,by rw[←el];exact mP,hnew⟩
 exact⟨.ref s.heap.objs.size,_,J,rfl,q _ (I.hok.fresh (le_refl _))⟩
noncomputable def da (z:Str):D→Res D
 |.str y=>if (!(y.length==0)&&aF z.length&&aF (Txt.split z y).length)=true then .ok (.lst ((Txt.split z y).map D.str)) else .bad
 |_=>.bad
theorem RepL.of_strs {K:W.Frag}{G:Hp}:∀(ts:List Str),RepL K G (ts.map D.str) (ts.map V.str)
 | []=>.nil
 |_::ts=>.cons (rep_str.mpr rfl) (RepL.of_strs ts)
theorem qc {o e:Expr}{apos cpos:Pos}{fo fe:DS→Res D}(ho:PD X E o fo)(he:PD X E e fe)
  (hs:starEach [e] X.env=(false,eval e X.env)::starEach [] X.env:=by rfl)
  (hbase:attributeBase o "split" X.env (eval o X.env)=eval o X.env:=by rfl)
  (hfew:((backTo cpos (starEach [e] X.env)).all (fun x=> !x.1)&&(backToKw cpos (keywordEach [] X.env)).all (fun x=>x.1.isSome)&&decide (([e].length+([]:List Keyword).length+if ([]:List Keyword).isEmpty=true then 0 else 1)<30))=true:=by rfl)
  (hline:(apos.endLine==cpos.line)=true:=by rfl) :
  PD X E (.Call (.Attribute o "split" apos) [e] [] cpos) (pZ fo fun z ρ=>(fe ρ).bind (da z)):=by
 intro pins s σ G H ρ I hsm hro hok;have hp:=vY (apos:=apos) (cpos:=cpos) PySem.F.plainAttrs_str PySem.F.slot_str_split PySem.F.type_str_split vF (eR (E:=E) ho) (iy (E:=E) (aa he ae hs)) hbase hfew hline hs rfl;refine aE (hp pins s σ H (fun v H'=>∃d G',pZ fo (fun z ρ=>(fe ρ).bind (da z)) ρ= .ok d∧Ext G H G' H'∧Rep X.K G' d v) I ?_) fun u s' hZ131=>(by obtain⟨v,H',I',r',d,G',e,x,rp⟩:=hZ131;exact⟨d,e,v,G',H',I',r',x,rp⟩);refine⟨G,ρ,hsm,hro,hok.fst,fun d1 e1 v1 G1 H1 x1 p1=>?_⟩;have k1:=hok.snd e1 x1.hh;cases d1 with
 |str z=>
  rw[rep_str]at p1;subst p1;have k1':OkR E H1 ((fe ρ).bind (da z)):=k1;refine⟨rfl,G1,ρ,x1.gh,hro.mono x1.gg,?_,fun ds M vs G2 H2 x2 rl=>?_⟩
  ·have:=k1'.fst;show OkR E H1 ((fe ρ).bind fun d=>(Res.ok []:Res (List D)).bind fun ds=>.ok (d::ds));cases q:fe ρ with
   |ok d2=>trivial
   |exc c=>rw[q]at this;exact this
   |bad=>rw[q]at this;exact this
  ·have M:((fe ρ).bind fun d=>(Res.ok []:Res (List D)).bind fun ds=>.ok (d::ds))= .ok ds:=M;cases q:fe ρ with
   |exc c=>rw[q]at M;cases M
   |bad=>rw[q]at M;cases M
   |ok d2=>
    rw[q]at M;cases M;have k2:OkR E H2 (da z d2):=k1'.snd q x2.hh;have eo:pZ fo (fun z ρ=>(fe ρ).bind (da z)) ρ=da z d2:=by
     unfold pZ;rw[e1,aw];dsimp only;rw[q,aw]
    obtain⟨v,r,rfl,rv,r0⟩:=rl.inv;rw[r0.inv0];cases d2 with
    |str y=>
     rw[rep_str]at rv;subst rv;unfold da at k2;dsimp only at k2;by_cases hz:(!(y.length==0)&&aF z.length&&aF (Txt.split z y).length)=true
     ·have hz':=hz;simp only[and_eq_true,Bool.not_eq_true']at hz';refine⟨z,y,rfl,rfl,hz'.1.1,of_decide_eq_true hz'.1.2,bc hz'.2,fun l hl=>⟨_,_,?_,(x1.trans x2).trans (.new x2.gh hl _),rep_lst.mpr ⟨l,_,rfl,.of ao,RepL.of_strs _⟩⟩⟩;rw[eo];exact if_pos hz
     ·rw[if_neg hz]at k2;exact k2.elim
    |_=>exact k2.elim
 |_=>exact k1.elim
end
section
variable{X:Cx}{CX:oR}{k:Nat}{f C:Addr}{fd:FuncData}{ps:List Str}{sp:Sp}{dvs:List V}{ds:List Value}{E:XK}
theorem Bp {pins:List (Addr×Obj)}{σ:St}{H:Hp}{s:Shared}{Q:VK}{us:List Value}{vs:List V}(F:FnOk X.prog X.w X.K X.mg X.base CX k f fd ps sp)(hr:Room k X.A)(hb:Binds X.K fd ps ds)(hd:Vals dvs ds)
  (I:Inv X pins σ H s) (hx:∀e t,CX X.stack H s E e t→X.xe e t) (r:Vals vs us) (h:sp (vs ++ dvs) H Q E):wpAny (model X.prog X.w) X.A (call (.ref f) us) (EP X pins σ Q) X.xe s:=by
 have r2:Vals (vs ++ dvs) (us ++ ds):=r.append hd;have hl:(us ++ ds).length=ps.length:=by rw[←r2.length];exact F.len _ _ _ _ h
 refine wpAny_call (codeAny_mono (F.run X.A X.stack s H ⟨us,[]⟩ (us ++ ds) (vs ++ dvs) Q E hr I.env0 (hb s us I.kIn hl) r2 h) fun r t hq=>?_);cases r with
 |error e=>exact hx e t hq
 |ok fl=>
  cases fl with
  |ret u=>exact I.after hq
  |next=>exact False.elim hq
  |brk=>exact False.elim hq
  |cont=>exact False.elim hq
end
end L2
namespace TX
open PySem PySem.Builtin PySem.Builtin.Str PySem.StrLaws
noncomputable abbrev nS (n:Int):Str:=(toString n:String)
noncomputable def ve (c:Nat):Bool:=decide (48≤c)&&decide (c≤57)
noncomputable def zA (w:Str):Option Int:=match w.cps.toList with
 | [c]=>if ve c=true then some ((c:Int)-48) else none
 | [a,b]=>if (ve a&&ve b&&!(a==48))=true then some (((a:Int)-48)*10+((b:Int)-48)) else none
 |_=>none
theorem vH:∀k:Fin 100,zA (nS (k.val:Int))=some (k.val:Int):=by decide +kernel
theorem BR {n:Int}(h0:0≤n)(h1:n<100):∃k:Fin 100,n=(k.val:Int):=⟨⟨n.toNat,by omega⟩,by show n=(n.toNat:Int);omega⟩
theorem vI {n:Int}(h0:0≤n)(h1:n<100):zA (nS n)=some n:=by
 obtain⟨k,rfl⟩:=BR h0 h1;exact vH k
theorem AV {m n:Int}(h0:0≤m)(h1:m<100)(h2:0≤n)(h3:n<100)(h:nS m=nS n):m=n:=by
 have a:=vI h0 h1;rw[h,vI h2 h3]at a;cases a;rfl
end TX
namespace L2
open PySem PySem.Spec PyProof.Rows
noncomputable def AX (z:Str):Bool:=decide (z.length≤190)&&z.cps.toList.all fun c=>decide (c<128)
theorem yq {z:Str}(h:AX z=true):z.length≤190:=by
 unfold AX at h;rw[and_eq_true,decide_eq_true_eq]at h;exact h.1
theorem vL {z:Str}(h:AX z=true):∀c∈z.cps.toList,c<128:=by
 unfold AX at h;rw[and_eq_true,all_eq_true]at h;exact fun c hc=>of_decide_eq_true (h.2 c hc)
section
variable{X:Cx}{E:XK}
noncomputable def zH (te:TE):St→Hp→Prop:=fun σ H=>te σ H fun v H'=>H'=H∧∃z:Str,v= .str z∧AX z=true
theorem yI {e:Expr}{pos:Pos}{te:TE}(he:PE X e te):PF X (.FormattedValue e 114 none pos) 1902 (zH te):=by
 intro pins s σ H I h;refine wpAny_FormattedValue_repr (aE (he pins s σ H _ I h) fun v s1 hZ132=>?_);obtain⟨x,H1,I1,r1,e1,z,e2,hz⟩:=hZ132;subst e1 e2;obtain⟨t,rfl⟩:=r1;have hlen:(reprText z).length≤1902:=by
  have h1:=StrLaws.reprText_len z fun c hc=>lt_of_lt_of_le (vL hz c hc) (by decide);have h2:=yq hz;omega
 have hsl:(reprText z).length≤sizeLine:=by rw[sizeLine_eq];omega
 refine wpAny_pyReprObj_str ?_ hsl;exact formatField_str (fun t' tk=>⟨_,_,rfl,hlen,I1.tok _⟩) hsl
noncomputable def Cy (i:Nat)(ρ:DS):Bool:=match ρ[i]? with|some (some (.str z))=>AX z|_=>false
theorem Cz {i:Nat}{K:W.Frag}{σ:St}{G H:Hp}{ρ:DS}(hr:Ro K G σ ρ)(h:Cy i ρ=true):zH (ze i) σ H:=by
 unfold Cy at h;split at h
 ·rename_i z q;obtain⟨v,hv,rv⟩:=hr i _ q;rw[rep_str]at rv;subst rv;exact⟨_,hv,rfl,z,rfl,h⟩
 ·cases h
theorem zB {x:Str}{z:Str}{pos:Pos}(hm:∃t,X.mg x=some (.str z t))(hg:Gl X x:=by rfl)(hd:(x==("__debug__" :Str))=false:=by decide):PD X E (.Name x pos) (fun _=>.ok (.str z)):=by
 obtain⟨t,hm⟩:=hm;exact iX (km (v:=.str z) hg hm ⟨t,rfl⟩ hd) fun σ H=>⟨rfl,fun G=>rep_str.mpr rfl⟩
end
end L2
namespace PySem
open Sem (wp)
end PySem
namespace L2
open PySem PySem.Spec PyProof.Rows
section
variable{X:Cx}{E:XK}{e:Expr}{f:DS→Res D}{p pos:Pos}
theorem og {g:List D→Res D}:bn (fun ρ=>(f ρ).bind fun d=>(Res.ok []:Res (List D)).bind fun ds=>.ok (d::ds)) g=fun ρ=>(f ρ).bind fun a=>g [a]:=funext fun ρ=>by
 show ((f ρ).bind _).bind _=_;cases f ρ <;> rfl
theorem zR:bootBuiltins "str" =some (.type "str"):=by decide +kernel
theorem yB (hm:X.mg "str" =none)(h:PD X E e f)(hg:Gl X "str" :=by rfl)(he:starEach [e] X.env=(false,eval e X.env)::starEach [] X.env:=by rfl):PD X E (.Call (.Name "str" p) [e] [] pos) (fun ρ=>(f ρ).bind fun a=>rA [a]):=
 og ▸ jE (X:=X) (E:=E) (p:=p) (pos:=pos) nh xG hg hm zR (aa h ae he) (by decide) (by decide) he rfl
theorem nF {i:Int}(h0: -(10 ^ 20)<i)(h1:i<10 ^ 20):rA [.int i]= .ok (.str (toString i)):=by
 unfold rA;dsimp only;rw[if_pos (by rw[decide_eq_true h0,decide_eq_true h1];rfl)]
theorem Af {a b:Str}:js (.str a) (.str b)= .ok (.bl (a==b)):=id rfl
theorem Au {a b:Str}:vG (.str a) (.str b)= .ok (.bl (!(a==b))):=id rfl
end
mutual
noncomputable def flat:D→Bool
 |.lst _=>false
 |.dct _ _=>false
 |.fdc _ _=>false
 |.scr _=>false
 |.tup l=>flats l
 |.ins _ _ l=>flats l
 |_=>true
noncomputable def flats:List D→Bool
 | []=>true
 |d::ds=>flat d&&flats ds
end
theorem k7:∀(ns:List Int),flats (ns.map D.int)=true
 | []=>by unfold flats;rfl
 |n::ns=>by rw[map_cons];unfold flats;rw[k7 ns];unfold flat;rfl
noncomputable def isCell (S:Addr→Prop)(o:HO):Prop:=(∃xs,o= .lst xs)∨(∃kvs,o= .dT kvs)∨∃xs b,o= .tup xs∧V.ref b∈xs∧S b
theorem isCell.mono {S T:Addr→Prop}{o:HO}(k:∀a,S a→T a)(h:isCell S o):isCell T o:=h.imp id (Or.imp id fun hZ133=>(by obtain⟨xs,b,e,m,s⟩:=hZ133;exact⟨xs,b,e,m,k b s⟩))
theorem isCell.nokey {S:Addr→Prop}{o:HO}(h:isCell S o):¬nV o:=by
 intro hZ13;obtain⟨ks,rfl⟩:=hZ13
 rcases h with ⟨xs,e⟩|⟨kvs,e⟩|⟨xs,b,e,m,s⟩
 ·cases e
 ·cases e
 ·cases e;obtain⟨k,_,e⟩:=mem_map.mp m;cases k with
  |inl i=>cases e
  |inr x=>cases e
noncomputable def mi (W:Addr→Prop)(G:Hp):Hp:=fun b=> @ite _ (W b) (Classical.propDecidable _) none (G b)
theorem iQ {W:Addr→Prop}{G:Hp}{b:Addr}{o:HO}(h:mi W G b=some o):¬W b∧G b=some o:=by
 unfold mi at h;by_cases q:W b
 ·rw[if_pos q]at h;cases h
 ·rw[if_neg q]at h;exact⟨q,h⟩
theorem nN {W:Addr→Prop}{G:Hp}{b:Addr}{o:HO}(h1:¬W b)(h2:G b=some o):mi W G b=some o:=by
 unfold mi;rw[if_neg h1];exact h2
theorem AE {W:Addr→Prop}{G:Hp}{b:Addr}(h1:W b):mi W G b=none:=by
 unfold mi;rw[if_pos h1]
mutual
theorem Rep.nocell {K:W.Frag}{G:Hp}{W:Addr→Prop}(hl:∀b o,W b→G b=some o→isCell W o):∀{d:D} {v:V},L2.flat d=true→Rep K G d v→∀a,v= .ref a→¬W a
 |.non,_,_,h,a,e=>by unfold Rep at h;subst h;cases e
 |.bl _,_,_,h,a,e=>by unfold Rep at h;subst h;cases e
 |.int _,_,_,h,a,e=>by unfold Rep at h;subst h;cases e
 |.str _,_,_,h,a,e=>by unfold Rep at h;subst h;cases e
 |.lst ds,_,ha,_,_,_=>by unfold L2.flat at ha;cases ha
 |.dct _ _,_,ha,_,_,_=>by unfold L2.flat at ha;cases ha
 |.fdc _ _,_,ha,_,_,_=>by unfold L2.flat at ha;cases ha
 |.scr _,_,ha,_,_,_=>by unfold L2.flat at ha;cases ha
 |.tup ds,_,ha,h,a,e=>fun w=>by
  unfold Rep at h;unfold L2.flat at ha;obtain⟨a',ys,r,s,t⟩:=h;subst r;cases e
  rcases hl a _ w s.h with ⟨vs,z⟩|⟨vs,z⟩|⟨vs,b,z,m,wb⟩
  ·cases z
  ·cases z
  ·cases z;exact RepL.nocell hl ha t (.ref b) m b rfl wb
 |.ins _ _ ds,_,ha,h,a,e=>fun w=>by
  unfold Rep at h;obtain⟨a',dx,fs,r,s,n,t⟩:=h;subst r;cases e
  rcases hl a _ w s with ⟨vs,z⟩|⟨vs,z⟩|⟨vs,b,z,m,wb⟩ <;> cases z
 |.xc _,_,_,h,a,e=>fun w=>by
  unfold Rep at h;obtain⟨a',r,s,_⟩:=h;subst r;cases e
  rcases hl a _ w s with ⟨vs,z⟩|⟨vs,z⟩|⟨vs,b,z,m,wb⟩ <;> cases z
theorem RepL.nocell {K:W.Frag}{G:Hp}{W:Addr→Prop}(hl:∀b o,W b→G b=some o→isCell W o):∀{ds:List D} {vs:List V},flats ds=true→RepL K G ds vs→∀v∈vs,∀a,v= .ref a→¬W a
 | [],_,_,h,v,m=>by unfold RepL at h;subst h;cases m
 |_::_,_,ha,h,v,m=>by
  unfold RepL at h;unfold flats at ha;rw[and_eq_true]at ha;obtain⟨w,r,q,a,b⟩:=h;subst q
  rcases mem_cons.mp m with z|z
  ·subst z;exact Rep.nocell hl ha.1 a
  ·exact RepL.nocell hl ha.2 b v z
end
mutual
theorem Rep.lfree {K:W.Frag}{G:Hp}{W:Addr→Prop}(hl:∀b o,W b→G b=some o→isCell W o):∀{d:D} {v:V},L2.flat d=true→Rep K G d v→Rep K (mi W G) d v
 |.non,_,_,h=>by unfold Rep at h ⊢;exact h
 |.bl _,_,_,h=>by unfold Rep at h ⊢;exact h
 |.int _,_,_,h=>by unfold Rep at h ⊢;exact h
 |.str _,_,_,h=>by unfold Rep at h ⊢;exact h
 |.lst ds,_,ha,h=>by unfold L2.flat at ha;cases ha
 |.dct _ _,_,ha,h=>by unfold L2.flat at ha;cases ha
 |.fdc _ _,_,ha,h=>by unfold L2.flat at ha;cases ha
 |.scr _,_,ha,h=>by unfold L2.flat at ha;cases ha
 |.tup ds,v,ha,h=>by
  have nc:=Rep.nocell hl ha h;unfold Rep at h ⊢;unfold L2.flat at ha;obtain⟨a,ys,r,s,t⟩:=h;exact⟨a,ys,r,⟨nN (nc a r) s.h⟩,RepL.lfree hl ha t⟩
 |.ins _ _ ds,v,ha,h=>by
  have nc:=Rep.nocell hl ha h;unfold Rep at h ⊢;unfold L2.flat at ha;obtain⟨a,dx,fs,r,s,n,t⟩:=h;exact⟨a,dx,fs,r,nN (nc a r) s,n,RepL.lfree hl ha t⟩
 |.xc _,v,ha,h=>by
  have nc:=Rep.nocell hl ha h;unfold Rep at h ⊢;obtain⟨a,r,s,k⟩:=h;exact⟨a,r,nN (nc a r) s,k⟩
theorem RepL.lfree {K:W.Frag}{G:Hp}{W:Addr→Prop}(hl:∀b o,W b→G b=some o→isCell W o):∀{ds:List D} {vs:List V},flats ds=true→RepL K G ds vs→RepL K (mi W G) ds vs
 | [],_,_,h=>by unfold RepL at h ⊢;exact h
 |_::_,_,ha,h=>by
  unfold RepL at h ⊢;unfold flats at ha;rw[and_eq_true]at ha;obtain⟨v,r,q,a,b⟩:=h;exact⟨v,r,q,Rep.lfree hl ha.1 a,RepL.lfree hl ha.2 b⟩
end
noncomputable def AllW (P:D→V→List Addr→Prop):List D→List V→List Addr→Prop
 | [],vs,S=>vs=[]∧S=[]
 |d::ds,vs,S=>∃v r A B,vs=v::r∧S=A ++ B∧P d v A∧AllW P ds r B
noncomputable def Ow (K:W.Frag)(G H:Hp):Nat→D→V→List Addr→Prop
 |0,d,v,S=>S=[]∧Rep K G d v
 |n+1,.lst ds,v,S=>∃a xs T,v= .ref a∧H a=some (.lst xs)∧S=a::T∧AllW (Ow K G H n) ds xs T
 |n+1,.dct ks ds,v,S=>∃a kvs T,v= .ref a∧H a=some (.dT kvs)∧kvs.map (·.1)=ks∧S=a::T∧AllW (Ow K G H n) ds (kvs.map (·.2)) T
 |n+1,.tup ds,v,S=>(L2.flat (.tup ds)=true∧S=[]∧Rep K G (.tup ds) v)∨∃a xs T,v= .ref a∧H a=some (.tup xs)∧S=a::T∧T≠[]∧AllW (Ow K G H n) ds xs T
 |_+1,d,v,S=>L2.flat d=true∧S=[]∧Rep K G d v
noncomputable def f_:Nat→D→Bool
 |0,d=>L2.flat d
 |n+1,.lst ds=>ds.all (f_ n)
 |n+1,.dct _ ds=>ds.all (f_ n)
 |n+1,.tup ds=>L2.flat (.tup ds)||ds.all (f_ n)
 |_+1,d=>L2.flat d
theorem jt:∀{ds:List D},flats ds=true→∀{d:D},d∈ds→L2.flat d=true
 | [],_,_,m=>by cases m
 |d0::ds,h,d,m=>by
  unfold flats at h;rw[and_eq_true]at h
  rcases mem_cons.mp m with z|z
  ·subst z;exact h.1
  ·exact jt h.2 z
theorem tU {d:D}(h:L2.flat d=true):∀{n:Nat},f_ n d=true
 |0=>h
 |n+1=>by
  cases d with
  |lst ds=>unfold L2.flat at h;cases h
  |dct ks ds=>unfold L2.flat at h;cases h
  |tup ds=>unfold f_;rw[h];rfl
  |_=>unfold f_;exact h
section
variable{K:W.Frag}{G H G' H':Hp}
theorem AllW.mono {P Q:D→V→List Addr→Prop}:∀{ds:List D} {vs:List V} {S:List Addr},(∀d v A,d∈ds→(∀a∈A,a∈S)→P d v A→Q d v A)→AllW P ds vs S→AllW Q ds vs S
 | [],_,_,_,h=>h
 |d::ds,_,_,k,h=>by
  obtain⟨v,r,A,B,e1,e2,h1,h2⟩:=h;subst e2;exact⟨v,r,A,B,e1,rfl,k d v A (mem_cons_self ..) (fun a ha=>mem_append_left _ ha) h1,AllW.mono (fun d' v' A' hd ha=>k d' v' A' (dQ hd) fun a h=>mem_append_right _ (ha a h)) h2⟩
theorem AllW.length {P:D→V→List Addr→Prop}:∀{ds:List D} {vs:List V} {S:List Addr},AllW P ds vs S→ds.length=vs.length
 | [],_,_,h=>by rw[h.1];rfl
 |d::ds,_,_,h=>by
  obtain⟨v,r,A,B,e1,e2,h1,h2⟩:=h;subst e1;rw[length_cons,length_cons,AllW.length h2]
theorem AllW.append {P:D→V→List Addr→Prop}:∀{ds es:List D} {vs ws:List V} {S T:List Addr},AllW P ds vs S→AllW P es ws T→AllW P (ds ++ es) (vs ++ ws) (S ++ T)
 | [],_,_,_,_,_,h,h'=>by rw[h.1,h.2];exact h'
 |d::ds,_,_,_,_,_,h,h'=>by
  obtain⟨v,r,A,B,e1,e2,h1,h2⟩:=h;subst e1 e2;exact⟨v,_,A,_,rfl,append_assoc ..,h1,AllW.append h2 h'⟩
theorem AllW.one {P:D→V→List Addr→Prop}{d:D}{v:V}{S:List Addr}(h:P d v S):AllW P [d] [v] S:=⟨v,[],S,[],rfl,(append_nil _).symm,h,rfl,rfl⟩
theorem AllW.at {P:D→V→List Addr→Prop}:∀{ds:List D} {vs:List V} {S:List Addr} {i:Nat} {d:D},AllW P ds vs S→ds[i]?=some d→
  ∃v A L R,vs[i]?=some v∧S=L ++ A ++ R∧P d v A∧(∀Q:D→V→List Addr→Prop,(∀d v B,(∀b∈B,b∈L∨b∈R)→P d v B→Q d v B)→∀d' v' A',Q d' v' A'→AllW Q (ds.set i d') (vs.set i v') (L ++ A' ++ R))
 | [],_,_,_,_,_,e=>by simp at e
 |d0::ds,_,_,0,d,h,e=>by
  obtain⟨v,r,A,B,e1,e2,h1,h2⟩:=h;subst e1 e2;simp at e;subst e;refine⟨v,A,[],B,rfl,by simp,h1,fun Q k d' v' A' hq=>⟨v',r,A',B,rfl,by simp,hq,AllW.mono (fun d v B' _ hb hp=>k d v B' (fun b hb'=>.inr (hb b hb')) hp) h2⟩⟩
 |d0::ds,_,_,i+1,d,h,e=>by
  obtain⟨v,r,A,B,e1,e2,h1,h2⟩:=h;subst e1 e2;obtain⟨w,A2,L,R,g1,g2,g3,g4⟩:=AllW.at (i:=i) h2 (by simpa using e);refine⟨w,A2,A ++ L,R,by simpa using g1,by rw[g2];simp only[append_assoc],g3,fun Q k d' v' A' hq=>⟨v,r.set i v',A,L ++ A' ++ R,rfl,by simp only[append_assoc],k d0 v A (fun b hb=>.inl (mem_append_left _ hb)) h1,g4 Q (fun d v B hb hp=>k d v B (fun b hb'=>(hb b hb').imp (mem_append_right _) id) hp) d' v' A' hq⟩⟩
theorem Ow.mono (sg:Same G G'):∀{n:Nat} {d:D} {v:V} {S:List Addr},(∀a∈S,∀o,H a=some o→H' a=some o)→Ow K G H n d v S→Ow K G' H' n d v S
 |0,_,_,_,_,h=>⟨h.1,h.2.mono sg⟩
 |n+1,d,_,_,k,h=>by
  cases d with
  |lst ds=>
   obtain⟨a,xs,T,e1,e2,e3,h1⟩:=h;subst e3;exact⟨a,xs,T,e1,k a (mem_cons_self ..) _ e2,rfl,h1.mono fun d v A _ hA=>Ow.mono sg fun b hb o e=>k b (dQ (hA b hb)) o e⟩
  |dct ks ds=>
   obtain⟨a,xs,T,e1,e2,e4,e3,h1⟩:=h;subst e3;exact⟨a,xs,T,e1,k a (mem_cons_self ..) _ e2,e4,rfl,h1.mono fun d v A _ hA=>Ow.mono sg fun b hb o e=>k b (dQ (hA b hb)) o e⟩
  |tup ds=>
   rcases h with h|⟨a,xs,T,e1,e2,e3,e5,h1⟩
   ·exact .inl ⟨h.1,h.2.1,h.2.2.mono sg⟩
   ·subst e3;exact .inr ⟨a,xs,T,e1,k a (mem_cons_self ..) _ e2,rfl,e5,h1.mono fun d v A _ hA=>Ow.mono sg fun b hb o e=>k b (dQ (hA b hb)) o e⟩
  |_=>exact⟨h.1,h.2.1,h.2.2.mono sg⟩
theorem AllW.rep {P:D→V→List Addr→Prop}{V':Hp}:∀{ds:List D} {vs:List V} {S:List Addr},(∀d v A,(∀a∈A,a∈S)→P d v A→Rep K V' d v)→AllW P ds vs S→RepL K V' ds vs
 | [],_,_,_,h=>by rw[h.1];exact .nil
 |d::ds,_,_,k,h=>by
  obtain⟨v,r,A,B,e1,e2,h1,h2⟩:=h;subst e1 e2;exact .cons (k d v A (fun a ha=>mem_append_left _ ha) h1) (AllW.rep (fun d' v' A' ha=>k d' v' A' fun a h=>mem_append_right _ (ha a h)) h2)
theorem Ow.rep {V':Hp}(sg:Same G V'):∀{n:Nat} {d:D} {v:V} {S:List Addr},(∀a∈S,∀o,H a=some o→V' a=some o)→Ow K G H n d v S→Rep K V' d v
 |0,_,_,_,_,h=>h.2.mono sg
 |n+1,d,_,_,k,h=>by
  cases d with
  |lst ds=>
   obtain⟨a,xs,T,e1,e2,e3,h1⟩:=h;subst e3;exact rep_lst.mpr ⟨a,xs,e1,.of (k a (mem_cons_self ..) _ e2),h1.rep fun d v A hA=>Ow.rep sg fun b hb o e=>k b (dQ (hA b hb)) o e⟩
  |dct ks ds=>
   obtain⟨a,xs,T,e1,e2,e4,e3,h1⟩:=h;subst e3;exact rep_dct.mpr ⟨a,xs,e1,.inl (k a (mem_cons_self ..) _ e2),e4,h1.rep fun d v A hA=>Ow.rep sg fun b hb o e=>k b (dQ (hA b hb)) o e⟩
  |tup ds=>
   rcases h with h|⟨a,xs,T,e1,e2,e3,e5,h1⟩
   ·exact h.2.2.mono sg
   ·subst e3;exact rep_tup.mpr ⟨a,xs,e1,.of (k a (mem_cons_self ..) _ e2),h1.rep fun d v A hA=>Ow.rep sg fun b hb o e=>k b (dQ (hA b hb)) o e⟩
  |_=>exact h.2.2.mono sg
theorem AllW.cell {P:D→V→List Addr→Prop}{C:Addr→Prop}:∀{ds:List D} {vs:List V} {S:List Addr},(∀d v A,P d v A→∀a∈A,C a)→AllW P ds vs S→∀a∈S,C a
 | [],_,_,_,h,a,ha=>by rw[h.2]at ha;cases ha
 |d::ds,_,_,k,h,a,ha=>by
  obtain⟨v,r,A,B,e1,e2,h1,h2⟩:=h;subst e2
  rcases mem_append.mp ha with z|z
  ·exact k d v A h1 a z
  ·exact AllW.cell k h2 a z
theorem AllW.hasC {P:D→V→List Addr→Prop}(hP:∀d v A,P d v A→A≠[]→∃b,v= .ref b∧b∈A):∀{ds:List D} {vs:List V} {S:List Addr},AllW P ds vs S→S≠[]→∃b,V.ref b∈vs∧b∈S
 | [],_,_,h,n=>absurd h.2 n
 |d::ds,_,_,h,n=>by
  obtain⟨v,r,A,B,e1,e2,h1,h2⟩:=h;subst e1 e2;by_cases z:A=[]
  ·obtain⟨b,hb,hb'⟩:=AllW.hasC hP h2 (fun y=>n (by rw[z,y];rfl));exact⟨b,dQ hb,mem_append_right _ hb'⟩
  ·obtain⟨b,e,hb⟩:=hP d v A h1 z;exact⟨b,by rw[e];exact mem_cons_self ..,mem_append_left _ hb⟩
theorem Ow.head:∀{n:Nat} {d:D} {v:V} {S:List Addr},Ow K G H n d v S→S≠[]→∃b,v= .ref b∧b∈S
 |0,_,_,_,h,n=>absurd h.1 n
 |n+1,d,_,_,h,hn=>by
  cases d with
  |lst ds=>obtain⟨a,xs,T,e1,e2,e3,h1⟩:=h;exact⟨a,e1,by rw[e3];exact mem_cons_self ..⟩
  |dct ks ds=>obtain⟨a,xs,T,e1,e2,e4,e3,h1⟩:=h;exact⟨a,e1,by rw[e3];exact mem_cons_self ..⟩
  |tup ds=>
   rcases h with h|⟨a,xs,T,e1,e2,e3,e5,h1⟩
   ·exact absurd h.2.1 hn
   ·exact⟨a,e1,by rw[e3];exact mem_cons_self ..⟩
  |_=>exact absurd h.2.1 hn
theorem AllW.cell2 {P:D→V→List Addr→Prop}{C:(Addr→Prop)→Addr→Prop}(mo:∀S T a,(∀b,S b→T b)→C S a→C T a):∀{ds:List D} {vs:List V} {S:List Addr},(∀d v A,P d v A→∀a∈A,C (· ∈A) a)→AllW P ds vs S→∀a∈S,C (· ∈S) a
 | [],_,_,_,h,a,ha=>by rw[h.2]at ha;cases ha
 |d::ds,_,_,k,h,a,ha=>by
  obtain⟨v,r,A,B,e1,e2,h1,h2⟩:=h;subst e2
  rcases mem_append.mp ha with z|z
  ·exact mo _ _ a (fun b hb=>mem_append_left _ hb) (k d v A h1 a z)
  ·exact mo _ _ a (fun b hb=>mem_append_right _ hb) (AllW.cell2 mo k h2 a z)
theorem Ow.cell:∀{n:Nat} {d:D} {v:V} {S:List Addr},Ow K G H n d v S→∀a∈S,∃o,H a=some o∧isCell (· ∈S) o
 |0,_,_,_,h,a,ha=>by rw[h.1]at ha;cases ha
 |n+1,d,_,_,h,b,hb=>by
  have mo:∀(S T:Addr→Prop) (a:Addr),(∀b,S b→T b)→(∃o,H a=some o∧isCell S o)→∃o,H a=some o∧isCell T o:=fun S T a k hZ134=>(by obtain⟨o,e,c⟩:=hZ134;exact⟨o,e,c.mono k⟩);have up:∀{x:Addr} {T:List Addr},(∃o,H b=some o∧isCell (· ∈T) o)→∃o,H b=some o∧isCell (· ∈x::T) o:=fun hZ135=>(by obtain⟨o,e,c⟩:=hZ135;exact⟨o,e,c.mono fun a ha=>dQ ha⟩);cases d with
  |lst ds=>
   obtain⟨a,xs,T,e1,e2,e3,h1⟩:=h;subst e3
   rcases mem_cons.mp hb with z|z
   ·subst z;exact⟨_,e2,.inl ⟨xs,rfl⟩⟩
   ·exact up (h1.cell2 (C:=fun S a=>∃o,H a=some o∧isCell S o) mo (fun _ _ _ q=>Ow.cell q) b z)
  |dct ks ds=>
   obtain⟨a,xs,T,e1,e2,e4,e3,h1⟩:=h;subst e3
   rcases mem_cons.mp hb with z|z
   ·subst z;exact⟨_,e2,.inr (.inl ⟨xs,rfl⟩)⟩
   ·exact up (h1.cell2 (C:=fun S a=>∃o,H a=some o∧isCell S o) mo (fun _ _ _ q=>Ow.cell q) b z)
  |tup ds=>
   rcases h with h|⟨a,xs,T,e1,e2,e3,e5,h1⟩
   ·rw[h.2.1]at hb;cases hb
   ·subst e3
    rcases mem_cons.mp hb with z|z
    ·subst z;obtain⟨c,hc,hc'⟩:=h1.hasC (fun _ _ _ q=>Ow.head q) e5;exact⟨_,e2,.inr (.inr ⟨xs,c,rfl,hc,dQ hc'⟩)⟩
    ·exact up (h1.cell2 (C:=fun S a=>∃o,H a=some o∧isCell S o) mo (fun _ _ _ q=>Ow.cell q) b z)
  |_=>rw[h.2.1]at hb;cases hb
theorem Ow.hide {W:Addr→Prop}(hl:∀b o,W b→G b=some o→isCell W o):∀{n:Nat} {d:D} {v:V} {S:List Addr},f_ n d=true→Ow K G H n d v S→Ow K (mi W G) H n d v S
 |0,_,_,_,hf,h=>⟨h.1,Rep.lfree hl hf h.2⟩
 |n+1,d,_,_,hf,h=>by
  cases d with
  |lst ds=>
   obtain⟨a,xs,T,e1,e2,e3,h1⟩:=h;unfold f_ at hf;exact⟨a,xs,T,e1,e2,e3,h1.mono fun d v A hd _=>Ow.hide hl (all_eq_true.mp hf d hd)⟩
  |dct ks ds=>
   obtain⟨a,xs,T,e1,e2,e4,e3,h1⟩:=h;unfold f_ at hf;exact⟨a,xs,T,e1,e2,e4,e3,h1.mono fun d v A hd _=>Ow.hide hl (all_eq_true.mp hf d hd)⟩
  |tup ds=>
   rcases h with h|⟨a,xs,T,e1,e2,e3,e5,h1⟩
   ·exact .inl ⟨h.1,h.2.1,Rep.lfree hl h.1 h.2.2⟩
   ·refine .inr ⟨a,xs,T,e1,e2,e3,e5,h1.mono fun d v A hd _=>Ow.hide hl ?_⟩;unfold f_ at hf;rw[or_eq_true]at hf
    rcases hf with z|z
    ·unfold L2.flat at z;exact tU (jt z hd)
    ·exact all_eq_true.mp z d hd
  |_=>exact⟨h.1,h.2.1,Rep.lfree hl h.1 h.2.2⟩
end
noncomputable def nO (fp:Nat→List Addr)(a:Addr):Prop:=∃i,a∈fp i
noncomputable def lY (fp:Nat→List Addr)(G H:Hp):Hp:=fun b=> @ite _ (nO fp b) (Classical.propDecidable _) (H b) (G b)
structure Rw (K:W.Frag)(μ:List Nat)(Ge B G H:Hp)(σ:St)(ρ:DS)(fp:Nat→List Addr):Prop where
 gh:Same G H
 eg:Same Ge G
 bh:Same B H
 nw:∀b o,G b=some o→Ge b=some o∨B b=none∨nV o
 gf:∀i a,a∈fp i→G a=none
 ob:∀i a,a∈fp i→B a=none
 oc:∀i a,a∈fp i→∃o,H a=some o∧isCell (· ∈fp i) o
 nd:∀i,(fp i).Nodup
 dj:∀i j a,a∈fp i→a∈fp j→i=j
 sl:∀i d,ρ[i]?=some (some d)→∃v,σ[i]?=some (some v)∧Ow K G H (μ.getD i 0) d v (fp i)
section
variable{K:W.Frag}{μ:List Nat}{Ge B G H G' H':Hp}{σ:St}{ρ:DS}{fp:Nat→List Addr}
theorem xb {b:Addr}(h:nO fp b):lY fp G H b=H b:=by unfold lY;rw[if_pos h]
theorem ky {b:Addr}(h:¬nO fp b):lY fp G H b=G b:=by unfold lY;rw[if_neg h]
theorem Rw.vh (R:Rw K μ Ge B G H σ ρ fp):Same (lY fp G H) H:=fun b o e=>by
 by_cases q:nO fp b
 ·rw[xb q]at e;exact e
 ·rw[ky q]at e;exact R.gh b o e
theorem Rw.gv (R:Rw K μ Ge B G H σ ρ fp):Same G (lY fp G H):=fun b o e=>by
 by_cases q:nO fp b
 ·obtain⟨i,hi⟩:=q;rw[R.gf i b hi]at e;cases e
 ·rw[ky q];exact e
theorem Rw.ro (R:Rw K μ Ge B G H σ ρ fp):Ro K (lY fp G H) σ ρ:=fun i d e=>by
 obtain⟨v,hv,h⟩:=R.sl i d e;exact⟨v,hv,h.rep R.gv fun a ha o eo=>by rw[xb ⟨i,ha⟩];exact eo⟩
noncomputable def f8 (μ:List Nat)(ρ:DS):DS:=ρ.mapIdx fun i o=>if μ.getD i 0=0 then o else none
theorem Rw.rof (R:Rw K μ Ge B G H σ ρ fp):Ro K G σ (f8 μ ρ):=fun i d e=>by
 unfold f8 at e;rw[List.getElem?_mapIdx]at e;cases q:ρ[i]? with
 |none=>rw[q]at e;cases e
 |some o=>
  rw[q]at e;simp only[map_some,Option.some.injEq]at e;by_cases m:μ.getD i 0=0
  ·rw[if_pos m]at e;subst e;obtain⟨v,hv,h⟩:=R.sl i d q;rw[m]at h;exact⟨v,hv,h.2⟩
  ·rw[if_neg m]at e;cases e
theorem Rw.gg (R:Rw K μ Ge B G H σ ρ fp)(x:Ext (lY fp G H) H G' H'):Same G (mi (nO fp) G'):=fun b o e=>by
 by_cases q:nO fp b
 ·obtain⟨i,hi⟩:=q;rw[R.gf i b hi]at e;cases e
 ·exact nN q (x.gg b o (R.gv b o e))
theorem Rw.grow (R:Rw K μ Ge B G H σ ρ fp)(x:Ext (lY fp G H) H G' H'):Rw K μ Ge B (mi (nO fp) G') H' σ ρ fp:=by
 refine⟨fun b o e=>x.gh b o (iQ e).2,R.eg.trans (R.gg x),R.bh.trans x.hh,fun b o e=>?_,fun i a e=>AE ⟨i,e⟩,R.ob,fun i a e=>?_,R.nd,R.dj,fun i d e=>?_⟩
 ·obtain⟨n,e1⟩:=iQ e
  rcases x.nw b o e1 with z|z
  ·rw[ky n]at z;exact R.nw b o z
  ·exact .inr (z.imp R.bh.free id)
 ·obtain⟨o,h1,h2⟩:=R.oc i a e;exact⟨o,x.hh _ _ h1,h2⟩
 ·obtain⟨v,hv,h⟩:=R.sl i d e;exact⟨v,hv,h.mono (R.gg x) fun a _ o ho=>x.hh a o ho⟩
theorem Rw.growF (R:Rw K μ Ge B G H σ ρ fp)(x:Ext G H G' H'):Rw K μ Ge B G' H' σ ρ fp:=by
 refine⟨x.gh,R.eg.trans x.gg,R.bh.trans x.hh,fun b o e=>?_,fun i a e=>?_,R.ob,fun i a e=>?_,R.nd,R.dj,fun i d e=>?_⟩
 ·rcases x.nw b o e with z|z
  ·exact R.nw b o z
  ·exact .inr (z.imp R.bh.free id)
 ·cases z:G' a with
  |none=>rfl
  |some o=>
   rcases x.nw a o z with y|y
   ·rw[R.gf i a e]at y;cases y
   ·obtain⟨o',h,hc⟩:=R.oc i a e
    rcases y with y|y
    ·rw[y]at h;cases h
    ·have h2:=x.gh a o z;rw[x.hh a _ h]at h2;cases h2;exact(hc.nokey y).elim
 ·obtain⟨o,h1,h2⟩:=R.oc i a e;exact⟨o,x.hh _ _ h1,h2⟩
 ·obtain⟨v,hv,h⟩:=R.sl i d e;exact⟨v,hv,h.mono x.gg fun a _ o ho=>x.hh a o ho⟩
theorem Rw.cells (R:Rw K μ Ge B G H σ ρ fp)(x:Ext (lY fp G H) H G' H'):∀b o,nO fp b→G' b=some o→isCell (nO fp) o:=fun b o ⟨i,hi⟩ e=>by
 obtain⟨o',h1,h2⟩:=R.oc i b hi;have h3:=x.gh b o e;rw[x.hh b _ h1]at h3;cases h3;exact h2.mono fun a ha=>⟨i,ha⟩
theorem Rw.put {i:Nat}{d:D}{v:V}{S:List Addr}(R:Rw K μ Ge B G H σ ρ fp)(hi:i<σ.length)(h:Ow K G H (μ.getD i 0) d v S)(nd:S.Nodup)(hS:∀a∈S,G a=none∧B a=none)(hd:∀j,j≠i→∀a∈S,a∉fp j):Rw K μ Ge B G H (σ.set i (some v)) (ρ.set i (some d)) (fun j=>if j=i then S else fp j):=by
 refine⟨R.gh,R.eg,R.bh,R.nw,fun j a e=>?_,fun j a e=>?_,fun j a e=>?_,fun j=>?_,fun j k a ej ek=>?_,fun j e q=>?_⟩
 ·split at e
  ·exact(hS a e).1
  ·exact R.gf j a e
 ·split at e
  ·exact(hS a e).2
  ·exact R.ob j a e
 ·by_cases hj:j=i
  ·simp only[if_pos hj]at e ⊢;exact h.cell a e
  ·simp only[if_neg hj]at e ⊢;exact R.oc j a e
 ·split
  ·exact nd
  ·exact R.nd j
 ·skip
  split at ej
  ·rename_i z1;split at ek
   ·rename_i z2;rw[z1,z2]
   ·rename_i z2;exact absurd ek (hd k z2 a ej)
  ·rename_i z1;split at ek
   ·rename_i z2;exact absurd ej (hd j z1 a ek)
   ·exact R.dj j k a ej ek
 ·by_cases hj:j=i
  ·subst hj;rw[List.getElem?_set_self']at q;cases z:ρ[j]? with
   |none=>rw[z]at q;cases q
   |some o=>
    rw[z]at q;cases q;rw[if_pos rfl];exact⟨v,getElem?_set_self hi,h⟩
  ·rw[getElem?_set_ne (Ne.symm hj)]at q ⊢;rw[if_neg hj];exact R.sl j e q
theorem Rw.drop {i:Nat}(R:Rw K μ Ge B G H σ ρ fp):Rw K μ Ge B G H σ (ρ.set i none) (fun j=>if j=i then [] else fp j):=by
 refine⟨R.gh,R.eg,R.bh,R.nw,fun j a e=>?_,fun j a e=>?_,fun j a e=>?_,fun j=>?_,fun j k a ej ek=>?_,fun j e q=>?_⟩
 ·split at e
  ·cases e
  ·exact R.gf j a e
 ·split at e
  ·cases e
  ·exact R.ob j a e
 ·by_cases hj:j=i
  ·simp only[if_pos hj]at e;cases e
  ·simp only[if_neg hj]at e ⊢;exact R.oc j a e
 ·split
  ·exact nodup_nil
  ·exact R.nd j
 ·skip
  split at ej
  ·cases ej
  ·split at ek
   ·cases ek
   ·exact R.dj j k a ej ek
 ·by_cases hj:j=i
  ·subst hj;rw[List.getElem?_set_self']at q;cases z:ρ[j]? with
   |none=>rw[z]at q;cases q
   |some o=>rw[z]at q;cases q
  ·rw[getElem?_set_ne (Ne.symm hj)]at q;rw[if_neg hj];exact R.sl j e q
theorem Rw.write {i:Nat}{a:Addr}{ob:HO}{d:D}{v:V}{S:List Addr}(R:Rw K μ Ge B G H σ ρ fp)(ha:a∈fp i)(hv:σ[i]?=some (some v))(h:Ow K G (aS H a ob) (μ.getD i 0) d v S)(nd:S.Nodup)(hS:∀b∈S,G b=none∧B b=none)(hd:∀j,j≠i→∀b∈S,b∉fp j):Rw K μ Ge B G (aS H a ob) σ (ρ.set i (some d)) (fun j=>if j=i then S else fp j):=by
 have nG:∀{b:Addr} {o:HO},G b=some o→b≠a:=fun e z=>by rw[z,R.gf i a ha]at e;cases e
 have nB:∀{b:Addr} {o:HO},B b=some o→b≠a:=fun e z=>by rw[z,R.ob i a ha]at e;cases e
 have nj:∀{j:Nat} {b:Addr},j≠i→b∈fp j→b≠a:=fun N hb z=>by subst z;exact N (R.dj _ i _ hb ha)
 refine⟨fun b o e=>by rw[ai (nG e)];exact R.gh b o e,R.eg,fun b o e=>by rw[ai (nB e)];exact R.bh b o e,R.nw,fun j b e=>?_,fun j b e=>?_,fun j b e=>?_,fun j=>?_,fun j k b ej ek=>?_,fun j e q=>?_⟩
 ·split at e
  ·exact(hS b e).1
  ·exact R.gf j b e
 ·split at e
  ·exact(hS b e).2
  ·exact R.ob j b e
 ·by_cases N:j=i
  ·simp only[if_pos N]at e ⊢;exact h.cell b e
  ·simp only[if_neg N]at e ⊢;rw[ai (nj N e)];exact R.oc j b e
 ·split
  ·exact nd
  ·exact R.nd j
 ·skip
  split at ej
  ·rename_i z1;split at ek
   ·rename_i z2;rw[z1,z2]
   ·rename_i z2;exact absurd ek (hd k z2 b ej)
  ·rename_i z1;split at ek
   ·rename_i z2;exact absurd ej (hd j z1 b ek)
   ·exact R.dj j k b ej ek
 ·by_cases N:j=i
  ·subst N;rw[List.getElem?_set_self']at q;cases z:ρ[j]? with
   |none=>rw[z]at q;cases q
   |some o=>
    rw[z]at q;cases q;rw[if_pos rfl];exact⟨v,hv,h⟩
  ·rw[getElem?_set_ne (Ne.symm N)]at q;rw[if_neg N];obtain⟨w,hw,hh⟩:=R.sl j e q;exact⟨w,hw,hh.mono (.refl _) fun b hb o eo=>by rw[ai (nj N hb)];exact eo⟩
end
noncomputable def New (H G:Hp)(S:List Addr):Prop:=S.Nodup∧∀a∈S,H a=none∧G a=none
theorem New.nil {H G:Hp}:New H G []:=⟨nodup_nil,fun a h=>by cases h⟩
inductive NQ (X:Cx)(pins:List (Addr×Obj))(σ:St)(G H:Hp)(n:Nat)(o:Res D)(u:Value)(s':Shared):Prop
 |mk (d:D) (e:o= .ok d) (v:V) (G' H':Hp) (S:List Addr) (i:Inv X pins σ H' s') (r:RelV v u) (x:Ext G H G' H') (w:Ow X.K G' H' n d v S) (nw:New H G' S)
inductive ZQ (X:Cx)(pins:List (Addr×Obj))(σ:St)(μ:List Nat)(Ge B G H:Hp)(ρ:DS)(fp:Nat→List Addr)(n:Nat)(o:Res D)(u:Value)(s':Shared):Prop
 |mk (d:D) (e:o= .ok d) (v:V) (G' H':Hp) (S:List Addr) (i:Inv X pins σ H' s') (r:RelV v u) (R:Rw X.K μ Ge B G' H' σ ρ fp) (sg:Same G G') (sh:Same H H') (w:Ow X.K G' H' n d v S) (nw:New H G' S)
noncomputable def PN (X:Cx)(E:XK)(n:Nat)(e:Expr)(f:DS→Res D):Prop:=
 ∀(pins:List (Addr×Obj)) (s:Shared) (σ:St) (G H:Hp) (ρ:DS),Inv X pins σ H s→Same G H→Ro X.K G σ ρ→OkR E H (f ρ)→
  wpAny (model X.prog X.w) X.A (eval e X.env) (NQ X pins σ G H n (f ρ)) X.xe s
theorem Ext.freeze {K:W.Frag}{G H G' H':Hp}{n:Nat}{d:D}{v:V}{S:List Addr}(hs:Same G H)(x:Ext G H G' H')(w:New H G' S)(h:Ow K G' H' n d v S):∃G2,Ext G H G2 H'∧Same G' G2∧Rep K G2 d v:=by
 have dec:∀b,Decidable (b∈S):=fun b=>Classical.propDecidable _;refine⟨fun b=>if b∈S then H' b else G' b,⟨x.hh,fun b o e=>?_,fun b o e=>?_,fun b o e=>?_⟩,fun b o e=>?_,h.rep (fun b o e=>?_) fun a ha o e=>?_⟩
 ·by_cases q:b∈S
  ·have:=(w.2 b q).1;rw[hs b o e]at this;cases this
  ·show (if b∈S then H' b else G' b)=some o
   rw[if_neg q];exact x.gg b o e
 ·have e:(if b∈S then H' b else G' b)=some o:=e
  by_cases q:b∈S
  ·rw[if_pos q]at e;exact e
  ·rw[if_neg q]at e;exact x.gh b o e
 ·have e:(if b∈S then H' b else G' b)=some o:=e
  by_cases q:b∈S
  ·exact .inr (.inl (w.2 b q).1)
  ·rw[if_neg q]at e;exact x.nw b o e
 ·show (if b∈S then H' b else G' b)=some o
  by_cases q:b∈S
  ·rw[(w.2 b q).2]at e;cases e
  ·rw[if_neg q];exact e
 ·show (if b∈S then H' b else G' b)=some o
  by_cases q:b∈S
  ·rw[(w.2 b q).2]at e;cases e
  ·rw[if_neg q];exact e
 ·show (if a∈S then H' a else G' a)=some o
  rw[if_pos ha];exact e
section
variable{X:Cx}{E:XK}{μ:List Nat}
theorem PN.of {e:Expr}{f:DS→Res D}(h:PD X E e f):PN X E 0 e f:=fun pins s σ G H ρ I hs hr ho=>
 aE (h pins s σ G H ρ I hs hr ho) fun u s' hZ136=>(by obtain⟨d,e,v,G',H',I',rv,x,rp⟩:=hZ136;exact⟨d,e,v,G',H',[],I',rv,x,⟨rfl,rp⟩,.nil⟩)
theorem PN.pd {n:Nat}{e:Expr}{f:DS→Res D}(h:PN X E n e f):PD X E e f:=fun pins s σ G H ρ I hs hr ho=>
 aE (h pins s σ G H ρ I hs hr ho) fun u s' hZ137=>by
  obtain⟨d,e,v,G',H',S,I',rv,x,o,w⟩:=hZ137;obtain⟨G2,x2,_,rp⟩:=x.freeze hs w o;exact⟨d,e,v,G2,H',I',rv,x2,rp⟩
noncomputable def PZ (X:Cx)(E:XK)(μ:List Nat)(n:Nat)(e:Expr)(f:DS→Res D):Prop:=
 ∀(pins:List (Addr×Obj)) (s:Shared) (σ:St) (Ge B G H:Hp) (ρ:DS) (fp:Nat→List Addr),Inv X pins σ H s→Rw X.K μ Ge B G H σ ρ fp→OkR E B (f ρ)→
  wpAny (model X.prog X.w) X.A (eval e X.env) (ZQ X pins σ μ Ge B G H ρ fp n (f ρ)) X.xe s
inductive tZ (K:W.Frag)(E:XK)(μ:List Nat)(n:Nat)(f:DS→Res D)(σ:St)(H:Hp)(Q:VK):Prop
 |mk (Ge B G:Hp) (ρ:DS) (fp:Nat→List Addr) (R:Rw K μ Ge B G H σ ρ fp) (o:OkR E B (f ρ)) (k:∀d,f ρ= .ok d→∀v G' H' S,Rw K μ Ge B G' H' σ ρ fp→Same G G'→Same H H'→Ow K G' H' n d v S→New H G' S→Q v H')
theorem we {n:Nat}{e:Expr}{f:DS→Res D}(h:PZ X E μ n e f):PE X e (tZ X.K E μ n f):=by
 intro pins s σ H Q I hZ14;obtain⟨Ge,B,G,ρ,fp,R,ho,k⟩:=hZ14;exact aE (h pins s σ Ge B G H ρ fp I R ho) fun u s' hZ138=>(by obtain⟨d,e,v,G',H',S,I',rv,R',sg,sh,o,w⟩:=hZ138;exact⟨v,H',I',rv,k d e v G' H' S R' sg sh o w⟩)
noncomputable def AQ (n:Nat)(f:DS→Res D):DS→Res D:=fun ρ=>(f ρ).bind fun d=>if f_ n d=true then .ok d else .bad
theorem oq {n:Nat}{e:Expr}{f:DS→Res D}(h:PN X E n e f):PZ X E μ n e (AQ n f):=by
 intro pins s σ Ge B G H ρ fp I R ho;refine aE (h pins s σ (lY fp G H) H ρ I R.vh R.ro (ho.fst.le R.bh)) fun u s' hZ139=>?_;obtain⟨d,e,v,G',H',S,I',rv,x,o,w⟩:=hZ139;have k:=ho.snd e (Same.refl B);by_cases hl:f_ n d=true
 ·exact⟨d,al e (if_pos hl),v,mi (nO fp) G',H',S,I',rv,R.grow x,R.gg x,x.hh,o.hide (R.cells x) hl,w.1,fun a ha=>⟨(w.2 a ha).1,by
   cases q:mi (nO fp) G' a with
   |none=>rfl
   |some o=>have:=(iQ q).2;rw[(w.2 a ha).2]at this;cases this⟩⟩
 ·rw[if_neg hl]at k;exact k.elim
noncomputable def k8 (μ:List Nat)(f:DS→Res D):DS→Res D:=fun ρ=>f (f8 μ ρ)
theorem bx {n:Nat}{e:Expr}{f:DS→Res D}(h:PN X E n e f):PZ X E μ n e (k8 μ f):=by
 intro pins s σ Ge B G H ρ fp I R ho;exact aE (h pins s σ G H (f8 μ ρ) I R.gh R.rof (ho.le R.bh)) fun u s' hZ140=>(by obtain⟨d,e,v,G',H',S,I',rv,x,o,w⟩:=hZ140;exact⟨d,e,v,G',H',S,I',rv,R.growF x,x.gg,x.hh,o,w⟩)
inductive SMn (X:Cx)(μ:List Nat)(Ge B G:Hp)(pins:List (Addr×Obj))(P:DS→Prop)(s':Shared):Prop
 |mk (ρ':DS) (σ':St) (G' H':Hp) (fp':Nat→List Addr) (e:P ρ') (i:Inv X pins σ' H' s') (R:Rw X.K μ Ge B G' H' σ' ρ' fp') (sg:Same G G')
inductive SMr (X:Cx)(r:Nat)(Ge B:Hp)(pins:List (Addr×Obj))(o:Out)(u:Value)(s':Shared):Prop
 |mk (d:D) (v:V) (σ':St) (G' H':Hp) (S:List Addr) (e:o= .rt d) (i:Inv X pins σ' H' s') (rv:RelV v u) (x:Ext Ge B G' H') (w:Ow X.K G' H' r d v S) (nw:New B G' S)
noncomputable def SM (X:Cx)(μ:List Nat)(r:Nat)(Ge B G:Hp)(pins:List (Addr×Obj))(o:Out)(fl:Flow)(s':Shared):Prop:=
 match fl with
 |.next=>SMn X μ Ge B G pins (o= .nx ·) s'
 |.brk=>SMn X μ Ge B G pins (o= .bk ·) s'
 |.cont=>SMn X μ Ge B G pins (o= .ct ·) s'
 |.ret u=>SMr X r Ge B pins o u s'
noncomputable def lL (X:Cx)(E:XK)(μ:List Nat)(r:Nat)(st:Stmt)(F:DS→Out):Prop:=
 ∀(pins:List (Addr×Obj)) (s:Shared) (σ:St) (Ge B G H:Hp) (ρ:DS) (fp:Nat→List Addr),Inv X pins σ H s→Rw X.K μ Ge B G H σ ρ fp→OkO E B (F ρ)→
  wpAny (model X.prog X.w) X.A (exec st X.env) (SM X μ r Ge B G pins (F ρ)) X.xe s
noncomputable def oQ (X:Cx)(E:XK)(μ:List Nat)(r:Nat)(sts:List Stmt)(F:DS→Out):Prop:=
 ∀(pins:List (Addr×Obj)) (s:Shared) (σ:St) (Ge B G H:Hp) (ρ:DS) (fp:Nat→List Addr),Inv X pins σ H s→Rw X.K μ Ge B G H σ ρ fp→OkO E B (F ρ)→
  wpAny (model X.prog X.w) X.A (execs sts X.env) (SM X μ r Ge B G pins (F ρ)) X.xe s
variable{r:Nat}
theorem SM.le {Ge B G G1:Hp}{pins:List (Addr×Obj)}{o:Out}{fl:Flow}{s':Shared}(s:Same G G1)(h:SM X μ r Ge B G1 pins o fl s'):SM X μ r Ge B G pins o fl s':=by
 cases fl with
 |next=>obtain⟨O,v,G',H',P,e,I,R,t⟩:=h;exact⟨O,v,G',H',P,e,I,R,s.trans t⟩
 |brk=>obtain⟨O,v,G',H',P,e,I,R,t⟩:=h;exact⟨O,v,G',H',P,e,I,R,s.trans t⟩
 |cont=>obtain⟨O,v,G',H',P,e,I,R,t⟩:=h;exact⟨O,v,G',H',P,e,I,R,s.trans t⟩
 |ret u=>exact h
theorem bd:oQ X E μ r [] (fun ρ=>.nx ρ):=fun _ _ σ Ge B G H ρ fp I R _=>wpAny_execs_nil ⟨ρ,σ,G,H,fp,rfl,I,R,.refl _⟩
theorem ah {st:Stmt}{rest:List Stmt}{F R:DS→Out}(h1:lL X E μ r st F)(h2:oQ X E μ r rest R):oQ X E μ r (st::rest) (az F R):=by
 intro pins s σ Ge B G H ρ fp I W ho;refine wpAny_execs_cons (aE (h1 pins s σ Ge B G H ρ fp I W ho.fst) fun fl s1 q=>?_);cases fl with
 |next=>
  obtain⟨O,t,G',H',P,e,I',W',sg⟩:=q;refine aE (h2 pins s1 t Ge B G' H' O P I' W' (ho.snd e (.refl _))) fun fl2 s2 q2=>?_;have e2:az F R ρ=R O:=by unfold az;rw[e];rfl
  rw[e2];exact q2.le sg
 |brk=>obtain⟨O,t,G',H',P,e,q,q1,q2⟩:=q;exact⟨O,t,G',H',P,by unfold az;rw[e];rfl,q,q1,q2⟩
 |cont=>obtain⟨O,t,G',H',P,e,q,q1,q2⟩:=q;exact⟨O,t,G',H',P,by unfold az;rw[e];rfl,q,q1,q2⟩
 |ret u=>obtain⟨d,v,t,G',H',S,e,q,q1,q2,q3,q4⟩:=q;exact⟨d,v,t,G',H',S,by unfold az;rw[e];rfl,q,q1,q2,q3,q4⟩
theorem ak {st:Stmt}{F:DS→Out}(h1:lL X E μ r st F):oQ X E μ r [st] F:=by
 intro pins s σ Ge B G H ρ fp I W ho;refine wpAny_execs_cons (aE (h1 pins s σ Ge B G H ρ fp I W ho) fun fl s1 q=>?_);cases fl with
 |next=>exact wpAny_execs_nil q
 |brk=>exact q
 |cont=>exact q
 |ret u=>exact q
theorem Rw.apart {K:W.Frag}{Ge B G H:Hp}{σ:St}{ρ:DS}{fp:Nat→List Addr}{S:List Addr}{G':Hp}(R:Rw K μ Ge B G H σ ρ fp)(w:New H G' S):∀j,∀a∈S,a∉fp j:=fun j a ha hj=>by
 obtain⟨o,h,_⟩:=R.oc j a hj;rw[(w.2 a ha).1]at h;cases h
theorem ax {i:Nat}{x:Str}{e:Expr}{pos' pos:Pos}{f:DS→Res D}(hN:X.N.Nodup)(hi:X.N[i]?=some x)(hx:rM X.env.scope x)(h:PZ X E μ (μ.getD i 0) e f)(hf:X.fn x=true∨X.env.scope.names.lookup x=some .local:=by first|exact .inl rfl|exact .inr rfl)
  (hsw:swapsWith e (some (.Name x pos')) pos.line X.env=pure false:=by rfl):lL X E μ r (.Assign [.Name x pos'] e pos) (aN i f):=by
 intro pins s σ Ge B G H ρ fp I R ho;have hiσ:i<σ.length:=by rw[I.len];exact(jj hi).1
 refine aE (Bn (pos:=pos) (pos':=pos') hN hi hx (we h) hsw hf pins s σ H {nx:=fun σ' H'=>∃d v G' S,f ρ= .ok d∧σ'=σ.set i (some v)∧Rw X.K μ Ge B G' H' σ ρ fp∧Same G G'∧Ow X.K G' H' (μ.getD i 0) d v S∧New H G' S,bk:=fun _ _=>False,ct:=fun _ _=>False,rt:=fun _ _=>False} I ⟨Ge,B,G,ρ,fp,R,ho.res,fun d e v G' H' S R' sg sh o w=>⟨d,v,G',S,e,rfl,R',sg,o,w⟩⟩) fun fl s1 q=>?_;cases fl with
 |next=>
  obtain⟨σ',H',I',d,v,G',S,e,e2,R',sg,o,w⟩:=q;subst e2;exact⟨_,_,G',H',_,b_ e,I',R'.put hiσ o w.1 (fun a ha=>⟨(w.2 a ha).2,R.bh.free (w.2 a ha).1⟩) (fun j _=>R.apart w j),sg⟩
 |brk=>obtain⟨_,_,_,q⟩:=q;exact q.elim
 |cont=>obtain⟨_,_,_,q⟩:=q;exact q.elim
 |ret u=>obtain⟨_,_,_,_,_,q⟩:=q;exact q.elim
theorem cy {e:Expr}{pos:Pos}{f:DS→Res D}(h:PD X E e f)(hs:swapsWith e none pos.line X.env=pure false:=by rfl):lL X E μ r (.Expr e pos) (bS f):=by
 intro pins s σ Ge B G H ρ fp I R ho;refine aE (ku (eR h) hs pins s σ H {nx:=fun σ' H'=>∃d G',f ρ= .ok d∧σ'=σ∧Ext (lY fp G H) H G' H',bk:=fun _ _=>False,ct:=fun _ _=>False,rt:=fun _ _=>False} I ⟨lY fp G H,ρ,R.vh,R.ro,ho.res.le R.bh,fun d e v G' H' x rp=>⟨d,G',e,rfl,x⟩⟩) fun fl s1 q=>?_;cases fl with
 |next=>
  obtain⟨σ',H',I',d,G',e,e2,x⟩:=q;subst e2;exact⟨ρ,_,_,H',fp,b_ e,I',R.grow x,R.gg x⟩
 |brk=>obtain⟨_,_,_,q⟩:=q;exact q.elim
 |cont=>obtain⟨_,_,_,q⟩:=q;exact q.elim
 |ret u=>obtain⟨_,_,_,_,_,q⟩:=q;exact q.elim
theorem bf {c:Expr}{a b:List Stmt}{pos:Pos}{fc:DS→Res Bool}{Fa Fb:DS→Out}(hc:rN X E c fc)(ha:oQ X E μ r a Fa)(hb:oQ X E μ r b Fb):lL X E μ r (.If c a b pos) (gy fc Fa Fb):=by
 intro u s σ Ge B G H ρ fp I R ho;refine wpAny_If (aE (hc u s σ (lY fp G H) H ρ I R.vh R.ro (ho.res.le R.bh)) fun k s1 hZ141=>?_);obtain⟨e,G1,H1,I1,x1⟩:=hZ141;have kk:=ho.res2 e (Same.refl B);have e0:gy fc Fa Fb ρ=if k=true then Fa ρ else Fb ρ:=b_ e
 rw[e0];cases k with
 |true=>rw[if_pos rfl]at kk ⊢;exact aE (ha u s1 σ Ge B _ H1 ρ fp I1 (R.grow x1) kk) fun _ _ q=>q.le (R.gg x1)
 |false=>rw[if_neg Bool.false_ne_true]at kk ⊢;exact aE (hb u s1 σ Ge B _ H1 ρ fp I1 (R.grow x1) kk) fun _ _ q=>q.le (R.gg x1)
theorem cU {st:Stmt}{C:Addr}{ok:DS→Bool}(h:xn X E st (a7 C ok)):lL X E μ r st (a7 C ok):=by
 intro pins s σ Ge B G H ρ fp I R ho;refine aE (h pins s σ (lY fp G H) H ρ I R.vh R.ro (ho.le R.bh)) fun fl s1 q=>?_;have no:∀o,a7 C ok ρ=o→o= .exc C∨o= .bad:=fun o e=>by
  unfold a7 at e;split at e
  ·exact .inl e.symm
  ·exact .inr e.symm
 cases fl with
 |next=>obtain⟨_,_,_,_,e,_⟩:=q;rcases no _ e with z|z <;> cases z
 |brk=>obtain⟨_,_,_,_,e,_⟩:=q;rcases no _ e with z|z <;> cases z
 |cont=>obtain⟨_,_,_,_,e,_⟩:=q;rcases no _ e with z|z <;> cases z
 |ret u=>obtain⟨_,_,_,_,_,e,_⟩:=q;rcases no _ e with z|z <;> cases z
theorem Rw.ext {K:W.Frag}{Ge B G H:Hp}{σ:St}{ρ:DS}{fp:Nat→List Addr}(R:Rw K μ Ge B G H σ ρ fp):Ext Ge B G H:=⟨R.bh,R.eg,R.gh,R.nw⟩
theorem bL {e:Expr}{pos:Pos}{f:DS→Res D}(h:PZ X E μ r e f):lL X E μ r (.Return (some e) pos) (cG f):=by
 intro pins s σ Ge B G H ρ fp I R ho;refine aE (rf (pos:=pos) (we h) pins s σ H {nx:=fun _ _=>False,bk:=fun _ _=>False,ct:=fun _ _=>False,rt:=fun v H'=>∃d G' S,f ρ= .ok d∧Rw X.K μ Ge B G' H' σ ρ fp∧Same G G'∧Ow X.K G' H' r d v S∧New H G' S} I ⟨Ge,B,G,ρ,fp,R,ho.res,fun d e v G' H' S R' sg sh o w=>⟨d,G',S,e,R',sg,o,w⟩⟩) fun fl s1 q=>?_;cases fl with
 |next=>obtain⟨_,_,_,q⟩:=q;exact q.elim
 |brk=>obtain⟨_,_,_,q⟩:=q;exact q.elim
 |cont=>obtain⟨_,_,_,q⟩:=q;exact q.elim
 |ret u=>
  obtain⟨v,σ',H',I',rv,d,G',S,e,R',sg,o,w⟩:=q;exact⟨d,v,σ',G',H',S,b_ e,I',rv,R'.ext,o,w.1,fun a ha=>⟨R.bh.free (w.2 a ha).1,(w.2 a ha).2⟩⟩
theorem kr {i:Nat}{x:Str}{px pos:Pos}(hm:μ.getD i 0=r)(hN:X.N[i]?=some x)(hv:xg X.env.scope x)(hd:(x==("__debug__" :Str))=false:=by decide)(hcd:(x==("__classdict__" :Str))=false:=by decide):lL X E μ r (.Return (some (.Name x px)) pos) (cG (ac i)):=by
 intro pins s σ Ge B G H ρ fp I R ho;have hslot:∃d,ρ[i]?=some (some d)∧ac i ρ= .ok d:=by
  have h:=ho.res;unfold ac at h;split at h
  ·rename_i l q;exact⟨l,q,by unfold ac;rw[q]⟩
  ·exact h.elim
 obtain⟨d,hr,er⟩:=hslot;obtain⟨v,h1,o⟩:=R.sl i _ hr;rw[hm]at o;refine aE (rf (pos:=pos) (ls (pos:=px) hN hv hd hcd) pins s σ H {nx:=fun _ _=>False,bk:=fun _ _=>False,ct:=fun _ _=>False,rt:=fun v' H'=>v'=v∧H'=H} I ⟨_,h1,rfl,rfl⟩) fun fl s1 q=>?_;cases fl with
 |next=>obtain⟨_,_,_,q⟩:=q;exact q.elim
 |brk=>obtain⟨_,_,_,q⟩:=q;exact q.elim
 |cont=>obtain⟨_,_,_,q⟩:=q;exact q.elim
 |ret u=>
  obtain⟨v',σ',H',I',rv,e2,e3⟩:=q;subst e2 e3;exact⟨d,v',σ',G,H',fp i,b_ er,I',rv,R.ext,o,R.nd i,fun a ha=>⟨R.ob i a ha,R.gf i a ha⟩⟩
noncomputable def cc (fc:DS→Res Bool)(F:DS→Out):Nat→DS→Out
 |0,_=>.bad
 |n+1,ρ=>(fc ρ).out fun b=>if b=true then (match F ρ with
  |.nx ρ'=>cc fc F n ρ'
  |.ct ρ'=>cc fc F n ρ'
  |.bk ρ'=>.nx ρ'
  |.rt d=>.rt d
  |.exc c=>.exc c
  |.bad=>.bad) else .nx ρ
theorem wn (n:Nat){c:Expr}{body:List Stmt}{pos:Pos}{fc:DS→Res Bool}{F:DS→Out}(hp:PassesOwn (model X.prog X.w) X.A X.env X.xe)(hc:rN X E c fc)(hb:oQ X E μ r body F):lL X E μ r (.While c body [] pos) (cc fc F n):=by
 intro x s σ Ge B G H ρ fp I R ho;refine wpAny_While (codeAny_whileLoop (fun k s'=>∃σ' G' H' ρ' fp',Inv X x σ' H' s'∧Rw X.K μ Ge B G' H' σ' ρ' fp'∧Same G G'∧cc fc F n ρ=cc fc F k ρ') ?_ n ⟨σ,G,H,ρ,fp,I,R,.refl _,rfl⟩);intro k s1 hZ15;obtain⟨σ1,G1,H1,Q,fp1,I1,R1,sg1,e1⟩:=hZ15;rw[e1]at ho;cases k with
 |zero=>exact ho.elim
 |succ k=>
  have ho':OkO E B ((fc Q).out fun b=>if b=true then (match F Q with|.nx ρ'=>cc fc F k ρ'|.ct ρ'=>cc fc F k ρ'|.bk ρ'=>.nx ρ'|.rt d=>.rt d|.exc c=>.exc c|.bad=>.bad) else .nx Q):=ho
  have T:cc fc F (k+1) Q=(fc Q).out fun b=>if b=true then (match F Q with|.nx ρ'=>cc fc F k ρ'|.ct ρ'=>cc fc F k ρ'|.bk ρ'=>.nx ρ'|.rt d=>.rt d|.exc c=>.exc c|.bad=>.bad) else .nx Q:=rfl
  refine wpAny_passesOwn hp (aE (hc x s1 σ1 (lY fp1 G1 H1) H1 Q I1 R1.vh R1.ro (ho'.res.le R1.bh)) fun b s2 hZ142=>?_);obtain⟨eb,G2,H2,I2,x2⟩:=hZ142;have kk:=ho'.res2 eb (Same.refl B);rw[b_ eb]at T;have R2:=R1.grow x2;have Y:=sg1.trans (R1.gg x2);cases b with
  |true=>
   rw[if_pos rfl]at kk T ⊢;have kF:OkO E B (F Q):=by
    cases q:F Q with
    |exc c=>rw[q]at kk;exact kk
    |bad=>rw[q]at kk;exact kk
    |_=>trivial
   refine wpAny_passesOwn hp (aE (hb x s2 σ1 Ge B _ H2 Q fp1 I2 R2 kF) fun f s3 q3=>?_);cases f with
   |next=>
    obtain⟨V,S,G3,H3,U,e3,I3,R3,W⟩:=q3;rw[e3]at T;exact⟨k,lt_succ_self k,S,G3,H3,V,U,I3,R3,Y.trans W,e1.trans T⟩
   |cont=>
    obtain⟨V,S,G3,H3,U,e3,I3,R3,W⟩:=q3;rw[e3]at T;exact⟨k,lt_succ_self k,S,G3,H3,V,U,I3,R3,Y.trans W,e1.trans T⟩
   |brk=>
    obtain⟨V,S,G3,H3,U,e3,I3,R3,W⟩:=q3;rw[e3]at T;exact⟨V,S,G3,H3,U,e1.trans T,I3,R3,Y.trans W⟩
   |ret u=>
    obtain⟨d,v,S,G3,H3,S3,e3,q3,q4,q5,q6,q7⟩:=q3;rw[e3]at T;exact⟨d,v,S,G3,H3,S3,e1.trans T,q3,q4,q5,q6,q7⟩
  |false=>
   rw[if_neg Bool.false_ne_true]at kk T ⊢;exact wpAny_execs_nil ⟨Q,σ1,_,H2,fp1,e1.trans T,I2,R2,Y⟩
end
inductive freshSp (K:W.Frag)(r:Nat)(m:List D→Res D)(vs:List V)(H:Hp)(Q:VK)(E:XK):Prop
 |mk (ds:List D) (G:Hp) (s:Same G H) (rl:RepL K G ds vs) (o:OkR E H (m ds)) (k:∀d,m ds= .ok d→∀v G' H' S,Ext G H G' H'→Ow K G' H' r d v S→New H G' S→Q v H')
section
variable{P:Program}{w:World}{K:W.Frag}{mg:Str→Option Value}{base:Heap}{r:Nat}
theorem Fun.fresh {x qual:Str}{st:Stmt}{f:Addr}{fd:FuncData}{N ps:List Str}{k:Nat}{m:List D→Res D}(F:Fun K x qual st f fd)(S:FnScope N ps (af st))(μ:List Nat)(hμ:∀i,i<ps.length→μ.getD i 0=0)(len:∀ds,m ds≠ .bad→ds.length=ps.length)
  (hbody:∀(cdv:Value) (A:Around) (outer:List Env) (s:Shared) (H:Hp) (E:XK),Room k (A.deeper (envOfC qual (af st) s.heap.objs.size f cdv))→
   ∃Fb,oQ (oS P w K mg base N qual (af st) f cdv A outer s H E) E μ r (bv st) Fb∧∀ds,m ds≠ .bad→fO (Fb (au N ds))=m ds):FnOk P w K mg base (CXF P w) (k+1) f fd ps (freshSp K r m):=by
 have nb:∀{E:XK} {H:Hp} {r:Res D},OkR E H r→r≠ .bad:=fun h z=>by rw[z]at h;exact h
 obtain⟨oc,od,kV,doc,pm,an,cdv,ct,osl,rfl,lk,hcd⟩:=F.ex;refine u7 lk hcd S (fun vs H Q E hZ143=>(by obtain⟨ds,G,_,rl,L,_⟩:=hZ143;rw[←rl.length];exact len ds (nb L))) fun A outer s H vs Q E hr hsp=>?_;obtain⟨ds,G,hs,rl,L,k⟩:=hsp;obtain⟨Fb,hb,hm⟩:=hbody cdv A outer s H E hr;have J:=hm ds (nb L);have hlen:=len ds (nb L);have hoO:OkO E H (Fb (au N ds)):=by
  rw[←J]at L;cases q:Fb (au N ds) with
  |exc c=>rw[q]at L;exact L
  |bad=>rw[q]at L;exact L
  |_=>trivial
 have zero:∀i d,(au N ds)[i]?=some (some d)→μ.getD i 0=0:=fun i d e=>by
  refine hμ i ?_;unfold au at e;by_cases hi:i<ds.length
  ·omega
  ·rw[List.getElem?_append_right (by simpa using hi),getElem?_replicate]at e;split at e <;> cases e
 have R0:Rw K μ G H G H (cW N vs) (au N ds) (fun _=>[]):=by
  refine⟨hs,.refl _,.refl _,fun b o e=>.inl e,fun i a e=>(by cases e),fun i a e=>(by cases e),fun i a e=>(by cases e),fun i=>nodup_nil,fun i j a e=>(by cases e),fun i d e=>?_⟩;obtain⟨v,hv,rv⟩:=ly rl i d e;rw[zero i d e];exact⟨v,hv,rfl,rv⟩
 refine⟨fun D σ H1=>(σ=cW N vs∧H1=H∧(D.nx=fun _ M=>Q .non M)∧D.rt=Q),?_,rfl,rfl,rfl,rfl⟩;intro pins s1 σ H1 D I hZ16;obtain⟨e1,e2,e3,e4⟩:=hZ16;subst e1 e2;refine aE (hb pins s1 _ G H1 G H1 (au N ds) _ I R0 hoO) fun fl s2 q=>?_;cases fl with
 |next=>
  obtain⟨ρ',t,G',M,fp',e,I',R,_⟩:=q;refine⟨t,M,I',?_⟩;rw[e3];have hn:m ds= .ok .non:=by rw[←J,e];rfl
  cases r with
  |zero=>exact k .non hn .non G' M [] R.ext ⟨rfl,rep_non.mpr rfl⟩ .nil
  |succ r=>exact k .non hn .non G' M [] R.ext ⟨by unfold L2.flat;rfl,rfl,rep_non.mpr rfl⟩ .nil
 |brk=>
  obtain⟨ρ',t,G',M,fp',e,_⟩:=q;rw[e]at J;exact absurd J.symm (nb L)
 |cont=>
  obtain⟨ρ',t,G',M,fp',e,_⟩:=q;rw[e]at J;exact absurd J.symm (nb L)
 |ret u=>
  obtain⟨d,v,t,G',M,S,e,I',rv,x,o,w⟩:=q;refine⟨v,t,M,I',rv,?_⟩;rw[e4];exact k d (by rw[←J,e];rfl) v G' M S x o w
end
inductive tZI (K:W.Frag)(E:XK)(μ:List Nat)(fi:DS→Res (List D))(σ:St)(H:Hp)(R:It→Hp→Prop):Prop
 |mk (Ge B G:Hp) (ρ:DS) (fp:Nat→List Addr) (w:Rw K μ Ge B G H σ ρ fp) (o:OkR E B (fi ρ)) (k:∀ds,fi ρ= .ok ds→∀J G' H',Rw K μ Ge B G' H' σ ρ fp→Same G G'→xo K J ds G'→R J H')
noncomputable def GD (K:W.Frag)(μ:List Nat)(n:Nat)(g:TG)(asg:D→DS→Option DS):Prop:=
 ∀(Ge B G H:Hp) (σ:St) (ρ ρ':DS) (fp:Nat→List Addr) (v:V) (d:D),σ.length=n→Rw K μ Ge B G H σ ρ fp→Rep K G d v→asg d ρ=some ρ'→g v σ H fun σ' H'=>H'=H∧∃fp',Rw K μ Ge B G H σ' ρ' fp'
noncomputable def b8 (j:Nat):D→DS→Option DS:=fun d ρ=>some (ρ.set j (some d))
noncomputable def dZ (j k:Nat):D→DS→Option DS
 |.tup [a,b],ρ=>some ((ρ.set j (some a)).set k (some b))
 |_,_=>none
section
variable{X:Cx}{E:XK}{μ:List Nat}{r:Nat}{tg:Expr}
theorem Rw.set0 {K:W.Frag}{Ge B G H:Hp}{σ:St}{ρ:DS}{fp:Nat→List Addr}{i:Nat}{d:D}{v:V}(R:Rw K μ Ge B G H σ ρ fp)(hi:i<σ.length)(m:μ.getD i 0=0)(h:Rep K G d v):Rw K μ Ge B G H (σ.set i (some v)) (ρ.set i (some d)) (fun j=>if j=i then [] else fp j):=
 R.put hi (by rw[m];exact⟨rfl,h⟩) nodup_nil (fun a h=>by cases h) fun j _ a h=>by cases h
theorem yd {K:W.Frag}{n j:Nat}(hj:j<n)(m:μ.getD j 0=0):GD K μ n (bw j) (b8 j):=by
 intro Ge B G H σ ρ ρ' fp v d hl R h e;cases e;exact⟨rfl,_,R.set0 (by rw[hl];exact hj) m h⟩
theorem AB {K:W.Frag}{n j k:Nat}(hj:j<n)(hk:k<n)(m:μ.getD j 0=0)(m':μ.getD k 0=0):GD K μ n (tK K 2 (gw (bw j) (gw (bw k) tJ))) (dZ j k):=by
 intro Ge B G H σ ρ ρ' fp v d hl R h e;unfold dZ at e;split at e
 ·rename_i a b;cases e;rw[rep_tup]at h;obtain⟨p,xs,rfl,t,rl⟩:=h;obtain⟨x,q,rfl,rx,rl⟩:=rl.inv;obtain⟨y,q,rfl,ry,rl⟩:=rl.inv;have:=rl.inv0;subst this;have R2:=(R.set0 (by rw[hl];exact hj) m rx).set0 (i:=k) (by rw[length_set,hl];exact hk) m' ry;exact⟨p,[x,y],rfl,(show TpS K H p _ from ⟨R.gh _ _ t.h⟩).sq,rfl,x,[y],rfl,y,[],rfl,rfl,rfl,_,R2⟩
 ·cases e
noncomputable def bF (asg:D→DS→Option DS)(F:DS→Out):List D→DS→Out
 | [],ρ=>.nx ρ
 |d::ds,ρ=>match asg d ρ with
  |none=>.bad
  |some ρ1=>match F ρ1 with
   |.nx ρ'=>bF asg F ds ρ'
   |.ct ρ'=>bF asg F ds ρ'
   |.bk ρ'=>.nx ρ'
   |.rt d=>.rt d
   |.exc c=>.exc c
   |.bad=>.bad
noncomputable def fJ (fi:DS→Res (List D))(asg:D→DS→Option DS)(F:DS→Out):DS→Out:=fun ρ=>(fi ρ).out fun ds=>bF asg F ds ρ
theorem wl {pos:Pos}{iter:Expr}{body:List Stmt}{g:TG}{asg:D→DS→Option DS}{fi:DS→Res (List D)}{F:DS→Out}(hp:PassesOwn (model X.prog X.w) X.A X.env X.xe)(hc:X.calm=true)(hg:PG X tg g)(hgd:GD X.K μ X.N.length g asg)(hi:PI X tg iter (tZI X.K E μ fi))(hb:oQ X E μ r body F)
  (hs:∀x,foldedSetIterable iter X.env x=pure x:=by intro _;rfl):lL X E μ r (.For tg iter body [] pos) (fJ fi asg F):=by
 intro y s σ Ge B G H t fp I R ho;refine wpAny_For (aE (hi y s σ H _ I ⟨Ge,B,G,t,fp,R,ho.res,fun Y e J G1 H1 R1 sg src=>(show (fun (J:It) (H1:Hp)=>∃ Y G1,fi t= .ok Y∧Rw X.K μ Ge B G1 H1 σ t fp∧Same G G1∧xo X.K J Y G1) J H1 from ⟨Y,G1,e,R1,sg,src⟩)⟩) fun v s1 h1=>aE h1 fun itv s2 h2=> ?_) hs;obtain ⟨it,ip,tn,J,H2,e,I2,T,st2,f2,Y,G2,eds,R2,sg2,src⟩:=h2;subst e;have kk:OkO E B (bF asg F Y t):=ho.res2 eds (Same.refl B);have e0:fJ fi asg F t=bF asg F Y t:=b_ eds;rw [e0];have p:∀ {H':Hp},(∀ b∈ip,H' b=none)→∀ b∈ip,gd X y H' b:=fun hn b hb=>⟨hn b hb,(f2 b hb).2⟩;refine codeAny_forLoop_any (fun n s'=>∃ i σ' G' H' ρ' fp',n=Y.length - i∧i≤Y.length∧Inv X y σ' H' s'∧tn i s'.heap∧(∀ b∈ip,H' b=none)∧Rw X.K μ Ge B G' H' σ' ρ' fp'∧Same G2 G'∧bF asg F Y t=bF asg F (Y.drop i) ρ') ?_ Y.length
  ⟨0,σ,G2,H2,t,fp,rfl,zero_le _,I2,st2,fun b hb=>(f2 b hb).1,R2,.refl _,rfl⟩
 intro n s3 hZ17;obtain⟨i,S,G3,H3,U,fp3,rfl,hi3,I3,st3,fr3,R3,V,j⟩:=hZ17;obtain⟨sg,ss⟩:=src G3 H3 V R3.gh i;by_cases W:i<Y.length
 ·obtain⟨go,yl⟩:=sg Y[i] (by simp[W]);have hdrop:Y.drop i=Y[i]::Y.drop (i+1):=by rw[List.getElem_cons_drop]
  rw[hdrop]at j;refine wpAny_passesOwn hp (aE (T.item X rfl rfl rfl hc i y s3 S H3 X.xe I3 (p fr3) st3 go) fun r s4 hZ144=>?_);obtain⟨u,hr4,h4⟩:=hZ144;subst hr4;refine wpAny_passesOwn hp (aE h4 fun _ s5 hZ145=>?_);obtain⟨xv,H5,I5,r5,y5,st5,fr5⟩:=hZ145;obtain⟨G5,x5,rp5⟩:=yl xv H5 y5;have I5':=I5.pinned (p fr5) (T.obj _ _ st5);have R5:=R3.growF x5;have M:OkO E B (bF asg F (Y[i]::Y.drop (i+1)) U):=by rw[←j];exact kk
  rw[bF]at M;rw[bF]at j;cases qa:asg Y[i] U with
  |none=>rw[qa]at M;exact M.elim
  |some ρ6=>
  rw[qa]at M j;dsimp only at M j;refine wpAny_passesOwn hp (aE (hg _ s5 S H5 xv u _ I5' r5 (hgd Ge B G5 H5 S U ρ6 fp3 xv _ I5.len R5 rp5 qa)) fun _ s6 hZ146=>?_);obtain⟨σ6,H6,I6,e6,fp6,R6⟩:=hZ146;subst e6;have kk6:OkO E B (F ρ6):=by
   cases q:F ρ6 with
   |exc c=>rw[q]at M;exact M
   |bad=>rw[q]at M;exact M
   |_=>trivial
  refine wpAny_passesOwn hp (aE (hb _ s6 _ Ge B G5 H6 _ _ I6 R6 kk6) fun f s7 q7=>?_);have again:∀{Z:St} {C z:Hp} {a:DS} {k:Nat→List Addr},Inv X (y ++ lu ip s5.heap) Z z s7→Rw X.K μ Ge B C z Z a k→Same G5 C→bF asg F Y t=bF asg F (Y.drop (i+1)) a→∃m,m<Y.length-i∧∃i σ' G' H' ρ' fp',m=Y.length-i∧i≤Y.length∧Inv X y σ' H' s7∧tn i s7.heap∧(∀b∈ip,H' b=none)∧Rw X.K μ Ge B G' H' σ' ρ' fp'∧Same G2 G'∧bF asg F Y t=bF asg F (Y.drop i) ρ':=fun {Z C z a k} l R7 h L=>by
   refine⟨Y.length-(i+1),Nat.sub_lt_sub_left W (lt_succ_self i),i+1,Z,C,z,a,k,rfl,W,l.unpinned,T.keep _ _ _ st5 fun b hb o e=>(l.pin (b,o) (mem_append_right _ (mem_append_right _ (fN hb e)))).1,fun b hb=>?_,R7,(V.trans x5.gg).trans h,L⟩;obtain⟨o,e,d⟩:=T.obj _ _ st5 b hb;exact(l.pin (b,o) (mem_append_right _ (mem_append_right _ (fN hb e)))).2.1
  cases f with
  |next=>obtain⟨a,Z,C,z,k,L,l,R7,h⟩:=q7;rw[L]at j;exact again l R7 h j
  |cont=>obtain⟨a,Z,C,z,k,L,l,R7,h⟩:=q7;rw[L]at j;exact again l R7 h j
  |brk=>
   obtain⟨a,Z,C,z,k,L,l,R7,h⟩:=q7;rw[L]at j;exact⟨a,Z,C,z,k,j,l.unpinned,R7,((sg2.trans V).trans x5.gg).trans h⟩
  |ret v=>
   obtain⟨d,v7,Z,C,z,S7,L,l,q7,q8,q9,q10⟩:=q7;rw[L]at j;exact⟨d,v7,Z,C,z,S7,j,l.unpinned,q7,q8,q9,q10⟩
 ·have hie:i=Y.length:=Nat.le_antisymm hi3 (Nat.not_lt.mp W);subst hie;refine wpAny_passesOwn hp (aE (T.done X rfl rfl rfl hc Y.length y s3 S H3 X.xe I3 (p fr3) st3 (ss (le_refl _))) fun r s4 hZ147=>?_);obtain⟨hr4,I4⟩:=hZ147;subst hr4;rw[List.drop_length]at j;exact wpAny_execs_nil ⟨U,S,G3,H3,fp3,j,I4,R3,sg2.trans V⟩
noncomputable def xj (μ:List Nat)(fi:DS→Res (List D)):DS→Res (List D):=fun ρ=>fi (f8 μ ρ)
theorem eC {iter:Expr}{fi:DS→Res (List D)}(h:PI X tg iter (tDI X.K E fi)):PI X tg iter (tZI X.K E μ (xj μ fi)):=by
 intro pins s σ H Q I hZ18;obtain⟨Ge,B,G,ρ,fp,R,ho,k⟩:=hZ18;exact h pins s σ H Q I ⟨G,f8 μ ρ,R.gh,R.rof,ho.le R.bh,fun ds e J G' H' x src=>k ds e J G' H' (R.growF x) x.gg src⟩
theorem uv {a b:Expr}{p pos:Pos}{fs:DS→Res (List D)}(hg:Gl X "range")(hm:X.mg "range" =none)(ha:kE X E [a,b] fs)(hs:starEach [a,b] X.env=[(false,eval a X.env),(false,eval b X.env)]:=by rfl)(hs2:starEach [b] X.env=[(false,eval b X.env)]:=by rfl):PI X tg (.Call (.Name "range" p) [a,b] [] pos) (tZI X.K E μ (fun ρ=>(fs ρ).bind wJ)):=by
 intro pins s σ H Q I hZ19;obtain⟨Ge,B,G,ρ,fp,R,ho,k⟩:=hZ19;refine uf hg hm (iy ha) hs hs2 pins s σ H Q I ⟨lY fp G H,ρ,R.vh,R.ro,ho.fst.le R.bh,fun ds e vs G1 H1 x1 p1=>?_⟩;have kk:=ho.snd e (Same.refl B);unfold wJ at kk;split at kk
 ·rename_i i j;obtain⟨v,q,rfl,rv,r0⟩:=p1.inv;obtain⟨v2,q2,rfl,rv2,r02⟩:=r0.inv;rw[r02.inv0];rw[rep_int]at rv rv2;subst rv rv2;by_cases hj:(cH i&&cH j)=true
  ·have hj':=hj;unfold cH at hj';rw[and_eq_true,and_eq_true,and_eq_true]at hj';exact⟨i,j,rfl,⟨of_decide_eq_true hj'.1.1,of_decide_eq_true hj'.1.2,of_decide_eq_true hj'.2.1,of_decide_eq_true hj'.2.2⟩,k _ (al e (if_pos hj)) _ _ H1 (R.grow x1) (R.gg x1) (mK i (j-i).toNat)⟩
  ·rw[if_neg hj]at kk;exact kk.elim
 ·exact kk.elim
theorem hX {x:Str}{px pos:Pos}{iter:Expr}{body:List Stmt}{j:Nat}{fi:DS→Res (List D)}{F:DS→Out}(hp:PassesOwn (model X.prog X.w) X.A X.env X.xe)(hc:X.calm=true)(hN:X.N.Nodup)(hj:X.N[j]?=some x)(hx:rM X.env.scope x)(hm:μ.getD j 0=0)(hi:PI X (.Name x px) iter (tZI X.K E μ fi))(hb:oQ X E μ r body F)
  (hf:X.fn x=true∨X.env.scope.names.lookup x=some .local:=by first|exact .inl rfl|exact .inr rfl) (hs:∀x,foldedSetIterable iter X.env x=pure x:=by intro _;rfl):lL X E μ r (.For (.Name x px) iter body [] pos) (fJ fi (b8 j) F):=
 wl hp hc (fP hN hj hx hf) (yd (jj hj).1 hm) hi hb hs
theorem fQ {x y:Str}{px py pt pos:Pos}{kt:Nat}{iter:Expr}{body:List Stmt}{j k:Nat}{fi:DS→Res (List D)}{F:DS→Out}(hp:PassesOwn (model X.prog X.w) X.A X.env X.xe)(hc:X.calm=true)(hN:X.N.Nodup)(hj:X.N[j]?=some x)(hk:X.N[k]?=some y)(hx:rM X.env.scope x)(hy:rM X.env.scope y)(hm:μ.getD j 0=0)(hm':μ.getD k 0=0)(hi:PI X (.Tuple [.Name x px,.Name y py] kt pt) iter (tZI X.K E μ fi))(hb:oQ X E μ r body F)
  (hf:X.fn x=true∨X.env.scope.names.lookup x=some .local:=by first|exact .inl rfl|exact .inr rfl) (hf':X.fn y=true∨X.env.scope.names.lookup y=some .local:=by first|exact .inl rfl|exact .inr rfl) (hs:∀x,foldedSetIterable iter X.env x=pure x:=by intro _;rfl):lL X E μ r (.For (.Tuple [.Name x px,.Name y py] kt pt) iter body [] pos) (fJ fi (dZ j k) F):=
 wl hp hc (wf hc (i_ (fP hN hj hx hf) (i_ (fP hN hk hy hf') sC))) (AB (jj hj).1 (jj hk).1 hm hm') hi hb hs
end
section
variable{X:Cx}{pins:List (Addr×Obj)}{σ:St}{H:Hp}{s:Shared}{h':Heap}
theorem Inv.turnedL {t':Nat}{ch:List Addr}(I:Inv X pins σ H s)(hf:∀b∈ch,gd X pins H b)(k:∀b o,b∉ch→s.heap.get? b=some o→h'.get? b=some o):Inv X pins σ H {s with heap:=h',toks:=t'}:=by
 have nit:∀b u,H b=some u→b∉ch:=fun b u e z=>by rw[(hf b z).1]at e;cases e
 refine I.step (g':=s.gens) (d':=s.drawn) (ch:=ch) (fun b hb=>?_) (fun b o _ _ hc e _=>k b o hc e) (fun b o _ _ hc e _=>⟨o.slots,k b o hc e⟩) (fun _ _ _ _ n=>n)
  (fun b o hc e=>⟨o,k b o hc e⟩) (fun _ _ e=>e) (fun _ _ _ e=>e) (fun b ps e=>⟨#[],by rw[e];simp⟩) (fun m hm=>?_) (fun b u e=>?_) I.bare
 ·obtain⟨f0,f1,f2,f3,f4,f5⟩:=hf b hb;exact⟨f3,f1,f4,f5⟩
 ·obtain⟨o,es,ep,ho,r⟩:=hm;exact⟨o,es,ep,k _ o (fun z=>(hf _ z).2.1 rfl) ho,r⟩
 ·refine(I.hok b u e).stay (fun c v hc q=>k c v ?_ q) (fun _ q=>q) fun _ _ q=>q
  rcases hc with z|z
  ·rw[z];exact nit b u e
  ·exact nit c _ z
theorem Inv.track {p:Addr}{o:HO}(I:Inv X pins σ H s)(hp:gd X pins H p)(new:ObjOk X.prog X.w (aS H p o) s.heap p o):Inv X pins σ (aS H p o) s:=by
 have hn:=hp.1;have I':=I.step (g':=s.gens) (d':=s.drawn) (t':=s.toks) (h':=s.heap) (H':=aS H p o) (ch:=[p]) (fun b hb=>by
   have e:b=p:=by simpa using hb
   subst e;obtain⟨f0,f1,f2,f3,f4,f5⟩:=hp;exact⟨f3,f1,f4,f5⟩) (fun b o _ _ hc e _=>e) (fun b o _ _ hc e _=>⟨o.slots,e⟩) (fun b u hc e n=>by rw[ai (fun z=>hc (by simp[z]))];exact n)
  (fun b o hc e=>⟨o,e⟩) (fun b xs e=>by rw[ai (ap e hn)];exact e) (fun b o u e=>by rw[ai (ap e hn)];exact e) (fun b ps e=>⟨#[],by rw[ai (ap e hn),e];simp⟩) (fun m hm=>hm) (fun b u e=>by
   by_cases hb:b=p
   ·subst hb;rw[ao]at e;cases e;exact new
   ·rw[ai hb]at e;exact(I.hok b u e).stay (fun c v _ q=>q) (fun c q=>by rw[ai (ap q hn)];exact q) fun c xs q=>by rw[ai (ap q hn)];exact q) I.bare
 exact I'
end
noncomputable def Db (K:W.Frag)(a:Addr):It:=
 ⟨fun i H=>∃xs x,f6 K H a xs∧xs[i]?=some x,fun i H x H'=>∃p y,H p=none∧x= .ref p∧H'=aS H p (.tup [.int i,y])∧∀xs,f6 K H a xs→xs[i]?=some y,fun i H=>∃xs,f6 K H a xs∧xs.length≤i⟩
theorem ur {P:Program}{w:World}{K:W.Frag}{elts:List Expr}{x1:Nat}{tp:Pos}(a e it:Addr)(hne:e≠it):Turn P w K (.Tuple elts x1 tp) (Db K a) [e,it] e (fun i h=>(∃old,IsEnum h e it (i:Nat) old)∧h.IsListIter it a i) where
 mem:=by simp
 obj:=fun i h t b q=>by
  obtain⟨⟨old,r⟩,o,j,c,d⟩:=t
  rcases mem_cons.mp q with z|z
  ·subst z;exact⟨_,r,fun v z=>by cases z⟩
  ·have z:b=it:=by simpa using z
   subst z;exact⟨o,j,fun v z=>by rw[d]at z;cases z⟩
 keep:=fun i h h' ⟨⟨old,r⟩,t⟩ k=>⟨⟨old,k e (by simp) _ r⟩,t.at fun o e=>k it (by simp) o e⟩
 item:=by
  intro X hP hw hK hc i A s σ H E I hf t hg;subst hP hw hK;obtain⟨⟨old,r⟩,m⟩:=t;obtain⟨xs,x,hq,hx⟩:=hg;obtain⟨its,rv,p,hz⟩:=I.list hq;obtain⟨u,hu,ru⟩:=rv.get hx;have hlt:∀b∈[e,it],b≠s.heap.objs.size:=fun b q z=>by
   obtain⟨o,j,c,d⟩:=m
   rcases mem_cons.mp q with y|y
   ·rw[y]at z;exact absurd (Heap.lt_size r) (by rw[z];exact lt_irrefl _)
   ·have y:b=it:=by simpa using y
    rw[y]at z;exact absurd (Heap.lt_size j) (by rw[z];exact lt_irrefl _)
  have hfr:=I.hok.fresh (le_refl s.heap.objs.size);have hfp:gd X A H s.heap.objs.size:=I.fpOk (le_refl _) hfr;refine wpAny_pyNext_enum_item r m p.isList (x:=u) (by simpa using hu) hne fun h1 he1 hit1 ht1 hz1 hk1=>⟨_,rfl,?_⟩;refine wpAny_letOwnedTupleGo_enum he1 fun h2 he2 l=>?_;have l:Heap.SameBut e h1 h2:=l;have I1:Inv X A σ H {s with heap:=h2,toks:=s.toks+1}:=I.turnedL (t':=s.toks+1) (ch:=[e,it]) hf fun b o q j=>by
   have b1:b≠e:=fun z=>q (by simp[z]);have b2:b≠it:=fun z=>q (by simp[z]);exact l.extBut b o b1 (hk1 b o b1 b2 j)
  have ht2:h2.get? s.heap.objs.size=some {cls:=.type "tuple",data:=.seq #[.int i s.toks,u]}:=l.extBut _ _ (Ne.symm (hlt e (by simp))) ht1;have I2:=Inv.track (o:=.tup [.int i,x]) I1 hfp ⟨by show 2≤sizeLine;decide,[.int i s.toks,u],.cons ⟨_,rfl⟩ (.cons ru .nil),_,ht2,rfl,_,rfl⟩;refine⟨.ref s.heap.objs.size,_,I2,rfl,⟨_,x,hfr,rfl,rfl,fun ys hy=>by rw[I.list_inj hy hq];exact hx⟩,⟨⟨u,?_⟩,hit1.at fun o j=>l.extBut _ o (Ne.symm hne) j⟩,fun b q=>?_⟩
  ·have:(((i+1:Nat):Int))=(i:Int)+1:=by push_cast;rfl
   rw[this];exact he2
  ·rw[ai (hlt b q)];exact(hf b q).1
 done:=by
  intro X hP hw hK hc i A s σ H E I hf t hg;subst hP hw hK;obtain⟨⟨old,r⟩,m⟩:=t;obtain⟨xs,hq,hx⟩:=hg;obtain⟨its,rv,p,hz⟩:=I.list hq;have hl:=rv.length;exact wpAny_pyNext_enum_end (I.ok.hd hc) r m p.isList (by simp;omega) fun h1 hk=>⟨rfl,I.turnedL (t':=s.toks) (ch:=[e,it]) hf fun b o q j=>hk b o (fun z=>q (by simp[z])) j⟩
 self:=fun _ _ _ _ _ t h=>by
  obtain⟨⟨old,r⟩,_⟩:=t;exact wpAny_pyIter_enum r h
theorem xw:bootBuiltins "enumerate" =some (.type "enumerate"):=by decide +kernel
theorem zS:bootBuiltins "zip" =some (.type "zip"):=by decide +kernel
section
variable{X:Cx}{E:XK}{elts:List Expr}{x1:Nat}{tp:Pos}
noncomputable def Cb (K:W.Frag)(ta:TA):TI:=fun σ H R=>ta σ H fun xs H1=>∃a,xs=[.ref a]∧(∃ys,f6 K H1 a ys)∧R (Db K a) H1
theorem yK {a:Expr}{ta:TA}{p pos:Pos}(hg:Gl X "enumerate")(hm:X.mg "enumerate" =none)(ha:PA X [a] ta)(hs:starEach [a] X.env=[(false,eval a X.env)]:=by rfl):PI X (.Tuple elts x1 tp) (.Call (.Name "enumerate" p) [a] [] pos) (Cb X.K ta):=by
 intro pins s σ H R I h;refine Call_ (gC I hg hm xw (PyProof.Rows.callWith_type1 (aE (ha pos pins s σ H _ I h) fun us s1 hZ148=>?_) hs rfl));obtain⟨vs,H1,I1,r1,q1⟩:=hZ148;obtain⟨l,e,⟨ys,hq⟩,q⟩:=q1;subst e;cases r1 with
 |cons r rr=>
  cases rr;cases r;obtain⟨its,rv,pp,hz⟩:=I1.list hq;refine call_enumerate_list pp.isList fun h2 he hit hz2 hk=>?_;refine wpAny_pyIter_enum (s:={s1 with heap:=h2}) he ⟨s1.heap.objs.size+1,[s1.heap.objs.size+1,s1.heap.objs.size],_,_,H1,rfl,I1.kept (t':=s1.toks) hk,ur l _ _ (Nat.succ_ne_self _),⟨⟨.none,he⟩,hit⟩,fun b hb=>?_,q⟩
  have hb':s1.heap.objs.size≤b:=by
   rcases mem_cons.mp hb with z|z
   ·rw[z];exact le_succ _
   ·have z:b=s1.heap.objs.size:=by simpa using z
    rw[z];exact le_refl _
  exact I1.fpOk hb' (I1.hok.fresh hb')
noncomputable def bi:Nat→List D→List D
 |_,[]=>[]
 |k,d::ds=>.tup [.int k,d]::bi (k+1) ds
theorem ig:∀(k:Nat) (l:List D) (i:Nat),(bi k l)[i]?=(l[i]?).map fun d=>.tup [.int ((k+i:Nat):Int),d]
 |_,[],i=>by unfold bi;simp
 |k,d::ds,0=>by unfold bi;simp
 |k,d::ds,i+1=>by
  unfold bi;rw[List.getElem?_cons_succ,List.getElem?_cons_succ,ig (k+1) ds i];have:k+1+i=k+(i+1):=by omega
  rw[this]
theorem ii:∀(k:Nat) (l:List D),(bi k l).length=l.length
 |_,[]=>rfl
 |k,d::ds=>by unfold bi;rw[length_cons,length_cons,ii]
theorem wV {K:W.Frag}{G:Hp}{a:Addr}{xs:List V}{ds:List D}(sq:f6 K G a xs)(rl:RepL K G ds xs):xo K (Db K a) (bi 0 ds) G:=by
 intro G2 H2 g1 g2 i;have sq2:f6 K H2 a xs:=g2.seq (g1.seq sq);refine⟨fun d hd=>?_,fun hl=>⟨xs,sq2,by rw[ii,rl.length]at hl;exact hl⟩⟩;rw[ig]at hd;cases q:ds[i]? with
 |none=>rw[q]at hd;cases hd
 |some d0=>
  rw[q]at hd;cases hd;obtain⟨v,hv,rv⟩:=rl.get q;refine⟨⟨xs,v,sq2,hv⟩,fun y H' hZ149=>?_⟩;obtain⟨p,z,hp,e1,e2,h⟩:=hZ149;subst e1 e2;have q:=h xs sq2;rw[hv]at q;cases q;have x:=Ext.new g2 hp (.tup [.int i,v]);refine⟨_,x,rep_tup.mpr ⟨p,_,rfl,.of ao,.cons (rep_int.mpr (by rw[Nat.zero_add])) (.cons (rv.mono (g1.trans x.gg)) .nil)⟩⟩
noncomputable def pj:List D→Res (List D)
 | [.lst l]=>.ok (bi 0 l)
 |_=>.bad
theorem gL {a:Expr}{p pos:Pos}{fs:DS→Res (List D)}(hg:Gl X "enumerate")(hm:X.mg "enumerate" =none)(ha:kE X E [a] fs)(hs:starEach [a] X.env=[(false,eval a X.env)]:=by rfl):PI X (.Tuple elts x1 tp) (.Call (.Name "enumerate" p) [a] [] pos) (tDI X.K E (fun ρ=>(fs ρ).bind pj)):=by
 intro pins s σ H R I hZ20;obtain⟨G,ρ,hsm,hro,ho,k⟩:=hZ20;refine yK hg hm (iy ha) hs pins s σ H R I ⟨G,ρ,hsm,hro,ho.fst,fun ds e vs G1 H1 x1 p1=>?_⟩;have kk:=ho.snd e x1.hh;unfold pj at kk;split at kk
 ·rename_i l;obtain⟨v,r,rfl,rv,r0⟩:=p1.inv;rw[r0.inv0];rw[rep_lst]at rv;obtain⟨b,xs,rfl,sq,rl⟩:=rv;exact⟨b,rfl,⟨xs,x1.gh.seq sq.sq⟩,k _ (al e rfl) _ G1 H1 x1 (wV sq.sq rl)⟩
 ·exact kk.elim
end
noncomputable def Dc (a b:Addr):It:=
 ⟨fun i H=>∃xs ys x y,H a=some (.lst xs)∧H b=some (.lst ys)∧xs[i]?=some x∧ys[i]?=some y,fun i H x H'=>∃p y z,H p=none∧x= .ref p∧H'=aS H p (.tup [y,z])∧(∀xs,H a=some (.lst xs)→xs[i]?=some y)∧∀ys,H b=some (.lst ys)→ys[i]?=some z,
  fun i H=>∃xs ys,H a=some (.lst xs)∧H b=some (.lst ys)∧(xs.length≤i∨ys.length≤i)⟩
noncomputable def BQ (z TI TO i1 i2 a b:Addr)(i:Nat)(h:Heap):Prop:=IsZip h z TI TO .none∧IsPair h TI (.ref i1) (.ref i2)∧(∃x y,IsPair h TO x y)∧h.IsListIter i1 a i∧h.IsListIter i2 b i
structure ZApart (z TI TO i1 i2:Addr):Prop where
 TIz:TI≠z
 TOz:TO≠z
 i1z:i1≠z
 i2z:i2≠z
 TITO:TI≠TO
 TIi1:TI≠i1
 TIi2:TI≠i2
 TOi1:TO≠i1
 TOi2:TO≠i2
 i12:i1≠i2
theorem mQ {X:Cx}{pins:List (Addr×Obj)}{H:Hp}{a b z TI TO i1 i2:Addr}{xs ys:List V}(D:ZApart z TI TO i1 i2)(hf:∀b∈[z,TI,TO,i1,i2],gd X pins H b)(hq:H a=some (.lst xs))(hq':H b=some (.lst ys)):ZipApart z TI TO i1 i2 a b:=
 have na:∀{l:Addr} {zs:List V},H l=some (.lst zs)→∀c∈[z,TI,TO,i1,i2],l≠c:=fun hl c hc e=>by rw[e,(hf c hc).1]at hl;cases hl
 ⟨D.TIz,D.TOz,D.i1z,D.i2z,D.TITO,D.TIi1,D.TIi2,D.TOi1,D.TOi2,D.i12,na hq z (by simp),na hq TO (by simp),na hq i1 (by simp),na hq i2 (by simp),na hq' z (by simp),na hq' TO (by simp),na hq' i1 (by simp),na hq' i2 (by simp)⟩
theorem w_ {P:Program}{w:World}{K:W.Frag}{elts:List Expr}{x1:Nat}{tp:Pos}(a b z TI TO i1 i2:Addr)(D:ZApart z TI TO i1 i2):Turn P w K (.Tuple elts x1 tp) (Dc a b) [z,TI,TO,i1,i2] z (BQ z TI TO i1 i2 a b) where
 mem:=by simp
 obj:=fun i h st c t=>by
  obtain⟨hz,m,⟨x,y,q⟩,⟨o1,e1,c1,d1⟩,⟨o2,e2,c2,d2⟩⟩:=st;simp only[mem_cons,not_mem_nil,or_false]at t
  rcases t with rfl|rfl|rfl|rfl|rfl
  ·exact⟨_,hz,fun v z=>by cases z⟩
  ·exact⟨_,m,fun v z=>by cases z⟩
  ·exact⟨_,q,fun v z=>by cases z⟩
  ·exact⟨o1,e1,fun v z=>by rw[d1]at z;cases z⟩
  ·exact⟨o2,e2,fun v z=>by rw[d2]at z;cases z⟩
 keep:=fun i h h' ⟨hz,m,⟨x,y,q⟩,h1,h2⟩ k=>⟨k z (by simp) _ hz,k TI (by simp) _ m,⟨x,y,k TO (by simp) _ q⟩,h1.at fun o e=>k i1 (by simp) o e,h2.at fun o e=>k i2 (by simp) o e⟩
 item:=by
  intro X hP hw hK t i B s σ H E I hf st hg;subst hP hw hK;obtain⟨hz,m,⟨u0,w0,q⟩,h1,h2⟩:=st;obtain⟨xs,ys,x,y,hq,A,hx,hy⟩:=hg;obtain⟨its,rv,p,_⟩:=I.list (.inl (.inl hq));obtain⟨its',rv',p',_⟩:=I.list (.inl (.inl A));obtain⟨u,hu,ru⟩:=rv.get hx;obtain⟨u',hu',ru'⟩:=rv'.get hy;have DD:=mQ D hf hq A;have hfr:=I.hok.fresh (le_refl s.heap.objs.size);have hfp:gd X B H s.heap.objs.size:=I.fpOk (le_refl _) hfr;have lt:∀{c:Addr} {o:Obj},s.heap.get? c=some o→c≠s.heap.objs.size:=fun e=>ne_of_lt (Heap.lt_size e);have hlt:∀c∈[z,TI,TO,i1,i2],c≠s.heap.objs.size:=fun c t=>by
   obtain⟨o1,e1,_⟩:=h1;obtain⟨o2,e2,_⟩:=h2;simp only[mem_cons,not_mem_nil,or_false]at t
   rcases t with rfl|rfl|rfl|rfl|rfl
   ·exact lt hz
   ·exact lt m
   ·exact lt q
   ·exact lt e1
   ·exact lt e2
  refine wpAny_pyNext_zip_item DD hz m q h1 h2 p.isList p'.isList (x:=u) (y:=u') (by simpa using hu) (by simpa using hu') fun h3 a1 a2 a3 a4 a5 a6 hk=>⟨_,rfl,?_⟩;refine wpAny_letOwnedTupleGo_zip a1 fun h4 hz4 r=>?_;have r:Heap.SameBut z h3 h4:=r;have I1:Inv X B σ H {s with heap:=h4,toks:=s.toks}:=I.turnedL (t':=s.toks) (ch:=[z,TI,TO,i1,i2]) hf fun c o t e1=>by
   have n:∀d∈[z,TI,TO,i1,i2],c≠d:=fun d hd z=>t (by rw[z];exact hd);exact r.extBut c o (n z (by simp)) (hk c o (n z (by simp)) (n TO (by simp)) (n i1 (by simp)) (n i2 (by simp)) e1)
  have ht2:h4.get? s.heap.objs.size=some {cls:=.type "tuple",data:=.seq #[u,u']}:=r.extBut _ _ (Ne.symm (hlt z (by simp))) a5;have I2:=Inv.track (o:=.tup [x,y]) I1 hfp ⟨by show 2≤sizeLine;decide,[u,u'],.cons ru (.cons ru' .nil),_,ht2,rfl,_,rfl⟩;refine⟨.ref s.heap.objs.size,_,I2,rfl,⟨_,x,y,hfr,rfl,rfl,fun zs C=>by rw[hq]at C;cases C;exact hx,fun zs C=>by rw[A]at C;cases C;exact hy⟩,⟨hz4,r.extBut _ _ D.TIz (hk _ _ D.TIz D.TITO D.TIi1 D.TIi2 m),⟨_,_,r.extBut _ _ D.TOz a2⟩,a3.at fun o e=>r.extBut _ o D.i1z e,a4.at fun o e=>r.extBut _ o D.i2z e⟩,fun c t=>?_⟩;rw[ai (hlt c t)];exact(hf c t).1
 done:=by
  intro X hP hw hK t i B s σ H E I hf st hg;subst hP hw hK;obtain⟨hz,m,⟨u0,w0,q⟩,h1,h2⟩:=st;obtain⟨xs,ys,hq,A,hx⟩:=hg;obtain⟨its,rv,p,_⟩:=I.list (.inl (.inl hq));obtain⟨its',rv',p',_⟩:=I.list (.inl (.inl A));have hl:=rv.length;have hl':=rv'.length;exact wpAny_pyNext_zip_end (I.ok.hd t) (mQ D hf hq A) hz m q h1 h2 p.isList p'.isList (hx.imp (fun hx=>by simp;omega) (fun hx=>by simp;omega)) fun h3 hk=>⟨rfl,I.turnedL (t':=s.toks) (ch:=[z,TI,TO,i1,i2]) hf fun c o t e1=>by
   have n:∀d∈[z,TI,TO,i1,i2],c≠d:=fun d hd z=>t (by rw[z];exact hd);exact hk c o (n z (by simp)) (n TO (by simp)) (n i1 (by simp)) (n i2 (by simp)) e1⟩
 self:=fun _ _ _ _ _ st h=>wpAny_pyIter_zip st.1 h
section
variable{X:Cx}{E:XK}{elts:List Expr}{x1:Nat}{tp:Pos}
noncomputable def Dl (ta:TA):TI:=fun σ H R=>ta σ H fun xs H1=>∃a b,xs=[.ref a,.ref b]∧(∃ys,H1 a=some (.lst ys))∧(∃ys,H1 b=some (.lst ys))∧R (Dc a b) H1
theorem Bl {a b:Expr}{ta:TA}{p pos:Pos}(hg:Gl X "zip")(hm:X.mg "zip" =none)(ha:PA X [a,b] ta)(hs:starEach [a,b] X.env=[(false,eval a X.env),(false,eval b X.env)]:=by rfl)(hs2:starEach [b] X.env=[(false,eval b X.env)]:=by rfl):PI X (.Tuple elts x1 tp) (.Call (.Name "zip" p) [a,b] [] pos) (Dl ta):=by
 intro pins s σ H R I h;refine Call_ (gC I hg hm zS (PyProof.Rows.callWith_type1 (aE (ha pos pins s σ H _ I h) fun us t hZ150=>?_) (by rw[hs,hs2]) (by rw[hs2];rfl)));obtain⟨vs,H1,I1,r1,q1⟩:=hZ150;obtain⟨l,m,e,⟨ys,hq⟩,⟨zs,hq'⟩,q⟩:=q1;subst e;cases r1 with
 |cons r rr=>
  cases rr with
  |cons r' rr=>
  cases rr;cases r;cases r';obtain⟨its,rv,pp,hz⟩:=I1.list (.inl (.inl hq));obtain⟨its',rv',pp',hz'⟩:=I1.list (.inl (.inl hq'));refine call_zip_2 pp.isList pp'.isList fun h2 b1 b2 b3 b4 b5 b6 hk=>?_;have D:ZApart (t.heap.objs.size+4) (t.heap.objs.size+2) (t.heap.objs.size+3) t.heap.objs.size (t.heap.objs.size+1):=by
   generalize t.heap.objs.size=n;exact⟨by show (n+2:Nat)≠n+4;omega,by show (n+3:Nat)≠n+4;omega,by show (n:Nat)≠n+4;omega,by show (n+1:Nat)≠n+4;omega,by show (n+2:Nat)≠n+3;omega,by show (n+2:Nat)≠n;omega,by show (n+2:Nat)≠n+1;omega,by show (n+3:Nat)≠n;omega,by show (n+3:Nat)≠n+1;omega,by show (n:Nat)≠n+1;omega⟩
  refine wpAny_pyIter_zip (s:={t with heap:=h2}) b1 ⟨t.heap.objs.size+4,[t.heap.objs.size+4,t.heap.objs.size+2,t.heap.objs.size+3,t.heap.objs.size,t.heap.objs.size+1],_,_,H1,rfl,I1.kept (t':=t.toks) hk,w_ l m _ _ _ _ _ D,⟨b1,b2,⟨_,_,b3⟩,b4,b5⟩,fun c hc=>?_,q⟩
  have hb':t.heap.objs.size≤c:=by
   simp only[mem_cons,not_mem_nil,or_false]at hc
   rcases hc with rfl|rfl|rfl|rfl|rfl
   ·exact le_add_right _ _
   ·exact le_add_right _ _
   ·exact le_add_right _ _
   ·exact le_refl _
   ·exact le_add_right _ _
  exact I1.fpOk hb' (I1.hok.fresh hb')
noncomputable def ia:List D→List D→List D
 |a::as,b::bs=>.tup [a,b]::ia as bs
 |_,_=>[]
theorem qv:∀(l m:List D) (i:Nat) (d:D),(ia l m)[i]?=some d→∃a b,l[i]?=some a∧m[i]?=some b∧d= .tup [a,b]
 | [],_,i,d,h=>by unfold ia at h;simp at h
 |_::_,[],i,d,h=>by unfold ia at h;simp at h
 |a::as,b::bs,0,d,h=>by unfold ia at h;simp at h;exact⟨a,b,rfl,rfl,h.symm⟩
 |a::as,b::bs,i+1,d,h=>by
  unfold ia at h;obtain⟨x,y,h1,h2,h3⟩:=qv as bs i d (by simpa using h);exact⟨x,y,by simpa using h1,by simpa using h2,h3⟩
theorem qw:∀(l m:List D),(ia l m).length=min l.length m.length
 | [],_=>by unfold ia;simp
 |_::_,[]=>by unfold ia;simp
 |a::as,b::bs=>by unfold ia;rw[length_cons,length_cons,length_cons,qw];omega
theorem y_ {K:W.Frag}{G:Hp}{a b:Addr}{xs ys:List V}{ds es:List D}(sq:LsS K G a xs)(rl:RepL K G ds xs)(sq':LsS K G b ys)(rl':RepL K G es ys):xo K (Dc a b) (ia ds es) G:=by
 intro G2 H2 g1 g2 i;have s2:=g2 _ _ (g1 _ _ sq.h);have s2':=g2 _ _ (g1 _ _ sq'.h);refine⟨fun d hd=>?_,fun hl=>⟨xs,ys,s2,s2',by rw[qw,rl.length,rl'.length]at hl;omega⟩⟩;obtain⟨d1,d2,q1,q2,e⟩:=qv _ _ _ _ hd;subst e;obtain⟨v,hv,rv⟩:=rl.get q1;obtain⟨v',hv',rv'⟩:=rl'.get q2;refine⟨⟨xs,ys,v,v',s2,s2',hv,hv'⟩,fun y H' hZ151=>?_⟩;obtain⟨p,z,z',hp,e1,e2,h,h'⟩:=hZ151;subst e1 e2;have q:=h xs s2;rw[hv]at q;cases q;have q:=h' ys s2';rw[hv']at q;cases q;have x:=Ext.new g2 hp (.tup [v,v']);exact⟨_,x,rep_tup.mpr ⟨p,_,rfl,.of ao,.cons (rv.mono (g1.trans x.gg)) (.cons (rv'.mono (g1.trans x.gg)) .nil)⟩⟩
noncomputable def qu:List D→Res (List D)
 | [.lst l,.lst m]=>.ok (ia l m)
 |_=>.bad
theorem oj {a b:Expr}{p pos:Pos}{fs:DS→Res (List D)}(hg:Gl X "zip")(hm:X.mg "zip" =none)(ha:kE X E [a,b] fs)(hs:starEach [a,b] X.env=[(false,eval a X.env),(false,eval b X.env)]:=by rfl)(hs2:starEach [b] X.env=[(false,eval b X.env)]:=by rfl):PI X (.Tuple elts x1 tp) (.Call (.Name "zip" p) [a,b] [] pos) (tDI X.K E (fun ρ=>(fs ρ).bind qu)):=by
 intro pins s σ H R I hZ21;obtain⟨G,ρ,hsm,hro,ho,k⟩:=hZ21;refine Bl hg hm (iy ha) hs hs2 pins s σ H R I ⟨G,ρ,hsm,hro,ho.fst,fun ds e vs G1 H1 x1 p1=>?_⟩;have kk:=ho.snd e x1.hh;unfold qu at kk;split at kk
 ·rename_i l m;obtain⟨v,r,rfl,rv,r0⟩:=p1.inv;obtain⟨v',r',rfl,rv',r0'⟩:=r0.inv;rw[r0'.inv0];rw[rep_lst]at rv rv';obtain⟨b1,xs,rfl,sq,rl⟩:=rv;obtain⟨b2,ys,rfl,sq',rl'⟩:=rv';exact⟨b1,b2,rfl,⟨xs,x1.gh _ _ sq.h⟩,⟨ys,x1.gh _ _ sq'.h⟩,k _ (al e rfl) _ G1 H1 x1 (y_ sq rl sq' rl')⟩
 ·exact kk.elim
end
inductive tN (K:W.Frag)(E:XK)(n:Nat)(f:DS→Res D)(σ:St)(H:Hp)(Q:VK):Prop
 |mk (G:Hp) (ρ:DS) (s:Same G H) (r:Ro K G σ ρ) (o:OkR E H (f ρ)) (k:∀d,f ρ= .ok d→∀v G' H' S,Ext G H G' H'→Ow K G' H' n d v S→New H G' S→Q v H')
noncomputable def TN (K:W.Frag)(E:XK)(n:Nat)(f:DS→Res D)(te:TE):Prop:=
 ∀(σ:St) (G H:Hp) (ρ:DS) (Q:VK),Same G H→Ro K G σ ρ→OkR E H (f ρ)→(∀d,f ρ= .ok d→∀v G' H' S,Ext G H G' H'→Ow K G' H' n d v S→New H G' S→Q v H')→te σ H Q
theorem Ext.hnew {G H G' H':Hp}{p:Addr}(x:Ext G H G' H')(hp:H' p=none)(o:HO):Ext G H G' (aS H' p o):=
 ⟨fun b u e=>by rw[ai (ap (x.hh b u e) hp)];exact x.hh b u e,x.gg,fun b u e=>by rw[ai (ap (x.gh b u e) hp)];exact x.gh b u e,x.nw⟩
theorem New.step {H G2 H2 G3 H3:Hp}{S:List Addr}(w:New H G2 S)(hc:∀a∈S,∃o,H2 a=some o∧¬nV o)(x:Ext G2 H2 G3 H3):New H G3 S:=⟨w.1,fun a ha=>⟨(w.2 a ha).1,by
 cases q:G3 a with
 |none=>rfl
 |some o=>
  rcases x.nw a o q with z|z
  ·rw[(w.2 a ha).2]at z;cases z
  ·obtain⟨o',h,hk⟩:=hc a ha
   rcases z with z|z
   ·rw[z]at h;cases h
   ·have h2:=x.gh a o q;rw[x.hh a _ h]at h2;cases h2;exact(hk z).elim⟩⟩
theorem New.join {H H2 G:Hp}{S T:List Addr}(w:New H G S)(w':New H2 G T)(hc:∀a∈S,∃o,H2 a=some o∧¬nV o)(sh:Same H H2):New H G (S ++ T):=by
 refine⟨nodup_append.mpr ⟨w.1,w'.1,fun a ha b hb e=>?_⟩,fun a ha=>?_⟩
 ·subst e;obtain⟨o,h,_⟩:=hc a ha;rw[(w'.2 a hb).1]at h;cases h
 ·rcases mem_append.mp ha with z|z
  ·exact w.2 a z
  ·exact⟨sh.free (w'.2 a z).1,(w'.2 a z).2⟩
theorem AllW.has {K:W.Frag}{G H:Hp}{n:Nat}{ds:List D}{vs:List V}{S:List Addr}(h:AllW (Ow K G H n) ds vs S):∀a∈S,∃o,H a=some o∧¬nV o:=h.cell fun d v A q a ha=>let ⟨o,e,c⟩:=q.cell a ha;⟨o,e,c.nokey⟩
section
variable{X:Cx}{E:XK}{μ:List Nat}{r n:Nat}
theorem Bi {e:Expr}{f:DS→Res D}(h:PN X E n e f):PE X e (tN X.K E n f):=by
 intro pins s σ H Q I hZ22;obtain⟨G,ρ,hs,hr,ho,k⟩:=hZ22;exact aE (h pins s σ G H ρ I hs hr ho) fun u s' hZ152=>(by obtain⟨d,e,v,G',H',S,I',rv,x,o,w⟩:=hZ152;exact⟨v,H',I',rv,k d e v G' H' S x o w⟩)
theorem PN.tn {e:Expr}{f:DS→Res D}{te:TE}(h:PE X e te)(t:TN X.K E n f te):PN X E n e f:=by
 intro pins s σ G H ρ I hs hr ho;refine aE (h pins s σ H (fun v H'=>∃d G' S,f ρ= .ok d∧Ext G H G' H'∧Ow X.K G' H' n d v S∧New H G' S) I (t σ G H ρ _ hs hr ho fun d e v G' H' S x o w=>⟨d,G',S,e,x,o,w⟩)) fun u s' hZ153=>(by obtain⟨v,H',I',rv,d,G',S,e,x,o,w⟩:=hZ153;exact⟨d,e,v,G',H',S,I',rv,x,o,w⟩)
theorem A7 {K:W.Frag}{G G' H H':Hp}{p:Addr}{ds:List D}{vs:List V}(x:Ext G H G' H')(hp:H' p=none)(rl:RepL K G' ds vs):Ext G H G' (aS H' p (.lst vs))∧Ow K G' (aS H' p (.lst vs)) 1 (.lst ds) (.ref p) [p]∧New H G' [p]:=by
 refine⟨x.hnew hp _,⟨p,vs,[],rfl,ao,rfl,?_⟩,⟨nodup_cons.mpr ⟨not_mem_nil,nodup_nil⟩,fun a ha=>?_⟩⟩
 ·have go:∀{ds:List D} {vs:List V},RepL K G' ds vs→AllW (Ow K G' (aS H' p (.lst vs)) 0) ds vs []:=by
   intro ds
   induction ds with
   |nil=>intro vs h;exact⟨h.inv0,rfl⟩
   |cons d ds ih=>
    intro vs h;obtain⟨v,q,rfl,h1,h2⟩:=h.inv;refine⟨v,q,[],[],rfl,rfl,⟨rfl,h1⟩,(ih h2).mono fun d v A _ _ z=>?_⟩;exact z
  exact(go rl).mono fun d v A _ _ z=>z
 ·have e:a=p:=by simpa using ha
  subst e;exact⟨x.hh.free hp,by
   cases q:G' a with
   |none=>rfl
   |some o=>rw[x.gh a o q]at hp;cases hp⟩
theorem wo {es:List Expr}{pos:Pos}{f:DS→Res (List D)}(h:kE X E es f):PN X E 1 (.List es pos) (bT f):=by
 refine .tn (v8 (iy h)) fun σ G H ρ Q hs hro ho k=>⟨G,ρ,hs,hro,ho.fst,fun ds e vs G1 H1 x1 r1=>?_⟩;have kk:=ho.snd e x1.hh;by_cases hl:aF ds.length=true
 ·refine⟨by rw[←r1.length];exact bc hl,fun p hp=>?_⟩;obtain⟨x,o,w⟩:=A7 x1 hp r1;exact k (.lst ds) (al e (if_pos hl)) _ _ _ _ x o w
 ·rw[if_neg hl]at kk;exact kk.elim
theorem yR {CX:oR}{k:Nat}{f:Addr}{fd:FuncData}{ps:List Str}{m:List D→Res D}{x:Str}{p pos:Pos}{e:Expr}{es:List Expr}{fs:DS→Res (List D)}(F:FnOk X.prog X.w X.K X.mg X.base CX k f fd ps (freshSp X.K n m))(hr:Room k X.A)(hg:Gl X x)(hm:X.mg x=some (.ref f))(hk:W.keepIn X.K (.ref f)=true)(hb:Binds X.K fd ps [])(hx:bZ CX X E)
  (ha:kE X E (e::es) fs) (hdb:(x==("__debug__" :Str))=false:=by decide) (he:starEach (e::es) X.env=(false,eval e X.env)::starEach es X.env:=by rfl) (hpl:(backTo pos (starEach es X.env)).any (·.1)=false:=by rfl) :
  PN X E n (.Call (.Name x p) (e::es) [] pos) (bn fs m):=
 .tn (yE F hr hg hm hk hb .nil hx (iy ha) hdb he hpl) fun σ G H ρ Q hs hro ho k=>⟨G,ρ,hs,hro,ho.fst,fun ds e1 vs G1 H1 x1 p1=>⟨ds,G1,x1.gh,by rw[append_nil];exact p1,ho.snd e1 x1.hh,fun d ed v G' H' S xx o w=>k d (al e1 ed) v G' H' S (x1.trans xx) o ⟨w.1,fun a ha=>⟨x1.hh.free (w.2 a ha).1,(w.2 a ha).2⟩⟩⟩⟩
theorem PZ.zero {e:Expr}{f:DS→Res D}(h:PZ X E μ n e f):PZ X E μ 0 e f:=by
 intro pins s σ Ge B G H ρ fp I R ho;refine aE (h pins s σ Ge B G H ρ fp I R ho) fun u s' hZ154=>?_;obtain⟨d,e,v,x,J,S,I',rv,t,sg,sh,o,w⟩:=hZ154;have dec:∀b,Decidable (b∈S):=fun b=>Classical.propDecidable _;have W:Same x (fun b=>if b∈S then J b else x b):=fun b u e=>by
  show (if b∈S then J b else x b)=some u
  by_cases q:b∈S
  ·rw[(w.2 b q).2]at e;cases e
  ·rw[if_neg q];exact e
 have rp:Rep X.K (fun b=>if b∈S then J b else x b) d v:=o.rep W fun a ha u e=>by
  show (if a∈S then J a else x a)=some u
  rw[if_pos ha];exact e
 refine⟨d,e,v,fun b=>if b∈S then J b else x b,J,[],I',rv,⟨fun b u e=>?_,t.eg.trans W,t.bh,fun b u e=>?_,fun i a e=>?_,t.ob,t.oc,t.nd,t.dj,fun i d e=>?_⟩,sg.trans W,sh,⟨rfl,rp⟩,.nil⟩
 ·have e:(if b∈S then J b else x b)=some u:=e
  by_cases q:b∈S
  ·rw[if_pos q]at e;exact e
  ·rw[if_neg q]at e;exact t.gh b u e
 ·have e:(if b∈S then J b else x b)=some u:=e
  by_cases q:b∈S
  ·exact .inr (.inl (R.bh.free (w.2 b q).1))
  ·rw[if_neg q]at e;exact t.nw b u e
 ·show (if a∈S then J a else x a)=none
  rw[if_neg (fun z=>R.apart w i a z e)];exact t.gf i a e
 ·obtain⟨v,hv,hh⟩:=t.sl i d e;exact⟨v,hv,hh.mono W fun a _ o eo=>eo⟩
theorem iO {ρ:DS}:f8 [] ρ=ρ:=by
 unfold f8;apply ext_getElem?;intro i;rw[List.getElem?_mapIdx];cases ρ[i]? <;> simp
theorem av {e:Expr}{f:DS→Res D}(h:PN X E n e f):PZ X E [] n e f:=by
 have:=bx (μ:=[]) h;unfold k8 at this;simp only[iO]at this;exact this
theorem lJ {tg iter:Expr}{fi:DS→Res (List D)}(h:PI X tg iter (tDI X.K E fi)):PI X tg iter (tZI X.K E [] fi):=by
 have:=eC (μ:=[]) h;unfold xj at this;simp only[iO]at this;exact this
theorem yP {st:Stmt}{i:Nat}{x:Str}{te:TE}{f:DS→Res D}(hi:X.N[i]?=some x)(hps:PS X st (rB te (bw i)))(t:TN X.K E n f te)(hm:μ.getD i 0=n):lL X E μ r st (aN i (k8 μ f)):=by
 intro pins s σ Ge B G H ρ fp I R ho;have hiσ:i<σ.length:=by rw[I.len];exact(jj hi).1
 refine aE (hps pins s σ H {nx:=fun σ' H'=>∃d v G' S,k8 μ f ρ= .ok d∧σ'=σ.set i (some v)∧Rw X.K μ Ge B G' H' σ ρ fp∧Same G G'∧Ow X.K G' H' n d v S∧New H G' S,bk:=fun _ _=>False,ct:=fun _ _=>False,rt:=fun _ _=>False} I (t σ G H (f8 μ ρ) _ R.gh R.rof (ho.res.le R.bh) fun d e v G' H' S x o w=>⟨d,v,G',S,e,rfl,R.growF x,x.gg,o,w⟩)) fun fl s1 q=>?_
 ·cases fl with
  |next=>
   obtain⟨σ',H',I',d,v,G',S,e,e2,R',sg,o,w⟩:=q;subst e2;rw[←hm]at o;exact⟨_,_,G',H',_,b_ e,I',R'.put hiσ o w.1 (fun a ha=>⟨(w.2 a ha).2,R.bh.free (w.2 a ha).1⟩) (fun j _=>R.apart w j),sg⟩
  |brk=>obtain⟨_,_,_,q⟩:=q;exact q.elim
  |cont=>obtain⟨_,_,_,q⟩:=q;exact q.elim
  |ret u=>obtain⟨_,_,_,_,_,q⟩:=q;exact q.elim
end
theorem TN.freeze {K:W.Frag}{E:XK}{n:Nat}{f:DS→Res D}{te:TE}(t:TN K E n f te):TN K E 0 f te:=fun σ G H ρ Q hs hr ho k=>t σ G H ρ Q hs hr ho fun d e v G' H' S x o w=>by
 obtain⟨G2,x2,_,rp⟩:=x.freeze hs w o;exact k d e v G2 H' [] x2 ⟨rfl,rp⟩ .nil
noncomputable def GC (K:W.Frag)(n:Nat)(g:TG)(asg:D→DS→Option DS):Prop:=
 ∀(G H:Hp) (σ:St) (ρ ρ':DS) (v:V) (d:D),σ.length=n→Same G H→Ro K G σ ρ→Rep K G d v→asg d ρ=some ρ'→g v σ H fun σ' H'=>H'=H∧Ro K G σ' ρ'
theorem sf {K:W.Frag}{n j:Nat}(hj:j<n):GC K n (bw j) (b8 j):=by
 intro G H σ ρ ρ' v d hl hs R h e;cases e;exact⟨rfl,R.set (by rw[hl];exact hj) h⟩
theorem AA {K:W.Frag}{n j k:Nat}(hj:j<n)(hk:k<n):GC K n (tK K 2 (gw (bw j) (gw (bw k) tJ))) (dZ j k):=by
 intro G H σ ρ ρ' v d hl hs R h e;unfold dZ at e;split at e
 ·rename_i a b;cases e;rw[rep_tup]at h;obtain⟨p,xs,rfl,t,rl⟩:=h;obtain⟨x,q,rfl,rx,rl⟩:=rl.inv;obtain⟨y,q,rfl,ry,rl⟩:=rl.inv;have:=rl.inv0;subst this;have R2:=(R.set (j:=j) (by rw[hl];exact hj) rx).set (j:=k) (by rw[length_set,hl];exact hk) ry;exact⟨p,[x,y],rfl,(show TpS K H p _ from ⟨hs _ _ t.h⟩).sq,rfl,x,[y],rfl,y,[],rfl,rfl,rfl,R2⟩
 ·cases e
theorem p_ {K:W.Frag}{caps:List (Option Nat)}{i j:Nat}(hi:caps[i]?=some none)(hj:caps[j]?=some none):iF caps (tK K 2 (gw (bw i) (gw (bw j) tJ))):=fun x σ0 H Q q=>by
 obtain⟨a,xs,e1,sq,hl,v1,r1,e2,v2,r2,e3,e4,q⟩:=q;refine⟨a,xs,e1,sq,hl,v1,r1,e2,v2,r2,e3,e4,q,by simp,fun k m v hk hv=>?_⟩;have n1:k≠i:=fun z=>by rw[z,hi]at hk;cases hk
 have n2:k≠j:=fun z=>by rw[z,hj]at hk;cases hk
 rw[getElem?_set_ne (Ne.symm n2),getElem?_set_ne (Ne.symm n1)];exact hv
noncomputable def lK {α:Type}(asg:D→DS→Option DS)(ρ:DS)(f:DS→Res α)(d:D):Res α:=match asg d ρ with
 |some ρ'=>f ρ'
 |none=>.bad
noncomputable def a9 (fi:DS→Res (List D))(caps:List (Option Nat))(asg:D→DS→Option DS)(ft:DS→Res Bool)(fe:DS→Res D):DS→Res D:=fun ρ=>(fi ρ).bind fun ds=>if aF ds.length=true then
 (aX (lK asg (cY caps ρ) ft) (lK asg (cY caps ρ) fe) ds).bind fun es=>.ok (.lst es) else .bad
theorem jv {t:D→Res Bool}{f:D→Res D}{c:Addr}:∀(l:List D),aX t f l≠ .exc c
 | []=>fun z=>by unfold aX at z;cases z
 |a::as=>fun z=>by
  unfold aX at z;split at z
  ·split at z
   ·cases q:aX t f as with
    |bad=>rw[q]at z;cases z
    |ok x=>rw[q]at z;cases z
    |exc c'=>rw[q]at z;have z':Res.exc c'=Res.exc c:=z;cases z';exact jv as q
   ·cases z
  ·exact jv as z
  ·cases z
theorem fI {t:D→Res Bool}{f:D→Res D}{d:D}{o:List D}(hd:aX t f [d]= .ok o):∀{as es:List D},aX t f as= .ok es→aX t f (as ++ [d])= .ok (es ++ o)
 | [],es,h=>by unfold aX at h;cases h;exact hd
 |a::as,es,h=>by
  rw[List.cons_append];unfold aX at h ⊢;split at h
  ·rename_i ha;split at h
   ·rename_i e0 hf;cases q:aX t f as with
    |bad=>rw[q]at h;cases h
    |exc c=>rw[q]at h;cases h
    |ok e2=>
     rw[q]at h;have h':Res.ok (e0::e2)=Res.ok es:=h;cases h';rw[fI hd q];rfl
   ·cases h
  ·exact fI hd h
  ·cases h
section
variable{X:Cx}{E:XK}{n:Nat}
theorem oK {K:W.Frag}{caps:List (Option Nat)}{g:TG}{asg:D→DS→Option DS}{fi:DS→Res (List D)}{ft:DS→Res Bool}{fe:DS→Res D}(hg:GC K caps.length g asg)(hgm:∀x σ H (Q Q':St→Hp→Prop),(∀σ' H',Q σ' H'→Q' σ' H')→g x σ H Q→g x σ H Q') :
  TN K E (n+1) (a9 fi caps asg ft fe) (wZ (tDI K E fi) caps g (tDT K jl ft) (tN K jl n fe)):=by
 intro σ G H h Q hs hro ho k;refine⟨G,h,hs,hro,ho.fst,fun X e J G1 H1 x1 src=>?_⟩;have kk:=ho.snd e x1.hh;by_cases hl:aF X.length=true
 ·rw[if_pos hl]at kk;cases hm:aX (lK asg (cY caps h) ft) (lK asg (cY caps h) fe) X with
  |bad=>rw[hm]at kk;exact kk.elim
  |exc c=>exact absurd hm (jv X)
  |ok es=>
   have hres:a9 fi caps asg ft fe h= .ok (.lst es):=al e (by rw[if_pos hl];exact al hm rfl);refine⟨fun i m ys H2=>m=X.length-i∧i≤X.length∧∃I u S,Ext G1 H1 I H2∧aX (lK asg (cY caps h) ft) (lK asg (cY caps h) fe) (X.take i)= .ok u∧AllW (Ow K I H2 n) u ys S∧New H1 I S,
    ⟨_,rfl,zero_le _,G1,[],[],.refl x1.gh,rfl,⟨rfl,rfl⟩,.nil⟩,?_⟩
   intro i m ys H2 hZ23;obtain⟨rfl,hi,I,u,S,x2,w,L,w1⟩:=hZ23;have hlen:ys.length≤sizeLine:=by
    have h1:=jw w;rw[length_take]at h1;have h2:=bc hl;rw[←L.length];omega
   obtain⟨sg,ss⟩:=src I H2 x2.gg x2.gh i;by_cases hlt:i<X.length
   ·obtain⟨go,yl⟩:=sg X[i] (by simp[hlt]);have j:X=X.take i ++ (X[i]::X.drop (i+1)):=by rw[List.getElem_cons_drop,List.take_append_drop]
    refine .inr ⟨go,fun ys' H'=>∃I u S,Ext G1 H1 I H'∧aX (lK asg (cY caps h) ft) (lK asg (cY caps h) fe) (X.take (i+1))= .ok u∧AllW (Ow K I H' n) u ys' S∧New H1 I S,fun ys' H' hZ155=>(by obtain⟨G3,es3,S3,a,b,c,d⟩:=hZ155;exact⟨X.length-(i+1),by omega,rfl,hlt,G3,es3,S3,a,b,c,d⟩),fun x H' hy=>?_⟩;obtain⟨G3,x3,rx⟩:=yl x H' hy;have htk:X.take (i+1)=X.take i ++ [X[i]]:=by rw[List.take_add_one];simp[hlt]
    have hm2:=hm;rw[j]at hm2;obtain⟨ea,eb,q1,C,q3⟩:=ju hm2;rw[w]at q1;cases q1;have hcl:(dJ caps σ).length=caps.length:=by simp[dJ]
    unfold aX at C;have ht0:∃b,lK asg (cY caps h) ft X[i]= .ok b:=by
     cases F:lK asg (cY caps h) ft X[i] with
     |bad=>rw[F]at C;cases C
     |exc c=>rw[F]at C;cases C
     |ok b=>exact⟨b,rfl⟩
    obtain⟨b,F⟩:=ht0;rw[F]at C;cases qa:asg X[i] (cY caps h) with
    |none=>unfold lK at F;rw[qa]at F;cases F
    |some B=>
    have ht2:ft B= .ok b:=by unfold lK at F;rw[qa]at F;exact F
    refine hgm _ _ _ _ _ (fun σ2 H3 hZ156=>?_) (hg G3 H' _ _ B x X[i] hcl x3.gh (xA (hro.mono ((x1.gg.trans x2.gg).trans x3.gg))) rx qa);obtain⟨e3,ro3⟩:=hZ156;subst e3;refine⟨G3,B,x3.gh,ro3,by rw[ht2];trivial,fun b' eb' G4 H4 x4=>?_⟩;rw[ht2]at eb';cases eb';have x24:=(x2.trans x3).trans x4;have M:=x3.trans x4;have N:AllW (Ow K G4 H4 n) u ys S:=L.mono fun d v A _ _ z=>z.mono M.gg fun a _ o eo=>M.hh a o eo;have w4:New H1 G4 S:=w1.step L.has M;cases b with
    |false=>
     rw[if_neg Bool.false_ne_true];refine⟨G4,u,S,x24,?_,N,w4⟩;rw[htk];have:=fI (t:=lK asg (cY caps h) ft) (f:=lK asg (cY caps h) fe) (d:=X[i]) (o:=[]) (by unfold aX;rw[F];rfl) w;rw[append_nil]at this;exact this
    |true=>
     rw[if_pos rfl];dsimp only at C;have fe2:lK asg (cY caps h) fe X[i]=fe B:=by unfold lK;rw[qa]
     refine⟨hlen,G4,B,x4.gh,ro3.mono x4.gg,?_,fun y ey v G5 H5 S5 x5 ry w5=>?_⟩
     ·rw[fe2]at C;cases hf:fe B with
      |ok y=>trivial
      |exc c=>rw[hf]at C;cases C
      |bad=>rw[hf]at C;cases C
     ·refine⟨G5,u ++ [y],S ++ S5,x24.trans x5,?_,(N.mono fun d v A _ _ z=>z.mono x5.gg fun a _ o eo=>x5.hh a o eo).append (.one ry),(w4.step N.has x5).join w5 N.has (x2.hh.trans M.hh)⟩;rw[htk];exact fI (by unfold aX;rw[F,fe2,ey];rfl) w
   ·have hie:i=X.length:=by omega
    subst hie;rw[List.take_length,hm]at w;cases w;refine .inl ⟨ss (le_refl _),hlen,fun p hp=>?_⟩;have x12:=x1.trans x2;refine k _ hres (.ref p) I _ (p::S) (x12.hnew hp _) ⟨p,ys,S,rfl,ao,rfl,L.mono fun d v A _ hA z=>z.mono (.refl _) fun a ha o eo=>by rw[ai (ap eo hp)];exact eo⟩ ⟨nodup_cons.mpr ⟨fun z=>?_,w1.1⟩,fun a ha=>?_⟩
    ·obtain⟨o,ho,_⟩:=L.has p z;rw[hp]at ho;cases ho
    ·rcases mem_cons.mp ha with z|z
     ·subst z;exact⟨x12.hh.free hp,by
       cases q:I a with
       |none=>rfl
       |some o=>rw[x2.gh a o q]at hp;cases hp⟩
     ·exact⟨x1.hh.free (w1.2 a z).1,(w1.2 a z).2⟩
 ·rw[if_neg hl]at kk;exact kk.elim
theorem sj {j:Nat}:∀x σ H (Q Q':St→Hp→Prop),(∀σ' H',Q σ' H'→Q' σ' H')→bw j x σ H Q→bw j x σ H Q':=fun _ _ _ _ _ k h=>k _ _ h
theorem AD {K:W.Frag}{j i:Nat}:∀x σ H (Q Q':St→Hp→Prop),(∀σ' H',Q σ' H'→Q' σ' H')→tK K 2 (gw (bw j) (gw (bw i) tJ)) x σ H Q→tK K 2 (gw (bw j) (gw (bw i) tJ)) x σ H Q':=fun _ _ _ _ _ k h=>by
 obtain⟨a,xs,e1,sq,hl,v1,r1,e2,v2,r2,e3,e4,q⟩:=h;exact⟨a,xs,e1,sq,hl,v1,r1,e2,v2,r2,e3,e4,k _ _ q⟩
theorem ez {elt iter:Expr}{ifs:List Expr}{x:Str}{px pos:Pos}{scope:Scope}{N:List Str}{caps:List (Option Nat)}{j:Nat}{fi:DS→Res (List D)}{ft:DS→Res Bool}{fe:DS→Res D}(hc:X.calm=true)(S:CompSc X scope N caps)(hjN:N[j]?=some x)(hjc:caps[j]?=some none)(hjl:rM scope x)
  (hi:PI X (.Name x px) iter (tDI X.K E fi)) (ht:∀s H C ex,uz (X.comp s H scope C N ex) jl ifs ft) (he:∀s H C ex,PN (X.comp s H scope C N ex) jl n elt fe)
  (hs:∀x,foldedSetIterable iter X.env x=pure x:=by intro _;rfl):PN X E (n+1) (.ListComp elt [⟨.Name x px,iter,ifs,0⟩] scope pos) (a9 fi caps (b8 j) ft fe):=
 have hlb:=eA (env:=X.env) hjl
 .tn (yF (pos:=pos) (te:=tN X.K jl n fe) (tc:=tDT X.K jl ft) hc S hi (fun s H C ex=>fP (X:=X.comp s H scope C N ex) (i:=j) S.nd hjN hlb.1 hlb.2) (iV hjc) (fun s H C ex=>ht s H C ex) (fun s H C ex=>Bi (he s H C ex)) hs)
  (oK (sf (jj hjc).1) sj)
theorem qg {elt iter:Expr}{ifs:List Expr}{x y:Str}{px py pos spos:Pos}{scope:Scope}{N:List Str}{caps:List (Option Nat)}{i j:Nat}{fi:DS→Res (List D)}{ft:DS→Res Bool}{fe:DS→Res D}(hN:X.N.Nodup)(hi:X.N[i]?=some y)(hy:X.env.scope.names.lookup y=some .local)(hc:X.calm=true)(S:CompSc X scope N caps)(hjN:N[j]?=some x)(hjc:caps[j]?=some none)(hjl:rM scope x)
  (hit:PI X (.Name x px) iter (tDI X.K E fi)) (ht:∀s H C ex,uz (X.comp s H scope C N ex) jl ifs ft) (he:∀s H C ex,PN (X.comp s H scope C N ex) jl n elt fe)
  (hsw:swapsWith (.ListComp elt [⟨.Name x px,iter,ifs,0⟩] scope pos) (some (.Name y py)) spos.line X.env=pure true:=by rfl)
  (hs:∀x,foldedSetIterable iter X.env x=pure x:=by intro _;rfl):∃te,PS X (.Assign [.Name y py] (.ListComp elt [⟨.Name x px,iter,ifs,0⟩] scope pos) spos) (rB te (bw i))∧TN X.K E (n+1) (a9 fi caps (b8 j) ft fe) te:=
 have hlb:=eA (env:=X.env) hjl
 ⟨_,lw (pos:=pos) (py:=py) (spos:=spos) (te:=tN X.K jl n fe) (tc:=tDT X.K jl ft) hN hi hy hc S hit (fun s H C ex=>fP (X:=X.comp s H scope C N ex) (i:=j) S.nd hjN hlb.1 hlb.2) (iV hjc) (fun s H C ex=>ht s H C ex) (fun s H C ex=>Bi (he s H C ex)) hsw hs,
  oK (sf (jj hjc).1) sj⟩
theorem wv {elt iter:Expr}{ifs:List Expr}{x z y:Str}{px pz pt py pos spos:Pos}{kt:Nat}{scope:Scope}{N:List Str}{caps:List (Option Nat)}{i j l:Nat}{fi:DS→Res (List D)}{ft:DS→Res Bool}{fe:DS→Res D}(hN:X.N.Nodup)(hi:X.N[i]?=some y)(hy:X.env.scope.names.lookup y=some .local)(hc:X.calm=true)(S:CompSc X scope N caps)(hjN:N[j]?=some x)(hlN:N[l]?=some z)(hjc:caps[j]?=some none)(hlc:caps[l]?=some none)(hjl:rM scope x)(hll:rM scope z)
  (hit:PI X (.Tuple [.Name x px,.Name z pz] kt pt) iter (tDI X.K E fi)) (ht:∀s H C ex,uz (X.comp s H scope C N ex) jl ifs ft) (he:∀s H C ex,PN (X.comp s H scope C N ex) jl n elt fe)
  (hsw:swapsWith (.ListComp elt [⟨.Tuple [.Name x px,.Name z pz] kt pt,iter,ifs,0⟩] scope pos) (some (.Name y py)) spos.line X.env=pure true:=by rfl)
  (hs:∀x,foldedSetIterable iter X.env x=pure x:=by intro _;rfl):∃te,PS X (.Assign [.Name y py] (.ListComp elt [⟨.Tuple [.Name x px,.Name z pz] kt pt,iter,ifs,0⟩] scope pos) spos) (rB te (bw i))∧TN X.K E (n+1) (a9 fi caps (dZ j l) ft fe) te:=
 have hlb:=eA (env:=X.env) hjl;have hlb':=eA (env:=X.env) hll
 ⟨_,lw (pos:=pos) (py:=py) (spos:=spos) (te:=tN X.K jl n fe) (tc:=tDT X.K jl ft) hN hi hy hc S hit (fun s H C ex=>wf (X:=X.comp s H scope C N ex) hc (i_ (fP (X:=X.comp s H scope C N ex) (i:=j) S.nd hjN hlb.1 hlb.2) (i_ (fP (X:=X.comp s H scope C N ex) (i:=l) S.nd hlN hlb'.1 hlb'.2) sC))) (p_ hjc hlc) (fun s H C ex=>ht s H C ex) (fun s H C ex=>Bi (he s H C ex)) hsw hs,
  oK (AA (jj hjc).1 (jj hlc).1) AD⟩
end
section
variable{K:W.Frag}{μ:List Nat}{Ge B G H:Hp}{σ:St}{ρ:DS}{fp:Nat→List Addr}{j n:Nat}
noncomputable def BI (B G:Hp)(fp:Nat→List Addr)(S:List Addr):Prop:=∀b∈S,(G b=none∧B b=none)∧∀i,b∉fp i
theorem mD {A A' L R:List Addr}(h:(L ++ A ++ R).Nodup)(nd:A'.Nodup)(hA:∀b∈A',b∈A∨(b∉L∧b∉R)):(L ++ A' ++ R).Nodup:=by
 obtain⟨h1,h2,h3⟩:=nodup_append.mp h;obtain⟨h4,h5,h6⟩:=nodup_append.mp h1;refine nodup_append.mpr ⟨nodup_append.mpr ⟨h4,nd,fun a ha b hb e=>?_⟩,h2,fun a ha b hb e=>?_⟩
 ·subst e
  rcases hA a hb with z|z
  ·exact h6 a ha a z rfl
  ·exact z.1 ha
 ·subst e
  rcases mem_append.mp ha with z|z
  ·exact h3 a (mem_append_left _ z) a hb rfl
  ·rcases hA a z with y|y
   ·exact h3 a (mem_append_right _ y) a hb rfl
   ·exact y.2 hb
theorem Rw.freshOf {H0 G0:Hp}{S:List Addr}(R:Rw K μ Ge B G H σ ρ fp)(w:New H0 G S)(R0:Rw K μ Ge B G0 H0 σ ρ fp):BI B G fp S:=fun b hb=>⟨⟨(w.2 b hb).2,R0.bh.free (w.2 b hb).1⟩,fun i=>R0.apart w i b hb⟩
end
section
variable{X:Cx}{E:XK}{μ:List Nat}{r n:Nat}
theorem pR {m:Nat}(h:aF m=true):m<sizeLine:=by
 have h6:sizeLine=16777216:=sizeLine_eq;have h7:m≤100000:=of_decide_eq_true h;omega
theorem New.keep {H G1 H1 G3 H3:Hp}{fp:Nat→List Addr}{S:List Addr}(w:New H G1 S)(hc:∀a∈S,∃o,H1 a=some o∧¬nV o)(ha:∀i,∀a∈S,a∉fp i)(x:Ext (lY fp G1 H1) H1 G3 H3):New H (mi (nO fp) G3) S:=⟨w.1,fun a h=>⟨(w.2 a h).1,by
 cases q:mi (nO fp) G3 a with
 |none=>rfl
 |some o=>
  obtain⟨q1,q2⟩:=iQ q
  rcases x.nw a o q2 with z|z
  ·rw[ky q1,(w.2 a h).2]at z;cases z
  ·obtain⟨o',h',hk⟩:=hc a h
   rcases z with z|z
   ·rw[z]at h';cases h'
   ·have h2:=x.gh a o q2;rw[x.hh a _ h']at h2;cases h2;exact(hk z).elim⟩⟩
end
section
variable{prog:Program}{w:World}{A:Around}{R:Result→Shared→Prop}{I S:Addr}{fp wr:List Addr}{n:Nat}{P:Nat→Value→Prop}{St:Nat→Heap→Prop}{C:Heap→Prop}
end
section
variable{prog:Program}{w:World}{A:Around}{E:Value→Shared→Prop}{s:Shared}
end
section
variable{X:Cx}{E:XK}
end
section
variable{prog:Program}{w:World}{A:Around}{E:Value→Shared→Prop}{s:Shared}
end
section
variable{X:Cx}{E:XK}
theorem qS {pins:List (Addr×Obj)}{σ:St}{H:Hp}{s:Shared}{vs:List Value}{out:List Value}{ys:List V}{Q:VK}(I:Inv X pins σ H s)(rv:Vals ys out)(hz:ys.length≤sizeLine)(q:∀p,H p=none→Q (.ref p) (aS H p (.lst ys))):EP X pins σ Q (.ref (s.heap.objs.size+1)) {s with heap:=sortedAll s.heap vs out.toArray}:=by
 obtain⟨e,he⟩:=sortedAll_at s.heap vs out.toArray;have hn:=I.hok.fresh (le_succ s.heap.objs.size);refine⟨.ref (s.heap.objs.size+1),_,I.laid (o:=.lst ys) (t':=s.toks) (fun b o q=>sortedAll_old q) (le_succ _) ⟨hz,out,e,rv,he⟩,rfl,q _ hn⟩
end
section
variable{X:Cx}{E:XK}{μ:List Nat}{r n:Nat}
noncomputable def Bw:D→Res Bool
 |.lst l=>.ok (!l.isEmpty)
 |.bl b=>.ok b
 |_=>.bad
theorem sw {e:Expr}{f:DS→Res D}(h:PD X E e f)(he:∀whole,isTrue e X.env whole=(do let v ←whole;standAt e.pos;holding [v] (truthy v)):=by intro _;rfl):rN X E e (fun ρ=>(f ρ).bind Bw):=by
 intro pins s σ G H ρ I hs hro ho;refine isTrue_plain (aE (h pins s σ G H ρ I hs hro ho.fst) fun v s1 hZ157=>?_) (he _);obtain⟨d,e,v3,G3,H3,I3,r3,x3,p3⟩:=hZ157;have k:=ho.snd e (Same.refl H);cases d with
 |bl b=>
  rw[rep_bl]at p3;subst p3;cases r3;exact wpAny_truthy_bool ⟨al e rfl,G3,H3,I3,x3⟩
 |lst l=>
  rw[rep_lst]at p3;obtain⟨a,xs,rfl,sq,rl⟩:=p3;cases r3;obtain⟨its,rv,pl,hz⟩:=I3.list (x3.gh.seq sq.sq);refine wpAny_truthy_list pl.isList (by rw[size_toArray,←rv.length];have:=sizeLine_eq;omega) ⟨al e ?_,G3,H3,I3.tok _,x3⟩;show Res.ok (!l.isEmpty)= .ok _;have h1:=rl.length;have h2:=rv.length;cases l with
  |nil=>
   cases its with
   |nil=>rfl
   |cons _ _=>simp at h1;rw[←h1]at h2;simp at h2
  |cons _ _=>
   cases its with
   |nil=>rw[←h1]at h2;simp at h2
   |cons _ _=>rfl
 |_=>exact k.elim
theorem vT {e:Expr}:PD X E e (fun _=>.bad):=fun _ _ _ _ _ _ _ _ _ ho=>ho.elim
theorem cz {st:Stmt}:lL X E μ r st (fun _=>.bad):=fun _ _ _ _ _ _ _ _ _ _ _ ho=>ho.elim
theorem dw {sts:List Stmt}:oQ X E μ r sts (fun _=>.bad):=fun _ _ _ _ _ _ _ _ _ _ _ ho=>ho.elim
end
noncomputable def eh (n:Nat)(N:List Str)(F:DS→Out):List D→Res D:=fun ds=>if ds.length=n then fO (F (au N ds)) else .bad
section
variable{P:Program}{w:World}{K:W.Frag}{mg:Str→Option Value}{base:Heap}
structure Cal (P:Program)(w:World)(K:W.Frag)(mg:Str→Option Value)(base:Heap)(x:Str)(k:Nat)(ps:List Str)(sp:Sp):Prop where
 ex:∃f fd,FnOk P w K mg base (CXF P w) k f fd ps sp∧Binds K fd ps []∧mg x=some (.ref f)∧W.keepIn K (.ref f)=true
structure Sta (K:W.Frag)(mg:Str→Option Value)(x:Str)(st:Stmt)(ps:List Str):Prop where
 ex:∃f fd,Fun K x x st f fd∧Binds K fd ps []∧mg x=some (.ref f)∧W.keepIn K (.ref f)=true
theorem Sta.cal {x:Str}{st:Stmt}{N ps:List Str}{k r n:Nat}{F:DS→Out}(S:Sta K mg x st ps)(sc:FnScope N ps (af st))(μ:List Nat)(hμ:∀i,i<ps.length→μ.getD i 0=0)(hn:ps.length=n)
  (hbody:∀(f:Addr) (cdv:Value) (A:Around) (outer:List Env) (s:Shared) (H:Hp) (E:XK),Room k (A.deeper (envOfC x (af st) s.heap.objs.size f cdv))→
   oQ (oS P w K mg base N x (af st) f cdv A outer s H E) E μ r (bv st) F):Cal P w K mg base x (k+1) ps (freshSp K r (eh n N F)):=by
 obtain⟨f,fd,hf,hb,hm,hk⟩:=S.ex;refine⟨f,fd,hf.fresh sc μ hμ (fun ds h=>?_) (fun cdv A outer s H E hr=>⟨F,hbody f cdv A outer s H E hr,fun ds h=>?_⟩),hb,hm,hk⟩
 ·unfold eh at h;split at h
  ·rename_i e;rw[e,hn]
  ·exact absurd rfl h
 ·unfold eh at h ⊢;split at h
  ·rename_i e;rw[if_pos e]
  ·exact absurd rfl h
end
section
variable{X:Cx}{E:XK}{n:Nat}
theorem ja {k j:Nat}{ps:List Str}{m:List D→Res D}{x:Str}{p pos:Pos}{e:Expr}{es:List Expr}{fs:DS→Res (List D)}(C:Cal X.prog X.w X.K X.mg X.base x k ps (freshSp X.K n m))(hr:Room j X.A)
  (ha:kE X E (e::es) fs) (hx:bZ (CXF X.prog X.w) X E:=by exact gn fun _ _ _ h=>h) (hkj:k≤j:=by decide) (hg:Gl X x:=by rfl) (hdb:(x==("__debug__" :Str))=false:=by decide) (he:starEach (e::es) X.env=(false,eval e X.env)::starEach es X.env:=by rfl) (hpl:(backTo pos (starEach es X.env)).any (·.1)=false:=by rfl) :
  PN X E n (.Call (.Name x p) (e::es) [] pos) (bn fs m):=by
 obtain⟨f,fd,F,hb,hm,hk⟩:=C.ex;exact yR F (hr.mono hkj) hg hm hk hb hx ha hdb he hpl
theorem aD {k j:Nat}{ps:List Str}{m:List D→Res D}{x:Str}{p pos:Pos}{e:Expr}{es:List Expr}{fs:DS→Res (List D)}(C:Cal X.prog X.w X.K X.mg X.base x k ps (freshSp X.K n m))(hr:Room j X.A)
  (ha:kE X E (e::es) fs) (hx:bZ (CXF X.prog X.w) X E:=by exact gn fun _ _ _ h=>h) (hkj:k≤j:=by decide) (hg:Gl X x:=by rfl) (hdb:(x==("__debug__" :Str))=false:=by decide) (he:starEach (e::es) X.env=(false,eval e X.env)::starEach es X.env:=by rfl) (hpl:(backTo pos (starEach es X.env)).any (·.1)=false:=by rfl) :
  PD X E (.Call (.Name x p) (e::es) [] pos) (bn fs m):=(ja C hr ha hx hkj hg hdb he hpl).pd
end
noncomputable def dI (so:Scope)(No:List Str)(scope:Scope):List Str→List (Option Nat)→Bool
 |x::N,some k::caps=>decide (scope.names.lookup x=some .free)&&decide (No[k]?=some x)&&(decide (so.names.lookup x=some .cell)||decide (so.names.lookup x=some .free))&&dI so No scope N caps
 |_::N,none::caps=>dI so No scope N caps
 | [],[]=>true
 |_,_=>false
theorem iq {so:Scope}{No:List Str}{scope:Scope}:∀{N:List Str} {caps:List (Option Nat)},dI so No scope N caps=true→caps.length=N.length
 | [],[],_=>rfl
 | [],_::_,h=>by unfold dI at h;cases h
 |_::_,[],h=>by unfold dI at h;cases h
 |x::N,none::caps,h=>by unfold dI at h;rw[length_cons,length_cons,iq h]
 |x::N,some k::caps,h=>by unfold dI at h;rw[and_eq_true]at h;rw[length_cons,length_cons,iq h.2]
theorem gZ {so:Scope}{No:List Str}{scope:Scope}:∀{N:List Str} {caps:List (Option Nat)} {j k:Nat} {x:Str},dI so No scope N caps=true→caps[j]?=some (some k)→N[j]?=some x→scope.names.lookup x=some .free∧No[k]?=some x∧(so.names.lookup x=some .cell∨so.names.lookup x=some .free)
 | [],[],j,k,x,_,h1,h2=>by simp at h1
 | [],_::_,j,k,x,h,h1,h2=>by simp at h2
 |_::_,[],j,k,x,h,h1,h2=>by simp at h1
 |y::N,none::caps,j,k,x,h,h1,h2=>by
  unfold dI at h;cases j with
  |zero=>simp at h1
  |succ j=>exact gZ h (by simpa using h1) (by simpa using h2)
 |y::N,some k0::caps,j,k,x,h,h1,h2=>by
  unfold dI at h;rw[and_eq_true,and_eq_true,and_eq_true,or_eq_true]at h;obtain⟨⟨⟨a,b⟩,c⟩,d⟩:=h;cases j with
  |zero=>
   simp at h1 h2;subst h1 h2;exact⟨of_decide_eq_true a,of_decide_eq_true b,c.imp of_decide_eq_true of_decide_eq_true⟩
  |succ j=>exact gZ d (by simpa using h1) (by simpa using h2)
noncomputable def rS (so:Scope)(No:List Str)(scope:Scope)(N:List Str)(caps:List (Option Nat)):Bool:=
 decide (scope.kind= .function)&&scope.names.all (fun y=>decide (scope.names.lookup y.1=some y.2))&&
  scope.names.all (fun y=>decide (y.2≠ .free)||(decide (so.names.lookup y.1=some .cell)||decide (so.names.lookup y.1=some .free)))&&decide N.Nodup&&dI so No scope N caps
theorem bE {X:Cx}{scope:Scope}{N:List Str}{caps:List (Option Nat)}(so:Scope)(No:List Str)(hso:X.env.scope=so)(hNo:X.N=No)(chk:rS so No scope N caps=true):CompSc X scope N caps:=by
 unfold rS at chk;simp only[and_eq_true]at chk;obtain⟨⟨⟨⟨a,b⟩,d⟩,e⟩,f⟩:=chk;have b2:∀(y:Str×NameKind) {k:NameKind},y∈scope.names→y.2=k→scope.names.lookup y.1=some k:=fun y k D C=>by rw[←C];exact of_decide_eq_true (all_eq_true.mp b y D)
 refine⟨of_decide_eq_true a,fun y D C=>b2 y D C,fun y D C=>b2 y D C,fun y D C=>b2 y D C,fun y D C=>?_,of_decide_eq_true e,iq f,fun j k x h1 h2=>(gZ f h1 h2).1,fun j k x h1 h2=>?_⟩
 ·have:=all_eq_true.mp d y D;rw[or_eq_true,or_eq_true]at this;rw[hso]
  rcases this with z|z|z
  ·exact absurd C (of_decide_eq_true z)
  ·exact .inl (of_decide_eq_true z)
  ·exact .inr (of_decide_eq_true z)
 ·obtain⟨_,h3,h4⟩:=gZ f h1 h2;rw[hso,hNo];exact⟨h3,h4⟩
noncomputable abbrev pN:DS→Res (List D):=fun _=>.ok []
noncomputable abbrev pC (f:DS→Res D)(g:DS→Res (List D)):DS→Res (List D):=fun ρ=>(f ρ).bind fun d=>(g ρ).bind fun ds=>.ok (d::ds)
noncomputable abbrev kI (i:Int):DS→Res D:=fun _=>.ok (.int i)
noncomputable abbrev kB (b:Bool):DS→Res D:=fun _=>.ok (.bl b)
noncomputable abbrev kS (x:Str):DS→Res D:=fun _=>.ok (.str x)
noncomputable abbrev c1 (f:DS→Res D)(m:List D→Res D):DS→Res D:=fun ρ=>(f ρ).bind fun a=>m [a]
section
variable{X:Cx}{E:XK}{μ:List Nat}{r n:Nat}
theorem Bm {st:Stmt}{i:Nat}{x:Str}{f:DS→Res D}(h:∃te,PS X st (rB te (bw i))∧TN X.K E n f te)(hi:X.N[i]?=some x)(hm:μ.getD i 0=0):lL X E μ r st (aN i (k8 μ f)):=
 let ⟨_,h1,h2⟩:=h;yP hi h1 h2.freeze hm
theorem wm {st:Stmt}{i:Nat}{x:Str}{f:DS→Res D}(h:∃te,PS X st (rB te (bw i))∧TN X.K E n f te)(hi:X.N[i]?=some x):lL X E [] r st (aN i f):=by
 have:=Bm (μ:=[]) (r:=r) h hi rfl;unfold k8 at this;simp only[iO]at this;exact this
noncomputable abbrev sL (f:DS→Res D):DS→Res (List D):=fun ρ=>(f ρ).bind y7
noncomputable abbrev sT (f:DS→Res D):DS→Res (List D):=fun ρ=>(f ρ).bind Bx
noncomputable abbrev sR1 (fs:DS→Res (List D)):DS→Res (List D):=fun ρ=>(fs ρ).bind rg
noncomputable abbrev sR2 (fs:DS→Res (List D)):DS→Res (List D):=fun ρ=>(fs ρ).bind wJ
noncomputable abbrev sE (fs:DS→Res (List D)):DS→Res (List D):=fun ρ=>(fs ρ).bind pj
noncomputable abbrev sZ (fs:DS→Res (List D)):DS→Res (List D):=fun ρ=>(fs ρ).bind qu
noncomputable abbrev oI (f:DS→Res D):DS→Res (Option Int):=fun ρ=>(f ρ).bind Dh
noncomputable abbrev oN:DS→Res (Option Int):=fun _=>.ok none
noncomputable abbrev tR (f:DS→Res D):DS→Res Bool:=fun ρ=>(f ρ).bind Bw
noncomputable abbrev nG (f:DS→Res D):DS→Res D:=fun ρ=>(f ρ).bind AW
noncomputable abbrev yes:DS→Res Bool:=fun _=>.ok true
noncomputable abbrev bad1:DS→Out:=fun _=>.bad
noncomputable abbrev nxt:DS→Out:=fun ρ=>.nx ρ
end
structure CalM (P:Program)(w:World)(K:W.Frag)(mg:Str→Option Value)(base:Heap)(C:Addr)(m:Str)(k:Nat)(g:List D→Res D):Prop where
 cl:Cls K C
 ex:∃f fd,Meth K C m f∧FnOk P w K mg base (CXF P w) k f fd ["self"] (pureSp K g)∧Binds K fd ["self"] []
structure CalI (P:Program)(w:World)(K:W.Frag)(mg:Str→Option Value)(base:Heap)(x:Str)(C:Addr)(k:Nat)(ps:List Str)(m:List D→Res D):Prop where
 of:zL C m
 mgx:mg x=some (.ref C)
 ex:∃f fd,Mk K C f∧FnOk P w K mg base (CXF P w) k f fd ps (nP K C m)∧Binds K fd ps []
section
variable{X:Cx}{E:XK}
theorem qb {pl:Sem Bool}{k j:Nat}{C:Addr}{g:List D→Res D}{m:Str}{apos pos:Pos}{o:Expr}{fo:DS→Res D}(M:CalM X.prog X.w X.K X.mg X.base C m k g)(hr:Room j X.A)(hoo:PD X E o fo)
  (hx:bZ (CXF X.prog X.w) X E:=by exact gn fun _ _ _ h=>h) (hkj:k≤j:=by decide)
  (ht:eval (.Call (.Attribute o m apos) [] [] pos) X.env=(do
   let ov ←eval o X.env
   standAt apos.atName
   let (f,first) ←holding [ov] (getMethod ov m pl)
   callWith pos f first (backTo pos (starEach [] X.env)) (backToKw pos (keywordEach [] X.env))):=by rfl):PD X E (.Call (.Attribute o m apos) [] [] pos) (ie C m fo g):=by
 obtain⟨f,fd,hm,F,hb⟩:=M.ex;exact CG hoo M.cl hm F (hr.mono hkj) hb hx ht
theorem vS {k j:Nat}{C:Addr}{ps:List Str}{m:List D→Res D}{x:Str}{p pos:Pos}{e:Expr}{es:List Expr}{fs:DS→Res (List D)}(M:CalI X.prog X.w X.K X.mg X.base x C k ps m)(hr:Room j X.A)(ha:kE X E (e::es) fs)
  (hx:bZ (CXF X.prog X.w) X E:=by exact gn fun _ _ _ h=>h) (hkj:k+1≤j:=by decide) (hg:Gl X x:=by rfl) (hdb:(x==("__debug__" :Str))=false:=by decide)
  (he:starEach (e::es) X.env=(false,eval e X.env)::starEach es X.env:=by rfl) (hpl:(backTo pos (starEach es X.env)).any (·.1)=false:=by rfl):PD X E (.Call (.Name x p) (e::es) [] pos) (bn fs m):=by
 obtain⟨f,fd,mk,F,hb⟩:=M.ex;exact yy mk F M.of (hr.mono hkj) hg M.mgx hb hx ha fun t ht=>yH mk F (hr.mono hkj) hg M.mgx hb .nil hx ht hdb he hpl
end
theorem zf {i:Nat}{ρ:DS}{c:Addr}:ac i ρ≠ .exc c:=by
 unfold ac;split <;> intro h <;> cases h
theorem vj {a b:D}{c:Addr}:bG a b≠ .exc c:=by
 unfold bG
 repeat' split
 all_goals (intro h;cases h)
section
variable{X:Cx}{E:XK}
noncomputable abbrev C8 (fo fe:DS→Res D):DS→Res D:=pZ fo fun z ρ=>(fe ρ).bind (da z)
end
noncomputable def sP (K:W.Frag):Sp:=fun vs H Q _=>∃(ad:Addr) (sc:List Int),vs=[.ref ad]∧sc.length≤63∧f6 K H ad (sc.map V.int)∧∀H',Q (.bl true) H'
section
variable{P:Program}{w:World}{K:W.Frag}{mg:Str→Option Value}{base:Heap}{r:Nat}
theorem yt {k:Nat}{f:Addr}{fd:FuncData}{m:List D→Res D}(F:FnOk P w K mg base (CXF P w) k f fd ["script"] (freshSp K 0 m))(h:∀ns:List Int,ns.length≤63→m [.scr ns]= .ok (.bl true)):FnOk P w K mg base (CXF P w) k f fd ["script"] (sP K):=
 F.imp fun vs H Q E hZ158=>by
  obtain⟨ad,sc,e,hl,sq,q⟩:=hZ158;subst e;refine⟨[.scr sc],H,.refl _,.cons (by unfold Rep;exact⟨ad,rfl,sq⟩) .nil,by rw[h sc hl];trivial,fun d ed v G' H' S _ o _=>?_⟩;rw[h sc hl]at ed;cases ed;have o2:=o.2;rw[rep_bl]at o2;rw[o2];exact q H'
theorem Fun.freshM {x qual:Str}{st:Stmt}{f:Addr}{fd:FuncData}{N ps:List Str}{k n:Nat}{F:DS→Out}(Fn:Fun K x qual st f fd)(sc:FnScope N ps (af st))(μ:List Nat)(hμ:∀i,i<ps.length→μ.getD i 0=0)(hn:ps.length=n)
  (hbody:∀(cdv:Value) (A:Around) (outer:List Env) (s:Shared) (H:Hp) (E:XK),Room k (A.deeper (envOfC qual (af st) s.heap.objs.size f cdv))→
   oQ (oS P w K mg base N qual (af st) f cdv A outer s H E) E μ r (bv st) F):FnOk P w K mg base (CXF P w) (k+1) f fd ps (freshSp K r (eh n N F)):=by
 refine Fn.fresh sc μ hμ (fun ds h=>?_) (fun cdv A outer s H E hr=>⟨F,hbody cdv A outer s H E hr,fun ds h=>?_⟩)
 ·unfold eh at h;split at h
  ·rename_i e;rw[e,hn]
  ·exact absurd rfl h
 ·unfold eh at h ⊢;split at h
  ·rename_i e;rw[if_pos e]
  ·exact absurd rfl h
end
theorem cP {K:W.Frag}{t:Value}:W.kitOne K t t=some true:=by
 unfold W.kitOne;rw[if_pos (beq_iff_eq.mpr rfl)]
theorem am {K:W.Frag}{C D:Addr}{b:Bool}(hne:C≠D)(hc:(W.clsIn K D).isSome=true)(ht:W.typeIn K (.ref D)=some (.type "type"))(hm:W.mroIn K C (.ref D)=some b):W.kitOne K (.ref C) (.ref D)=some b:=by
 unfold W.kitOne;rw[if_neg (fun q=>hne (Value.ref.inj (beq_iff_eq.mp q)))];unfold W.kitCls;dsimp only;rw[if_pos (by rw[hc,ht];rfl)];exact hm
theorem gB {K:W.Frag}{C:Addr}{T:String}{b:Bool}(hk:W.kitMeta T=true)(hm:W.mroIn K C (.type T)=some b):W.kitOne K (.ref C) (.type T)=some b:=by
 unfold W.kitOne;rw[if_neg (fun q=>by have:=beq_iff_eq.mp q;cases this)];unfold W.kitCls;dsimp only;rw[if_pos hk];exact hm
theorem ee {K:W.Frag}{C D:Addr}(hb:W.mroIn K D (.type "BaseException")=some true)(hc:(W.clsIn K D).isSome=true)(ht:W.typeIn K (.ref D)=some (.type "type"))(hm:W.mroIn K C (.ref D)=some true):W.exmOne K (.ref C) (.ref D)=some true:=by
 unfold W.exmOne;have h1:W.subIn K (.ref D) (.type "BaseException")=some true:=hb;rw[if_pos (by rw[h1];rfl)];unfold W.kitCls;dsimp only;rw[if_pos (by rw[hc,ht];rfl)];exact hm
theorem tt {P:Program}{w:World}{H:Hp}{s:Shared}{e:Value}{s':Shared}(h:CXF P w [] H s (fun _ _ _=>False) e s'):False:=by
 obtain⟨_,_,_,_,_,_,_,_,_,_,_,_,_,_,q⟩:=h;exact q
theorem vx (k:Nat){l:W.OpenLaw}{q:Program}{loose:List Str}{XP:(Str→Option Value)→Heap→Prop}{YP:World→Heap→Prop}{d:DefRec}{K:Params→W.Frag}(hr:Room k callerA)(hn:l.most=some 63)(hdf:d.params.defaults=[])
  (hY:∀(w:World) (h:Heap),YP w h→(K w.params).In h)
  (F:∀(w:World) (mg:Str→Option Value) (fa:Addr) (h:Heap),(K w.params).In h→h.Ns mainGlobals mg→mg d.name=some (.ref fa)→
   ∃fd:FuncData,(∀(s:Shared) (u:Value),BindsTo s fd ⟨[u],[]⟩ [("script",u)])∧∀base:Heap,(K w.params).In base→base.Ns mainGlobals mg→FnOk l.prog w (K w.params) mg base (CXF l.prog w) k fa fd ["script"] (sP (K w.params))) :
  W.WalkO q loose XP YP l.row.toRowW d [] (fun f vs=>PySem.call f vs):=
 zg (n:=63) (k:=k) (x:= "script") (CX:=fun w=>CXF l.prog w) (sp:=fun w=>sP (K w.params)) hn (by decide) hdf hr hY F (fun _ _ a ns hl _ hS=>⟨a,ns,rfl,hl,hS,fun _=>rfl⟩) fun _ _ _ _ _ z=>tt z
end L2
namespace L2
open PySem
section
variable{α:Type}{ρ ρ' ρ1:DS}{μ:List Nat}{n j k m:Nat}{f fi':DS→Res D}{fc:DS→Res Bool}{F R:DS→Out}{fi:DS→Res (List D)}{asg:D→DS→Option DS}{o:Option D}{d e:D}{ds l row:List D}
theorem B3:k8 μ f ρ=f (f8 μ ρ):=id rfl
theorem Ak:xj μ fi ρ=fi (f8 μ ρ):=id rfl
theorem B7:AQ n f ρ=(f ρ).bind fun d=>if f_ n d=true then .ok d else .bad:=id rfl
theorem Ah:f8 (0::μ) (o::ρ)=o::f8 μ ρ:=by unfold f8;rw[List.mapIdx_cons];rfl
theorem Aj:f8 ((n+1)::μ) (o::ρ)=none::f8 μ ρ:=by unfold f8;rw[List.mapIdx_cons];rfl
theorem Ai:f8 μ []=[]:=id rfl
theorem xM:fJ fi asg F ρ=(fi ρ).out fun ds=>bF asg F ds ρ:=id rfl
theorem uP:bF asg F [] ρ= .nx ρ:=id rfl
theorem iM (h1:asg d ρ=some ρ1)(h2:F ρ1= .nx ρ'):bF asg F (d::ds) ρ=bF asg F ds ρ':=by
 conv=>lhs;unfold bF
 rw[h1];dsimp only;rw[h2]
theorem kh (h1:asg d ρ=some ρ1)(h2:F ρ1= .rt e):bF asg F (d::ds) ρ= .rt e:=by
 conv=>lhs;unfold bF
 rw[h1];dsimp only;rw[h2]
theorem pF (I:List D→DS→Prop)(step:∀d ds ρ,I (d::ds) ρ→∃ρ1 ρ',asg d ρ=some ρ1∧F ρ1= .nx ρ'∧I ds ρ'):∀ds ρ,I ds ρ→∃ρ',bF asg F ds ρ= .nx ρ'∧I [] ρ'
 | [],ρ,h=>⟨ρ,rfl,h⟩
 |d::ds,ρ,h=>by
  obtain⟨ρ1,ρ',h1,h2,h3⟩:=step d ds ρ h;obtain⟨ρ2,h4,h5⟩:=pF I step ds ρ' h3;exact⟨ρ2,(iM h1 h2).trans h4,h5⟩
theorem pG {x:Res D}(I:List D→DS→Prop)(h:I ds ρ)(step:∀d ds ρ,I (d::ds) ρ→∃ρ1 ρ',asg d ρ=some ρ1∧F ρ1= .nx ρ'∧I ds ρ')(fin:∀ρ',I [] ρ'→fO (R ρ')=x):fO ((bF asg F ds ρ).then R)=x:=by
 obtain⟨ρ',e,h'⟩:=pF I step ds ρ h;rw[e];exact fin ρ' h'
theorem tV {l:List (List Int)}:f_ 1 (.lst (l.map fun t=>.tup (t.map D.int)))=true:=by
 unfold f_;rw[all_eq_true];intro d hd;obtain⟨t,_,rfl⟩:=mem_map.mp hd;exact k7 t
theorem uS {i:Int}:f_ 0 (.int i)=true:=by unfold f_ flat;rfl
theorem iN {st:List α→DS→Prop}{c:α→D}:∀(xs pre:List α) (ρ:DS),st pre ρ→(∀pre' x post,pre ++ xs=pre' ++ x::post→∀ρ,st pre' ρ→∃ρ1,asg (c x) ρ=some ρ1∧∃ρ',F ρ1= .nx ρ'∧st (pre' ++ [x]) ρ')→∃ρ',bF asg F (xs.map c) ρ= .nx ρ'∧st (pre ++ xs) ρ'
 | [],pre,ρ,h,_=>⟨ρ,rfl,by rw[append_nil];exact h⟩
 |x::xs,pre,ρ,h,step=>by
  obtain⟨ρ1,h1,ρ',h2,h3⟩:=step pre x xs rfl ρ h;obtain⟨ρ2,h4,h5⟩:=iN xs (pre ++ [x]) ρ' h3 fun pre' y post e=>step pre' y post (by rw[←e,append_assoc];rfl);refine⟨ρ2,(iM h1 h2).trans h4,?_⟩;rw[append_assoc]at h5;exact h5
theorem gM {x:Res D}{xs:List α}{c:α→D}(st:List α→DS→Prop)(h:st [] ρ)(step:∀pre y post,xs=pre ++ y::post→∀ρ,st pre ρ→∃ρ1,asg (c y) ρ=some ρ1∧∃ρ',F ρ1= .nx ρ'∧st (pre ++ [y]) ρ')(fin:∀ρ',st xs ρ'→fO (R ρ')=x):fO ((bF asg F (xs.map c) ρ).then R)=x:=by
 obtain⟨ρ',e,h'⟩:=iN (asg:=asg) (F:=F) (c:=c) xs [] ρ h step;rw[e];exact fin ρ' h'
theorem uj {P:DS→Prop}{xs:List α}{c:α→D}(st:List α→DS→Prop)(h:st [] ρ)(step:∀pre y post,xs=pre ++ y::post→∀ρ,st pre ρ→∃ρ1,asg (c y) ρ=some ρ1∧∃ρ',F ρ1= .nx ρ'∧st (pre ++ [y]) ρ')(fin:∀ρ',st xs ρ'→∃ρ'',R ρ'= .nx ρ''∧P ρ''):∃ρ'',(bF asg F (xs.map c) ρ).then R= .nx ρ''∧P ρ'':=by
 obtain⟨ρ',e,h'⟩:=iN (asg:=asg) (F:=F) (c:=c) xs [] ρ h step;rw[e];exact fin ρ' h'
theorem on {P:DS→Prop}{xs:List α}{c:α→D}(st:List α→DS→Prop)(h:st [] ρ)(step:∀pre y post,xs=pre ++ y::post→∀ρ,st pre ρ→∃ρ1,asg (c y) ρ=some ρ1∧∃ρ',F ρ1= .nx ρ'∧st (pre ++ [y]) ρ')(fin:∀ρ',st xs ρ'→P ρ'):∃ρ'',bF asg F (xs.map c) ρ= .nx ρ''∧P ρ'':=by
 obtain⟨ρ',e,h'⟩:=iN (asg:=asg) (F:=F) (c:=c) xs [] ρ h step;exact⟨ρ',e,fin ρ' h'⟩
theorem jz {st:DS→Prop}{c:α→D}{x:α}{post:List α}:∀(pre:List α) (ρ:DS),st ρ→(∀y∈pre,∀ρ,st ρ→∃ρ1,asg (c y) ρ=some ρ1∧∃ρ',F ρ1= .nx ρ'∧st ρ')→(∀ρ,st ρ→∃ρ1,asg (c x) ρ=some ρ1∧F ρ1= .rt d)→bF asg F ((pre ++ x::post).map c) ρ= .rt d
 | [],ρ,h,_,hx=>by
  obtain⟨ρ1,h1,h2⟩:=hx ρ h;exact kh h1 h2
 |y::pre,ρ,h,hp,hx=>by
  obtain⟨ρ1,h1,ρ',h2,h3⟩:=hp y (mem_cons_self ..) ρ h;exact(iM h1 h2).trans (jz pre ρ' h3 (fun z hz=>hp z (dQ hz)) hx)
theorem lI (I:Nat→DS→Prop)(Dn:DS→Prop)(h:∀n ρ,I n ρ→(fc ρ= .ok false∧Dn ρ)∨(fc ρ= .ok true∧∃m ρ',n=m+1∧F ρ= .nx ρ'∧I m ρ')):∀(n k:Nat) (ρ:DS),n<k→I n ρ→∃ρ',cc fc F k ρ= .nx ρ'∧Dn ρ'
 |n,k+1,ρ,hk,hI=>by
  rcases h n ρ hI with ⟨h1,h2⟩|⟨h1,m,ρ',rfl,h2,h3⟩
  ·refine⟨ρ,?_,h2⟩
   conv=>lhs;unfold cc
   rw[h1];rfl
  ·obtain⟨ρ2,h4,h5⟩:=lI I Dn h m k ρ' (by omega) h3;refine⟨ρ2,?_,h5⟩;rw[←h4]
   conv=>lhs;unfold cc
   rw[h1,bN,if_pos rfl,h2]
theorem qr {x:Res D}(I:Nat→DS→Prop)(Dn:DS→Prop)(n:Nat)(hn:n<k)(h0:I n ρ)(h:∀n ρ,I n ρ→(fc ρ= .ok false∧Dn ρ)∨(fc ρ= .ok true∧∃m ρ',n=m+1∧F ρ= .nx ρ'∧I m ρ'))(fin:∀ρ',Dn ρ'→fO (R ρ')=x):fO ((cc fc F k ρ).then R)=x:=by
 obtain⟨ρ',e,h'⟩:=lI I Dn h n k ρ hn h0;rw[e];exact fin ρ' h'
theorem mE {c:α→D}:∀(l:List α) (n:Nat),bi n (l.map c)=(l.zipIdx n).map fun q=>.tup [.int (q.2:Int),c q.1]
 | [],n=>rfl
 |x::l,n=>by
  rw[map_cons,List.zipIdx_cons,map_cons];unfold bi;rw[mE l (n+1)]
theorem iK {c:α→D}{l:List α}:pj [.lst (l.map c)]= .ok (l.zipIdx.map fun q=>.tup [.int (q.2:Int),c q.1]):=by
 unfold pj;dsimp only;rw[mE]
theorem sY {β:Type}{c:α→D}{c':β→D}:∀(l:List α) (l':List β),ia (l.map c) (l'.map c')=(l.zip l').map fun q=>.tup [c q.1,c' q.2]
 | [],_=>by unfold ia;rfl
 |_::_,[]=>by unfold ia;rfl
 |a::l,b::l'=>by
  rw[map_cons,map_cons,List.zip_cons_cons,map_cons];unfold ia;rw[sY l l']
theorem uZ {β:Type}{c:α→D}{c':β→D}{l:List α}{l':List β}:qu [.lst (l.map c),.lst (l'.map c')]= .ok ((l.zip l').map fun q=>.tup [c q.1,c' q.2]):=by
 unfold qu;dsimp only;rw[sY]
theorem dP (h:n≤100000):aF n=true:=decide_eq_true h
theorem iJ {fe:DS→Res D}{ft:DS→Res Bool}{caps:List (Option Nat)}{xs:List α}{c:α→D}{p:α→Bool}{g:α→D}(hi:fi ρ= .ok (xs.map c))(hl:xs.length≤100000)
  (h:∀x∈xs,∃ρ',asg (c x) (cY caps ρ)=some ρ'∧ft ρ'= .ok (p x)∧(p x=true→fe ρ'= .ok (g x))):a9 fi caps asg ft fe ρ= .ok (.lst ((xs.filter p).map g)):=by
 unfold a9;rw[hi,aw,if_pos (dP (by rw[length_map];exact hl))];have go:∀ys:List α,(∀x∈ys,∃ρ',asg (c x) (cY caps ρ)=some ρ'∧ft ρ'= .ok (p x)∧(p x=true→fe ρ'= .ok (g x)))→
   aX (lK asg (cY caps ρ) ft) (lK asg (cY caps ρ) fe) (ys.map c)= .ok ((ys.filter p).map g):=by
  intro ys
  induction ys with
  |nil=>intro _;rfl
  |cons y ys ih=>
   intro h;obtain⟨ρ',h1,h2,h3⟩:=h y (mem_cons_self ..);have ih:=ih fun x hx=>h x (dQ hx);rw[map_cons];unfold aX;have e1:lK asg (cY caps ρ) ft (c y)= .ok (p y):=by unfold lK;rw[h1];exact h2
   rw[e1];cases q:p y with
   |true=>
    dsimp only;have e2:lK asg (cY caps ρ) fe (c y)= .ok (g y):=by unfold lK;rw[h1];exact h3 q
    rw[e2];dsimp only;rw[ih,aw,List.filter_cons_of_pos q];rfl
   |false=>
    dsimp only;rw[ih,List.filter_cons_of_neg (by rw[q];exact Bool.false_ne_true)]
 rw[go xs h,aw]
theorem eZ {fe:DS→Res D}{caps:List (Option Nat)}{xs:List α}{c:α→D}{g:α→D}(hi:fi ρ= .ok (xs.map c))(hl:xs.length≤100000)
  (h:∀x∈xs,∃ρ',asg (c x) (cY caps ρ)=some ρ'∧fe ρ'= .ok (g x)):a9 fi caps asg yes fe ρ= .ok (.lst (xs.map g)):=by
 have:=iJ (p:=fun _=>true) (ft:=yes) hi hl fun x hx=>(h x hx).imp fun ρ' h=>⟨h.1,rfl,fun _=>h.2⟩;rw[List.filter_eq_self.mpr fun _ _=>rfl]at this;exact this
theorem aU {N:List Str}(h:ds.length=n):eh n N F ds=fO (F (au N ds)):=if_pos h
theorem k_ {g:α→D}{l:List α}{v:α}{i:Nat}(h:l[i]?=some v):bG (.lst (l.map g)) (.int i)= .ok (g v):=qK (rR (by rw[getElem?_map,h];rfl))
theorem vE {a:Int}{ns:List Int}:nZ [.lst ((a::ns).map D.int)]= .ok (.int (fM (a::ns))):=by unfold nZ;dsimp only;rw[d9]
theorem yY {n:Nat}:jF 0 n=(List.range n).map fun (i:Nat)=>D.int (i:Int):=by
 unfold jF;refine map_congr_left fun i _=>?_;rw[Int.zero_add]
theorem nD {n:Nat}(h:n<1000000):rg [.int (n:Int)]= .ok ((List.range n).map fun (i:Nat)=>D.int (i:Int)):=by
 unfold rg;dsimp only;have:cH (n:Int)=true:=by unfold cH;rw[and_eq_true,decide_eq_true_eq,decide_eq_true_eq];omega
 rw[if_pos this,toNat_natCast,yY]
theorem r_ {a b:Int}(h0: -1000000≤a)(h1:a<1000000)(h2: -1000000≤b)(h3:b<1000000):wJ [.int a,.int b]= .ok (jF a (b-a).toNat):=by
 unfold wJ;dsimp only;have:(cH a&&cH b)=true:=by unfold cH;simp only[and_eq_true,decide_eq_true_eq];omega
 rw[if_pos this]
theorem nC {ns:List Int}:bz [.scr ns]= .ok (.int ns.length):=id rfl
theorem Am {ns:List Int}{i n:Int}(h:atI ns i=some n):bG (.scr ns) (.int i)= .ok (.int n):=by unfold bG;dsimp only;rw[h]
theorem pB {i j:Int}(h1: -(2 ^ 64)<j)(h2:j<2 ^ 64):lU (.int i) (.int j)= .ok (.int (i*j)):=by
 unfold lU A6;rw[xT h1 h2]
noncomputable def cellOf (ns:List Int)(k:Int):Int:=if ns.length=0 then 7 else ns.getD (k % ns.length).toNat 0
noncomputable def lD (ns:List Int)(k:Int):Int:=(cellOf ns k*48271+(k+1)*7919+ns.length) % 2147483647
noncomputable def CV (ns:List Int)(k:Int):Int:=(lD ns k*lD ns k+k*16807+11) % 2147483647
noncomputable def drawn (ns:List Int)(k many:Int):Int:=CV ns k*48271 % 2147483647 / 16 % many
theorem za {ns:List Int}{k:Int}:0≤lD ns k∧lD ns k<2147483647:=⟨Int.emod_nonneg _ (by decide),Int.emod_lt_of_pos _ (by decide)⟩
theorem fH {ns:List Int}{k many:Int}(h:0<many):0≤drawn ns k many∧drawn ns k many<many:=⟨Int.emod_nonneg _ (by omega),Int.emod_lt_of_pos _ h⟩
theorem xB {ns:List Int}{k:Int}(hz:ns.length≠0):atI ns (k % (ns.length:Int))=some (cellOf ns k):=by
 have hm0:0≤k % (ns.length:Int):=Int.emod_nonneg _ (by omega);have hm1:k % (ns.length:Int)<ns.length:=Int.emod_lt_of_pos _ (by omega);refine jn hm0 ?_;have hlt:(k % (ns.length:Int)).toNat<ns.length:=by omega
 rw[se hlt];unfold cellOf;rw[if_neg hz];simp[List.getD,se hlt]
end
end L2
namespace L2
open PySem PySem.Spec PyProof.Rows
theorem AllW.zero {K:W.Frag}{G H:Hp}:∀{ds:List D} {vs:List V} {S:List Addr},AllW (Ow K G H 0) ds vs S→S=[]∧RepL K G ds vs
 | [],_,_,h=>by rw[h.1,h.2];exact⟨rfl,.nil⟩
 |d::ds,_,_,h=>by
  obtain⟨v,r,A,B,e1,e2,h1,h2⟩:=h;obtain⟨e3,h3⟩:=AllW.zero h2;subst e1 e2 e3;rw[h1.1];exact⟨rfl,.cons h1.2 h3⟩
theorem AllW.of0 {K:W.Frag}{G H:Hp}:∀{ds:List D} {vs:List V},RepL K G ds vs→AllW (Ow K G H 0) ds vs []
 | [],_,h=>⟨h.inv0,rfl⟩
 |d::ds,_,h=>by
  obtain⟨v,r,rfl,h1,h2⟩:=h.inv;exact⟨v,r,[],[],rfl,rfl,⟨rfl,h1⟩,AllW.of0 h2⟩
section
variable{X:Cx}{E:XK}{μ:List Nat}{n:Nat}
variable{q:Nat}
end
section
variable{X:Cx}{E:XK}{μ:List Nat}{n:Nat}
end
theorem Rw.forget {K:W.Frag}{μ:List Nat}{Ge B G H:Hp}{σ:St}{ρ:DS}{fp:Nat→List Addr}{i:Nat}{o:Option V}(R:Rw K μ Ge B G H σ ρ fp):Rw K μ Ge B G H (σ.set i o) (ρ.set i none) (fun j=>if j=i then [] else fp j):=by
 have E:=R.drop (i:=i);refine⟨E.gh,E.eg,E.bh,E.nw,E.gf,E.ob,E.oc,E.nd,E.dj,fun k d e=>?_⟩;obtain⟨v,hv,h⟩:=E.sl k d e;refine⟨v,?_,h⟩;have hk:k≠i:=fun z=>by
  subst z;rw[getElem?_set]at e;split at e
  ·split at e <;> cases e
  ·rename_i hne;exact hne rfl
 rw[getElem?_set_ne (Ne.symm hk)];exact hv
section
variable{X:Cx}{E:XK}{μ:List Nat}{n:Nat}
end
section
variable{P:Program}{w:World}{K:W.Frag}{mg:Str→Option Value}{base:Heap}
end
section
variable{P:Program}{w:World}{K:W.Frag}{mg:Str→Option Value}{base:Heap}
end
section
variable{X:Cx}{E:XK}{μ:List Nat}{r n:Nat}
theorem eP {i:Nat}:∀ρ c,ac i ρ≠ .exc c:=fun ρ c=>zf
end
end L2
namespace L2
open PySem
theorem vK {f g:DS→Res D}{o:D→D→Res D}(hf:∀ρ c,f ρ≠ .exc c)(hg:∀ρ c,g ρ≠ .exc c)(ho:∀{a b:D} {c:Addr},o a b≠ .exc c):∀ρ c,aj f g o ρ≠ .exc c:=fun ρ c h=>by
 rw[zk]at h;cases q:f ρ with
 |exc e=>exact hf ρ e q
 |bad=>rw[q]at h;cases h
 |ok a=>
  rw[q,aw]at h;cases q2:g ρ with
  |exc e=>exact hg ρ e q2
  |bad=>rw[q2]at h;cases h
  |ok b=>rw[q2,aw]at h;exact ho h
theorem xp {a b:D}{c:Addr}:bg a b≠ .exc c:=by
 unfold bg A6;have h1:∀x y:D,uB x y≠ .exc c:=fun x y h=>by
  unfold uB gA at h;split at h
  ·split at h <;> cases h
  ·cases h
 have h2:∀x y:D,uC x y≠ .exc c:=fun x y h=>by
  unfold uC at h;split at h
  ·split at h <;> cases h
  ·cases h
 have h3:∀x y:D,tj x y≠ .exc c:=fun x y h=>by
  unfold tj at h;split at h
  ·split at h <;> cases h
  ·cases h
 intro h;split at h
 ·split at h
  ·exact h3 _ _ h
  ·exact h2 _ _ h
 ·exact h1 _ _ h
noncomputable def DR:=And.intro @qN (And.intro @nE (And.intro @B6 (And.intro @zk (And.intro @B2 (And.intro @Aa (And.intro @qM (And.intro @x8 (And.intro @x9 (And.intro @xX (And.intro @xY (And.intro @aw (And.intro @pA (And.intro @bN (And.intro @qL (And.intro @qO (And.intro @qP (And.intro @pD (And.intro @uV (And.intro @uU (And.intro @tE (And.intro @xN (And.intro @xO (And.intro @B8 (And.intro @zj (And.intro @B5 (And.intro @B4 (And.intro @zZ (And.intro @Ay (And.intro @z_ (And.intro @B9 (And.intro @Aw (And.intro @xK (And.intro @Ag (And.intro @At (And.intro @Ae (And.intro @xI (And.intro @xU (And.intro @xS (And.intro @xQ (And.intro @xP (And.intro @x6 (And.intro @xR (And.intro @uW (And.intro @Az (And.intro @Al (And.intro @xV (And.intro @tB (And.intro @An (And.intro @Ab (And.intro @x7 (And.intro @xW (And.intro @B_ (And.intro @Av (And.intro @xZ (And.intro @zl (And.intro @zm (And.intro @uX (And.intro @uQ (And.intro @uR (And.intro @Ax (And.intro @Ao (And.intro @Ap (And.intro @Aq (And.intro @Ar (And.intro @As (And.intro @nC (And.intro @Af (And.intro @Au (And.intro @B3 (And.intro @Ak (And.intro @B7 (And.intro @Ah (And.intro @Aj (And.intro @Ai (And.intro @xM (And.intro @uP (And.intro @pq @iO)))))))))))))))))))))))))))))))))))))))))))))))))))))))))))))))))))))))))))))
def aP:=And.intro DR (And.intro @if_true.{1} (And.intro @if_false.{1} (And.intro @false_eq_true (And.intro @Bool.not_true (And.intro @Bool.not_false (And.intro @Bool.true_and (And.intro @Bool.false_and (And.intro @Bool.true_or (And.intro @Bool.false_or (And.intro @pC.eq_1 (And.intro @pN.eq_1 (And.intro @kI.eq_1 (And.intro @kB.eq_1 (And.intro @kS.eq_1 (And.intro @c1.eq_1 (And.intro @sL.eq_1 (And.intro @sT.eq_1 (And.intro @sR1.eq_1 (And.intro @sR2.eq_1 (And.intro @sE.eq_1 (And.intro @sZ.eq_1 (And.intro @oI.eq_1 (And.intro @oN.eq_1 (And.intro @tR.eq_1 (And.intro @nG.eq_1 (And.intro @yes.eq_1 (And.intro @bad1.eq_1 (And.intro @nxt.eq_1 (And.intro @length_map.{0,0} (And.intro @beq_self_eq_true.{0} @bne_self_eq_false.{0}))))))))))))))))))))))))))))))
section
variable{α:Type}{ρ ρ' ρ1:DS}{F R:DS→Out}{asg:D→DS→Option DS}{d:D}
end
theorem ko {n:Nat}{α:Type}{f:α→D}:∀(l:List α),(∀x∈l,aJ n (f x)=true)→plL n (l.map f)=true
 | [],_=>by unfold plL;rfl
 |x::l,h=>by
  rw[map_cons];unfold plL;rw[h x (mem_cons_self ..),ko l fun y hy=>h y (dQ hy)];rfl
theorem lv {n:Nat}{i:Int}:aJ n (.int i)=true:=by unfold aJ;rfl
theorem wj {n:Nat}{α:Type}{f:α→D}{l:List α}(h:∀x∈l,aJ n (f x)=true):aJ (n+1) (.lst (l.map f))=true:=by
 unfold aJ;rw[show n+1-1=n from rfl,ko l h,decide_eq_true (by omega)];rfl
theorem yn {d:D}(h:aJ 20 d=true):vG d d= .ok (.bl false):=by
 unfold vG;rw[if_pos ⟨h,h⟩,kX h];rfl
section
variable{ρ:DS}{F:DS→Out}{fi fa f:DS→Res D}{l row ds:List D}{j m t n:Nat}{d:D}{N:List Str}
theorem bM {R:DS→Out}{x:Res D}(ρ':DS)(h:F ρ= .nx ρ')(hr:fO (R ρ')=x):fO (az F R ρ)=x:=by
 rw[qN,h];exact hr
end
end L2
namespace L2
open PySem PySem.Spec PyProof.Rows
noncomputable def e8:D→List D
 |.lst l=>l
 |.tup l=>l
 |.dct _ l=>l
 |_=>[]
noncomputable def qj:D→List D→D
 |.lst _,l=>.lst l
 |.tup _,l=>.tup l
 |.dct ks _,l=>.dct ks l
 |d,_=>d
noncomputable def sm:HO→List V
 |.lst xs=>xs
 |.tup xs=>xs
 |.dT kvs=>kvs.map (·.2)
 |_=>[]
noncomputable def eN:List Nat→D→Option D
 | [],d=>some d
 |m::p,d=>match (e8 d)[m]? with|some c=>eN p c|none=>none
noncomputable def gS:List Nat→D→D→D
 | [],_,e=>e
 |m::p,d,e=>match (e8 d)[m]? with|some c=>qj d ((e8 d).set m (gS p c e))|none=>d
noncomputable def valP (H:Hp):List Nat→V→V→Prop
 | [],v,u=>u=v
 |m::p,v,u=>∃a o w,v= .ref a∧H a=some o∧(sm o)[m]?=some w∧valP H p w u
theorem valP.mono {H H':Hp}(s:Same H H'):∀{p:List Nat} {v u:V},valP H p v u→valP H' p v u
 | [],_,_,h=>h
 |_::_,_,_,⟨a,o,w,e,h,k,r⟩=>⟨a,o,w,e,s _ _ h,k,valP.mono s r⟩
theorem valP.one {H:Hp}:∀{p:List Nat} {v u u':V},valP H p v u→valP H p v u'→u=u'
 | [],_,_,_,h,h'=>h.trans h'.symm
 |_::_,_,_,_,⟨a,o,w,e,h,k,r⟩,⟨a',o',w',e',h',k',r'⟩=>by
  subst e;cases e';rw[h]at h';cases h';rw[k]at k';cases k';exact valP.one r r'
theorem valP.snoc {H:Hp}{m:Nat}{a:Addr}{o:HO}{w:V}(h:H a=some o)(k:(sm o)[m]?=some w):∀{p:List Nat} {v:V},valP H p v (.ref a)→valP H (p ++ [m]) v w
 | [],_,e=>⟨a,o,w,e.symm,h,k,rfl⟩
 |_::_,_,⟨a',o',w',e',h',k',r⟩=>⟨a',o',w',e',h',k',valP.snoc h k r⟩
theorem pE {d c:D}{m:Nat}(h:L2.flat d=true)(e:(e8 d)[m]?=some c):L2.flat c=true:=by
 cases d with
 |lst l=>unfold L2.flat at h;cases h
 |dct ks l=>unfold L2.flat at h;cases h
 |tup l=>unfold L2.flat at h;exact jt h (mem_of_getElem? e)
 |_=>simp[e8]at e
theorem kZ:∀{p:List Nat} {d c:D},L2.flat d=true→eN p d=some c→L2.flat c=true
 | [],d,c,h,e=>by cases e;exact h
 |m::p,d,c,h,e=>by
  have e':(match (e8 d)[m]? with|some c=>eN p c|none=>none)=some c:=e
  cases q:(e8 d)[m]? with
  |none=>rw[q]at e';cases e'
  |some k=>rw[q]at e';exact kZ (pE h q) e'
section
variable{K:W.Frag}{G H:Hp}
theorem Ow.kid {n m:Nat}{d c:D}{v:V}{S:List Addr}(h:Ow K G H (n+1) d v S)(e:(e8 d)[m]?=some c)(hc:L2.flat c=false) :
  ∃a o T,v= .ref a∧H a=some o∧S=a::T∧AllW (Ow K G H n) (e8 d) (sm o) T∧∀(H':Hp) l' T',H' a=some o→T'≠[]→AllW (Ow K G H' n) l' (sm o) T'→Ow K G H' (n+1) (qj d l') v (a::T'):=by
 cases d with
 |lst l=>
  obtain⟨a,xs,T,e1,e2,e3,h1⟩:=h;exact⟨a,_,T,e1,e2,e3,h1,fun H' l' T' h' _ o=>⟨a,xs,T',e1,h',rfl,o⟩⟩
 |dct ks l=>
  obtain⟨a,xs,T,e1,e2,e4,e3,h1⟩:=h;exact⟨a,_,T,e1,e2,e3,h1,fun H' l' T' h' _ o=>⟨a,xs,T',e1,h',e4,rfl,o⟩⟩
 |tup l=>
  rcases h with h|⟨a,xs,T,e1,e2,e3,e5,h1⟩
  ·rw[pE h.1 e]at hc;cases hc
  ·exact⟨a,_,T,e1,e2,e3,h1,fun H' l' T' h' n o=>.inr ⟨a,xs,T',e1,h',rfl,n,o⟩⟩
 |_=>simp[e8]at e
theorem u6 {l:List D}:L2.flat (.lst l)=false:=by unfold L2.flat;rfl
theorem u5 {ks:List (List aV)}{l:List D}:L2.flat (.dct ks l)=false:=by unfold L2.flat;rfl
theorem Ow.at:∀{p:List Nat} {n:Nat} {d c:D} {v:V} {S:List Addr},Ow K G H (n+p.length) d v S→eN p d=some c→L2.flat c=false→∃u A,valP H p v u∧Ow K G H n c u A
 | [],n,d,c,v,S,h,e,hc=>by cases e;exact⟨v,S,rfl,h⟩
 |m::p,n,d,c,v,S,h,e,hc=>by
  have e':(match (e8 d)[m]? with|some c=>eN p c|none=>none)=some c:=e
  cases q:(e8 d)[m]? with
  |none=>rw[q]at e';cases e'
  |some k=>
   rw[q]at e';have hk:L2.flat k=false:=by
    cases z:L2.flat k with
    |false=>rfl
    |true=>rw[kZ z e']at hc;cases hc
   obtain⟨a,o,T,e1,e2,e3,h1,_⟩:=Ow.kid (n:=n+p.length) h q hk;obtain⟨w,A,L,R,g1,g2,g3,g4⟩:=h1.at q;obtain⟨u,A',h2,h3⟩:=Ow.at g3 e' hc;exact⟨u,A',⟨a,o,w,e1,e2,g1,h2⟩,h3⟩
theorem wU {α:Type}{l:List α}{m:Nat}{x:α}(h:l[m]?=some x):l.set m x=l:=by
 apply ext_getElem?;intro k;by_cases hk:k=m
 ·subst hk;rw[getElem?_set_self (jj h).1,h]
 ·rw[getElem?_set_ne (Ne.symm hk)]
theorem Ow.path:∀{p:List Nat} {n:Nat} {d:D} {row:List D} {v:V} {S:List Addr},Ow K G H (n+1+p.length) d v S→eN p d=some (.lst row)→S.Nodup→
  ∃b ys U L R,valP H p v (.ref b)∧H b=some (.lst ys)∧S=L ++ (b::U) ++ R∧AllW (Ow K G H n) row ys U∧
   (∀q t a,p=q ++ t→t≠[]→valP H q v (.ref a)→a≠b)∧
   ∀ys' row' U',AllW (Ow K G (aS H b (.lst ys')) n) row' ys' U'→Ow K G (aS H b (.lst ys')) (n+1+p.length) (gS p d (.lst row')) v (L ++ (b::U') ++ R)
 | [],n,d,row,v,S,h,e,nd=>by
  cases e;obtain⟨a,xs,T,e1,e2,e3,h1⟩:=h;exact⟨a,xs,T,[],[],e1.symm,e2,by rw[e3];simp,h1,fun q t a e hn=>absurd (List.append_eq_nil_iff.mp e.symm).2 hn,fun ys' row' U' o=>⟨a,ys',U',e1,ao,by simp,o⟩⟩
 |m::p,n,d,row,v,S,h,e,nd=>by
  have e':(match (e8 d)[m]? with|some c=>eN p c|none=>none)=some (.lst row):=e
  cases q:(e8 d)[m]? with
  |none=>rw[q]at e';cases e'
  |some k=>
   rw[q]at e';have hk:L2.flat k=false:=by
    cases z:L2.flat k with
    |false=>rfl
    |true=>have:=kZ z e';rw[u6]at this;cases this
   obtain⟨a,o,T,e1,e2,e3,h1,back⟩:=Ow.kid (n:=n+1+p.length) h q hk;obtain⟨w,A,L,R,g1,g2,g3,g4⟩:=h1.at q;subst e3;obtain⟨haT,hT⟩:=nodup_cons.mp nd;rw[g2]at hT haT;obtain⟨h2,h3,h4⟩:=nodup_append.mp hT;obtain⟨h5,h6,h7⟩:=nodup_append.mp h2;obtain⟨b,ys,U,L2,R2,k1,k2,k3,k4,k6,k5⟩:=Ow.path g3 e' h6;have hbA:b∈A:=by rw[k3];exact mem_append_left _ (mem_append_right _ (mem_cons_self ..))
   have nb:∀c,c∈L∨c∈R→c≠b:=fun c hc z=>by
    subst z
    rcases hc with y|y
    ·exact h7 c y c hbA rfl
    ·exact h4 c (mem_append_right _ hbA) c y rfl
   have hab:a≠b:=fun z=>haT (z ▸ mem_append_left _ (mem_append_right _ hbA));refine⟨b,ys,U,a::(L ++ L2),R2 ++ R,⟨a,o,w,e1,e2,g1,k1⟩,k2,by rw[g2,k3];simp[append_assoc],k4,fun q t x eq hn hx=>?_,fun ys' row' U' ou=>?_⟩
   ·cases q with
    |nil=>cases (show V.ref x=v from hx);cases e1;exact hab
    |cons i q=>
     cases eq;obtain⟨a2,o2,w2,z1,z2,z3,z4⟩:=hx;subst e1;cases z1;rw[e2]at z2;cases z2;rw[g1]at z3;cases z3;exact k6 q t x rfl hn z4
   have big:=g4 (Ow K G (aS H b (.lst ys')) (n+1+p.length)) (fun d v C hC z=>z.mono (.refl _) fun c hc u eu=>by rw[ai (nb c (hC c hc))];exact eu) (gS p k (.lst row')) w (L2 ++ (b::U') ++ R2) (k5 ys' row' U' ou);rw[wU g1]at big;have fin:=back (aS H b (.lst ys')) ((e8 d).set m (gS p k (.lst row'))) (L ++ (L2 ++ (b::U') ++ R2) ++ R) (by rw[ai hab];exact e2) (by intro z;simp at z) big;have es:gS (m::p) d (.lst row')=qj d ((e8 d).set m (gS p k (.lst row'))):=by
    show (match (e8 d)[m]? with|some c=>qj d ((e8 d).set m (gS p c (.lst row')))|none=>d)=_
    rw[q]
   rw[es];have el:a::(L ++ L2) ++ (b::U') ++ (R2 ++ R)=a::(L ++ (L2 ++ (b::U') ++ R2) ++ R):=by simp[append_assoc]
   rw[el];exact fin
end
section
variable{K:W.Frag}{μ:List Nat}{Ge B G H:Hp}{σ:St}{ρ:DS}{fp:Nat→List Addr}{j n:Nat}
theorem Rw.path {p:List Nat}{d:D}{row:List D}(R:Rw K μ Ge B G H σ ρ fp)(hm:μ.getD j 0=n+1+p.length)(hr:ρ[j]?=some (some d))(hp:eN p d=some (.lst row)) :
  ∃v b ys U,σ[j]?=some (some v)∧valP H p v (.ref b)∧H b=some (.lst ys)∧AllW (Ow K G H n) row ys U∧U.Nodup∧b∉U∧b∈fp j∧(∀c∈U,c∈fp j)∧(∀q t a,p=q ++ t→t≠[]→valP H q v (.ref a)→a≠b)∧
   ∀ys' row' U',AllW (Ow K G (aS H b (.lst ys')) n) row' ys' U'→U'.Nodup→(∀c∈U',c∈U∨((G c=none∧B c=none)∧∀i,c∉fp i))→∃fp',Rw K μ Ge B G (aS H b (.lst ys')) σ (ρ.set j (some (gS p d (.lst row')))) fp':=by
 obtain⟨v,hv,o⟩:=R.sl j d hr;rw[hm]at o;obtain⟨b,ys,U,L,Q,h1,h2,h3,h4,h6,h5⟩:=o.path hp (R.nd j);have nd:=R.nd j;rw[h3]at nd;obtain⟨n1,n2,n3⟩:=nodup_append.mp nd;obtain⟨n4,n5,n6⟩:=nodup_append.mp n1;obtain⟨n7,n8⟩:=nodup_cons.mp n5;have sb:b∈fp j:=by rw[h3];exact mem_append_left _ (mem_append_right _ (mem_cons_self ..))
 have sU:∀c∈U,c∈fp j:=fun c r=>by rw[h3];exact mem_append_left _ (mem_append_right _ (dQ r))
 have sL:∀c∈L,c∈fp j:=fun c r=>by rw[h3];exact mem_append_left _ (mem_append_left _ r)
 have sQ:∀c∈Q,c∈fp j:=fun c r=>by rw[h3];exact mem_append_right _ r
 refine⟨v,b,ys,U,hv,h1,h2,h4,n8,n7,sb,sU,h6,fun ys' row' U' ou nU hU=>?_⟩;have ndm:(L ++ (b::U') ++ Q).Nodup:=mD nd (nodup_cons.mpr ⟨fun z=>by
   rcases hU b z with y|y
   ·exact n7 y
   ·exact y.2 j sb,nU⟩) fun c r=>by
  rcases mem_cons.mp r with z|z
  ·subst z;exact .inl (mem_cons_self ..)
  ·rcases hU c z with y|y
   ·exact .inl (dQ y)
   ·exact .inr ⟨fun x=>y.2 j (sL c x),fun x=>y.2 j (sQ c x)⟩
 have old:∀c∈L ++ (b::U') ++ Q,c∈fp j∨((G c=none∧B c=none)∧∀i,c∉fp i):=fun c r=>by
  rcases mem_append.mp r with z|z
  ·rcases mem_append.mp z with y|y
   ·exact .inl (sL c y)
   ·rcases mem_cons.mp y with x|x
    ·subst x;exact .inl sb
    ·exact(hU c x).imp (sU c) id
  ·exact .inl (sQ c z)
 refine⟨_,R.write (S:=L ++ (b::U') ++ Q) sb hv (by rw[hm];exact h5 ys' row' U' ou) ndm (fun c r=>?_) fun i hi c r hci=>?_⟩
 ·rcases old c r with y|y
  ·exact⟨R.gf j c y,R.ob j c y⟩
  ·exact y.1
 ·rcases old c r with y|y
  ·exact hi (R.dj i j c hci y)
  ·exact y.2 i hci
end
inductive tAt (K:W.Frag)(E:XK)(μ:List Nat)(j:Nat)(g:DS→Res (List Nat))(σ:St)(H:Hp)(Q:VK):Prop
 |mk (Ge B G:Hp) (ρ:DS) (fp:Nat→List Addr) (R:Rw K μ Ge B G H σ ρ fp) (o:OkR E B (g ρ)) (k:∀p,g ρ= .ok p→∀v0 v G' H',σ[j]?=some (some v0)→valP H' p v0 v→Rw K μ Ge B G' H' σ ρ fp→Same G G'→Same H H'→Q v H')
noncomputable def BM (X:Cx)(E:XK)(μ:List Nat)(j:Nat)(e:Expr)(g:DS→Res (List Nat)):Prop:=PE X e (tAt X.K E μ j g)
noncomputable def s0 (j:Nat):DS→Res (List Nat):=fun ρ=>match ρ[j]? with|some (some _)=>.ok []|_=>.bad
section
variable{X:Cx}{E:XK}{μ:List Nat}{r n j:Nat}
theorem qC {x:Str}{px:Pos}(hN:X.N[j]?=some x)(hv:xg X.env.scope x)(hd:(x==("__debug__" :Str))=false:=by decide)(hcd:(x==("__classdict__" :Str))=false:=by decide):BM X E μ j (.Name x px) (s0 j):=by
 intro pins s σ H Q I hZ24;obtain⟨Ge,B,G,ρ,fp,R,ho,k⟩:=hZ24;have hs:∃d,ρ[j]?=some (some d):=by
  unfold s0 at ho;split at ho
  ·rename_i d q;exact⟨d,q⟩
  ·exact ho.elim
 obtain⟨d,hd'⟩:=hs;obtain⟨v,hv',_⟩:=R.sl j d hd';exact ls hN hv hd hcd pins s σ H Q I ⟨v,hv',k [] (by unfold s0;rw[hd']) v v G H hv' rfl R (.refl _) (.refl _)⟩
theorem Rw.node {K:W.Frag}{Ge B G H:Hp}{σ:St}{ρ:DS}{fp:Nat→List Addr}{p:List Nat}{d c:D}{m:Nat}(R:Rw K μ Ge B G H σ ρ fp)(hm:μ.getD j 0=m+p.length)(hr:ρ[j]?=some (some d))(hp:eN p d=some c)(hc:L2.flat c=false){v0 v:V}(hv:σ[j]?=some (some v0))(h:valP H p v0 v):∃A,Ow K G H m c v A:=by
 obtain⟨w,hw,o⟩:=R.sl j d hr;rw[hv]at hw;cases hw;rw[hm]at o;obtain⟨u,A,h1,h2⟩:=o.at hp hc;cases valP.one h h1;exact⟨A,h2⟩
noncomputable def lV (ρ:DS)(j n:Nat)(p:List Nat)(f:List D→Out):Out:=if p.length=n then (match ρ[j]? with
 |some (some t)=>(match eN p t with|some (.lst row)=>f row|_=>.bad)
 |_=>.bad) else .bad
noncomputable def uD (ρ:DS)(j:Nat)(p:List Nat)(row:List D)(d:D):Out:=match ρ[j]? with
 |some (some t)=>if aF row.length=true then .nx (ρ.set j (some (gS p t (.lst (row ++ [d]))))) else .bad
 |_=>.bad
noncomputable def m5 (j n:Nat)(g:DS→Res (List Nat))(f:DS→Res D):DS→Out:=fun ρ=>(g ρ).out fun p=>(f ρ).out fun d=>lV ρ j n p fun row=>uD ρ j p row d
theorem sJ {ρ:DS}{n:Nat}{p:List Nat}{f:List D→Out}{B:Hp}(h:OkO E B (lV ρ j n p f)):p.length=n∧∃t row,ρ[j]?=some (some t)∧eN p t=some (.lst row)∧lV ρ j n p f=f row:=by
 unfold lV at h;by_cases hn:p.length=n
 ·rw[if_pos hn]at h;refine⟨hn,?_⟩;cases hr:ρ[j]? with
  |none=>rw[hr]at h;exact h.elim
  |some od=>
  cases od with
  |none=>rw[hr]at h;exact h.elim
  |some t=>
  rw[hr]at h;dsimp only at h;cases hp:eN p t with
  |none=>rw[hp]at h;exact h.elim
  |some c=>
  rw[hp]at h;cases c with
  |lst row=>exact⟨t,row,rfl,hp,by unfold lV;rw[if_pos hn,hr];dsimp only;rw[hp]⟩
  |_=>exact h.elim
 ·rw[if_neg hn]at h;exact h.elim
theorem sG {o e:Expr}{apos cpos pos:Pos}{g:DS→Res (List Nat)}{f:DS→Res D}{m:Nat}(hm:μ.getD j 0=m+1+n)(hpa:BM X E μ j o g)(h:PZ X E μ m e f)(hex:∀ρ c,f ρ≠ .exc c)
  (hs:starEach [e] X.env=(false,eval e X.env)::starEach [] X.env:=by rfl)
  (hbase:attributeBase o "append" X.env (eval o X.env)=eval o X.env:=by rfl)
  (hfew:((backTo cpos (starEach [e] X.env)).all (fun x=> !x.1)&&(backToKw cpos (keywordEach [] X.env)).all (fun x=>x.1.isSome)&&decide (([e].length+([]:List Keyword).length+if ([]:List Keyword).isEmpty=true then 0 else 1)<30))=true:=by rfl)
  (hline:(apos.endLine==cpos.line)=true:=by rfl)
  (hsw:swapsWith (.Call (.Attribute o "append" apos) [e] [] cpos) none pos.line X.env=pure false:=by rfl) :
  lL X E μ r (.Expr (.Call (.Attribute o "append" apos) [e] [] cpos) pos) (m5 j n g f):=by
 intro pins s σ Ge B G H ρ fp I R ho;have hp:=vY (apos:=apos) (cpos:=cpos) (r:=ot) PySem.F.plainAttrs_list PySem.F.slot_list_append PySem.F.type_list_append (show BD X "list.append" ot from t_) hpa (cM (we h) gI hs) hbase hfew hline hs rfl;refine aE (ku hp hsw pins s σ H {nx:=fun σ' H'=>∃O G' P,m5 j n g f ρ= .nx O∧σ'=σ∧Rw X.K μ Ge B G' H' σ O P∧Same G G',bk:=fun _ _=>False,ct:=fun _ _=>False,rt:=fun _ _=>False} I ⟨Ge,B,G,ρ,fp,R,ho.res,fun p ep v0 v G1 H1 hv hval R1 sg sh=>?_⟩) fun fl s1 M=>?_
 ·have k:=ho.res2 ep (Same.refl B);have hfd:∃d,f ρ= .ok d:=by
   cases q:f ρ with
   |ok d=>exact⟨d,rfl⟩
   |exc c=>exact absurd q (hex ρ c)
   |bad=>rw[q]at k;exact k.elim
  obtain⟨d0,N⟩:=hfd;have kk:=k.res2 N (Same.refl B);have e0:m5 j n g f ρ=lV ρ j n p fun L=>uD ρ j p L d0:=by unfold m5;rw[b_ ep,b_ N]
  obtain⟨hn,t,L,hr,hg,e1⟩:=sJ kk;rw[e1]at kk;subst hn;have e2:uD ρ j p L d0=if aF L.length=true then .nx (ρ.set j (some (gS p t (.lst (L ++ [d0]))))) else .bad:=by unfold uD;rw[hr]
  rw[e2]at kk;by_cases hc:aF L.length=true
  ·have e3:=(e0.trans e1).trans (e2.trans (if_pos hc));obtain⟨v1,b,ys,U,c0,c1,c2,c3,c4,c5,c6,c7,c8,c9⟩:=R1.path hm hr hg;rw[hv]at c0;cases c0;have:=hval.one c1;subst this;refine⟨.inl ⟨rfl,ys,.inl (.inl c2)⟩,?_⟩;refine⟨Ge,B,G1,ρ,fp,R1,by rw[N];trivial,fun d ed v G2 H2 S R2 sg2 sh2 o w=>?_⟩;rw[N]at ed;cases ed;refine⟨b,ys,v,rfl,rfl,sh2 _ _ c2,by rw[←c3.length];exact pR hc,?_⟩;obtain⟨v1,b2,ys2,U2,p0,p1,p2,p3,p4,p5,p6,p7,p8,p9⟩:=R2.path hm hr hg;rw[hv]at p0;cases p0;have:=(c1.mono sh2).one p1;cases this;rw[sh2 _ _ c2]at p2;cases p2;have fr:=R2.freshOf w R1;have neU:∀c,c∈U2→c≠b:=fun c J z=>p5 (z ▸ J);have neS:∀c,c∈S→c≠b:=fun c J z=>(fr c J).2 j (z ▸ p6);obtain⟨P,R3⟩:=p9 (ys ++ [v]) (L ++ [d0]) (U2 ++ S) (.append (p3.mono fun d v A _ hA z=>z.mono (.refl _) fun c J u e=>by rw[ai (neU c (hA c J))];exact e) (.one (o.mono (.refl _) fun c J u e=>by rw[ai (neS c J)];exact e))) (nodup_append.mpr ⟨p4,w.1,fun c J c2 hc2 e=>by subst e;exact(fr c hc2).2 j (p7 c J)⟩) (fun c J=>(mem_append.mp J).imp id (fr c));exact⟨_,_,P,e3,rfl,R3,sg.trans sg2⟩
  ·rw[if_neg hc]at kk;exact kk.elim
 ·cases fl with
  |next=>
   obtain⟨σ',H',I',O,G',P,e1,e2,R',sg⟩:=M;subst e2;exact⟨O,_,G',H',P,e1,I',R',sg⟩
  |brk=>obtain⟨_,_,_,M⟩:=M;exact M.elim
  |cont=>obtain⟨_,_,_,M⟩:=M;exact M.elim
  |ret u=>obtain⟨_,_,_,_,_,M⟩:=M;exact M.elim
end
section
variable{X:Cx}{E:XK}{μ:List Nat}{r n j:Nat}
noncomputable def tH (ρ:DS)(j:Nat)(p:List Nat)(row:List D)(d:D):Out:=match ρ[j]?,d with
 |some (some t),.lst l=>if aF (row.length+l.length)=true then .nx (ρ.set j (some (gS p t (.lst (row ++ l))))) else .bad
 |_,_=>.bad
noncomputable def nI (j n:Nat)(g:DS→Res (List Nat))(f:DS→Res D):DS→Out:=fun ρ=>(g ρ).out fun p=>(f ρ).out fun d=>lV ρ j n p fun row=>tH ρ j p row d
theorem yO {o e:Expr}{apos cpos pos:Pos}{g:DS→Res (List Nat)}{f:DS→Res D}(hm:μ.getD j 0=0+1+n)(hpa:BM X E μ j o g)(h:PZ X E μ 0 e f)(hex:∀ρ c,f ρ≠ .exc c)
  (hs:starEach [e] X.env=(false,eval e X.env)::starEach [] X.env:=by rfl)
  (hbase:attributeBase o "extend" X.env (eval o X.env)=eval o X.env:=by rfl)
  (hfew:((backTo cpos (starEach [e] X.env)).all (fun x=> !x.1)&&(backToKw cpos (keywordEach [] X.env)).all (fun x=>x.1.isSome)&&decide (([e].length+([]:List Keyword).length+if ([]:List Keyword).isEmpty=true then 0 else 1)<30))=true:=by rfl)
  (hline:(apos.endLine==cpos.line)=true:=by rfl)
  (hsw:swapsWith (.Call (.Attribute o "extend" apos) [e] [] cpos) none pos.line X.env=pure false:=by rfl) :
  lL X E μ r (.Expr (.Call (.Attribute o "extend" apos) [e] [] cpos) pos) (nI j n g f):=by
 intro pins s σ Ge B G H ρ fp I R ho;have hp:=vY (apos:=apos) (cpos:=cpos) (r:=ox) PySem.F.plainAttrs_list PySem.F.slot_list_extend PySem.F.type_list_extend (show BD X "list.extend" ox from ua) hpa (cM (we h) gI hs) hbase hfew hline hs rfl;refine aE (ku hp hsw pins s σ H {nx:=fun σ' H'=>∃O G' P,nI j n g f ρ= .nx O∧σ'=σ∧Rw X.K μ Ge B G' H' σ O P∧Same G G',bk:=fun _ _=>False,ct:=fun _ _=>False,rt:=fun _ _=>False} I ⟨Ge,B,G,ρ,fp,R,ho.res,fun p ep v0 v G1 H1 hv hval R1 sg sh=>?_⟩) fun fl s1 L=>?_
 ·have k:=ho.res2 ep (Same.refl B);have hfd:∃d,f ρ= .ok d:=by
   cases q:f ρ with
   |ok d=>exact⟨d,rfl⟩
   |exc c=>exact absurd q (hex ρ c)
   |bad=>rw[q]at k;exact k.elim
  obtain⟨d0,M⟩:=hfd;have kk:=k.res2 M (Same.refl B);have e0:nI j n g f ρ=lV ρ j n p fun J=>tH ρ j p J d0:=by unfold nI;rw[b_ ep,b_ M]
  obtain⟨hn,t,J,hr,hg,e1⟩:=sJ kk;rw[e1]at kk;subst hn;unfold tH at kk;rw[hr]at kk;cases d0 with
  |lst l=>
   dsimp only at kk;by_cases hc:aF (J.length+l.length)=true
   ·have e2:tH ρ j p J (.lst l)= .nx (ρ.set j (some (gS p t (.lst (J ++ l))))):=by unfold tH;rw[hr];exact if_pos hc
    obtain⟨v1,b,ys,U,c0,c1,c2,c3,c4,c5,c6,c7,c8,c9⟩:=R1.path hm hr hg;rw[hv]at c0;cases c0;have:=hval.one c1;subst this;refine⟨.inl ⟨rfl,ys,.inl (.inl c2)⟩,Ge,B,G1,ρ,fp,R1,by rw[M];trivial,fun d ed v G2 H2 S R2 sg2 sh2 o w=>?_⟩;rw[M]at ed;cases ed;obtain⟨_,rp⟩:=o;rw[rep_lst]at rp;obtain⟨q,zs,rfl,lz,rl⟩:=rp;obtain⟨v1,b2,ys2,U2,p0,p1,p2,p3,p4,p5,p6,p7,p8,p9⟩:=R2.path hm hr hg;rw[hv]at p0;cases p0;have:=(c1.mono sh2).one p1;cases this;rw[sh2 _ _ c2]at p2;cases p2;obtain⟨eU,rr⟩:=p3.zero;obtain⟨P,R3⟩:=p9 (ys ++ zs) (J ++ l) [] (.of0 (rr.append rl)) nodup_nil (fun c h=>by cases h);exact⟨b,q,ys,zs,rfl,rfl,sh2 _ _ c2,R2.gh _ _ lz.h,by rw[←rr.length,←rl.length];exact bc hc,_,_,P,(e0.trans e1).trans e2,rfl,R3,sg.trans sg2⟩
   ·rw[if_neg hc]at kk;exact kk.elim
  |_=>exact kk.elim
 ·cases fl with
  |next=>
   obtain⟨σ',H',I',O,G',P,e1,e2,R',sg⟩:=L;subst e2;exact⟨O,_,G',H',P,e1,I',R',sg⟩
  |brk=>obtain⟨_,_,_,L⟩:=L;exact L.elim
  |cont=>obtain⟨_,_,_,L⟩:=L;exact L.elim
  |ret u=>obtain⟨_,_,_,_,_,L⟩:=L;exact L.elim
end
noncomputable def bH (ks:List (List aV))(k:List aV):Option Nat:=ks.findIdx? (fun q=>decide (q=k))
theorem iw {q k:List aV}{ks:List (List aV)}:bH (q::ks) k=if q=k then some 0 else (bH ks k).map (· + 1):=by
 unfold bH;rw[List.findIdx?_cons];by_cases e:q=k
 ·rw[decide_eq_true e,if_pos e];rfl
 ·rw[decide_eq_false e,if_neg e];rfl
theorem jA {k:List aV}:∀{kvs:List (List aV×V)} {m:Nat},bH (kvs.map (·.1)) k=some m→gb kvs k=(kvs.map (·.2))[m]?
 | [],m,h=>by cases h
 |(q,v)::r,m,h=>by
  rw[map_cons,iw]at h;by_cases e:q=k
  ·rw[if_pos e]at h;cases h;exact jg e
  ·rw[if_neg e]at h;cases z:bH (r.map (·.1)) k with
   |none=>rw[z]at h;cases h
   |some m'=>
    rw[z]at h;cases h;rw[gU e,jA z];rfl
theorem la {k:List aV}{ks:List (List aV)}{m:Nat}(h:bH ks k=some m):m<ks.length:=by
 unfold bH at h;exact(List.findIdx?_eq_some_iff_getElem.mp h).1
theorem qT {k:List aV}{kvs:List (List aV×V)}(h:bH (kvs.map (·.1)) k=none):gb kvs k=none:=by
 induction kvs with
 |nil=>rfl
 |cons p r ih=>
  rw[map_cons,iw]at h;by_cases e:p.1=k
  ·rw[if_pos e]at h;cases h
  ·rw[if_neg e]at h;rw[gU e];apply ih;cases z:bH (r.map (·.1)) k with
   |none=>rfl
   |some m'=>rw[z]at h;cases h
theorem mz {k:List aV}{v:V}:∀{kvs:List (List aV×V)},¬k∈kvs.map (·.1)→(kvs.map fun kv=>if kv.1=k then (kv.1,v) else kv)=kvs
 | [],_=>rfl
 |p::r,h=>by
  have h1:¬p.1=k:=fun e=>h (by rw[map_cons,e];exact mem_cons_self ..);rw[map_cons,if_neg h1,mz fun z=>h (dQ z)]
theorem sK {k:List aV}{v:V}:∀{kvs:List (List aV×V)} {m:Nat},(kvs.map (·.1)).Nodup→bH (kvs.map (·.1)) k=some m→(kvs.map fun kv=>if kv.1=k then (kv.1,v) else kv).map (·.1)=kvs.map (·.1)∧(kvs.map fun kv=>if kv.1=k then (kv.1,v) else kv).map (·.2)=(kvs.map (·.2)).set m v
 | [],m,_,h=>by cases h
 |p::r,m,nd,h=>by
  rw[map_cons,iw]at h;rw[map_cons]at nd;obtain⟨n1,n2⟩:=nodup_cons.mp nd;by_cases e:p.1=k
  ·rw[if_pos e]at h;cases h;rw[map_cons,if_pos e,mz (by rw[←e];exact n1)];exact⟨rfl,rfl⟩
  ·rw[if_neg e]at h;cases z:bH (r.map (·.1)) k with
   |none=>rw[z]at h;cases h
   |some m'=>
    rw[z]at h;cases h;obtain⟨a,b⟩:=sK n2 z;rw[map_cons,if_neg e];exact⟨by rw[map_cons,map_cons,a],by rw[map_cons,map_cons,b];rfl⟩
theorem wB {k:List aV}{v:V}{kvs:List (List aV×V)}{m:Nat}(nd:(kvs.map (·.1)).Nodup)(h:bH (kvs.map (·.1)) k=some m):(dU kvs k v).map (·.1)=kvs.map (·.1)∧(dU kvs k v).map (·.2)=(kvs.map (·.2)).set m v:=by
 have e:dU kvs k v=kvs.map fun kv=>if kv.1=k then (kv.1,v) else kv:=by
  unfold dU;rw[if_pos (by rw[jf,jA h,se (by rw[length_map];have:=la h;rwa[length_map]at this)];rfl)]
 rw[e];exact sK nd h
noncomputable def jW (ks:List (List aV))(l:List D)(k:List aV)(d:D):D:=match bH ks k with
 |some m=>.dct ks (l.set m d)
 |none=>.dct (ks ++ [k]) (l ++ [d])
noncomputable def nr (j:Nat)(ks:List (List aV))(l:List D)(ρ:DS)(d i:D):Out:=match i with
 |.tup kd=>(match e7 kd with|some k=>if aF ks.length=true then .nx (ρ.set j (some (jW ks l k d))) else .bad|none=>.bad)
 |_=>.bad
noncomputable def ic (j:Nat)(fi f:DS→Res D):DS→Out:=fun ρ=>match ρ[j]? with
 |some (some (.dct ks l))=>(f ρ).out fun d=>(fi ρ).out fun i=>nr j ks l ρ d i
 |_=>.bad
noncomputable def B0 (ρ:DS)(j:Nat)(p:List Nat)(i:D):Res (List Nat):=match ρ[j]? with
 |some (some d)=>(match eN p d with
  |some (.dct ks l)=>(match i with|.tup kd=>(match e7 kd with|some k=>(match bH ks k with|some m=>.ok (p ++ [m])|none=>.bad)|none=>.bad)|_=>.bad)
  |_=>.bad)
 |_=>.bad
noncomputable def xt (j n:Nat)(g:DS→Res (List Nat))(fi:DS→Res D):DS→Res (List Nat):=fun ρ=>(g ρ).bind fun p=>(fi ρ).bind fun i=>if p.length=n then B0 ρ j p i else .bad
theorem jM {H:Hp}:∀{kvs:List (List aV×V)} {xs:List (List aV×Addr×Value)},Paired (fun (p:List aV×V) (q:List aV×Addr×Value)=>p.1=q.1∧H q.2.1=some (.tup (p.1.map kV))∧RelV p.2 q.2.2) kvs xs→kvs.map (·.1)=xs.map (·.1)
 |_,_,.nil=>rfl
 |_,_,.cons q t=>by rw[map_cons,map_cons,q.1,jM t]
theorem Inv.dnd {X:Cx}{pins:List (Addr×Obj)}{σ:St}{H:Hp}{s:Shared}{a:Addr}{kvs:List (List aV×V)}(I:Inv X pins σ H s)(h:H a=some (.dT kvs)):(kvs.map (·.1)).Nodup:=by
 obtain⟨_,_,xs,pr,_,_,_,_,_,_,_,nd⟩:=I.hok a _ h;rw[jM pr];exact nd
section
variable{X:Cx}{E:XK}{μ:List Nat}{r n j:Nat}
theorem om {pos:Pos}:PN X E (n+1) (.Dict [] [] pos) (fun _=>.ok (.dct [] [])):=by
 intro pins s σ G H ρ I hs hr ho;refine aE (vZ pins s σ H (fun v H'=>∃p,v= .ref p∧H p=none∧H'=aS H p (.dT [])) I fun p hp=>⟨p,rfl,hp,rfl⟩) fun u s' hZ159=>?_;obtain⟨v,H',I',rv,p,e1,hp,e2⟩:=hZ159;subst e1 e2;refine⟨.dct [] [],rfl,.ref p,G,_,[p],I',rv,(Ext.refl hs).hnew hp _,⟨p,[],[],rfl,ao,rfl,rfl,rfl,rfl⟩,by simp,fun a ha=>?_⟩;have e:a=p:=by simpa using ha
 subst e;refine⟨hp,?_⟩;cases q:G a with
 |none=>rfl
 |some o=>have:=hs a o q;rw[hp]at this;cases this
theorem zh {o i:Expr}{pos:Pos}{g:DS→Res (List Nat)}{fi:DS→Res D}{m:Nat}(hu:X.A.units+64<cLine)(hm:μ.getD j 0=m+1+n)(ho:BM X E μ j o g)(hi:PD X E i fi)(hpi:xm i:=by intro _ _;rfl):BM X E μ j (.Subscript o i pos) (xt j n g fi):=by
 intro pins s σ H Q I hZ25;obtain⟨Ge,B,G,ρ,fp,R,hok,k⟩:=hZ25;refine sy (pos:=pos) (by omega) ho (eR hi) hpi pins s σ H Q I ?_;refine⟨Ge,B,G,ρ,fp,R,hok.fst,fun p ep v0 v G1 H1 hv hval R1 sg sh=>⟨lY fp G1 H1,ρ,R1.vh,R1.ro,(hok.snd ep (Same.refl B)).fst.le R1.bh,fun di ei vi G3 H3 x3 ri=>?_⟩⟩;have J:=(hok.snd ep (Same.refl B)).snd ei (Same.refl B);by_cases hn:p.length=n
 ·subst hn;rw[if_pos rfl]at J;have e0:xt j p.length g fi ρ=B0 ρ j p di:=by unfold xt;rw[ep,aw,ei,aw,if_pos rfl]
  unfold B0 at J;cases hr:ρ[j]? with
  |none=>rw[hr]at J;exact J.elim
  |some od=>
  cases od with
  |none=>rw[hr]at J;exact J.elim
  |some d=>
  rw[hr]at J;dsimp only at J;cases hp:eN p d with
  |none=>rw[hp]at J;exact J.elim
  |some c=>
  rw[hp]at J;cases c with
  |dct ks l=>
   dsimp only at J;cases di with
   |tup kd=>
    dsimp only at J;cases q1:e7 kd with
    |none=>rw[q1]at J;exact J.elim
    |some kq=>
    rw[q1]at J;dsimp only at J;cases q2:bH ks kq with
    |none=>rw[q2]at J;exact J.elim
    |some m'=>
    obtain⟨A,a,K,T,e1,e2,e4,e3,h1⟩:=R1.node (m:=m+1) hm hr hp u5 hv hval;subst e1 e4;rw[rep_tup]at ri;obtain⟨b,xs,rfl,tb,rk⟩:=ri;have hx:=hJ rk q1;subst hx;have hlt:m'<(K.map (·.2)).length:=by have:=la q2;rwa[length_map]at this ⊢
    have hw:(K.map (·.2))[m']?=some ((K.map (·.2))[m']):=se hlt;refine⟨a,(K.map (·.2))[m'],rfl,.inr ⟨K,kq,b,.inl (x3.hh _ _ e2),rfl,x3.gh _ _ tb.h,by rw[jA q2];exact hw.symm⟩,?_⟩;refine k (p ++ [m']) (e0.trans ?_) v0 _ (mi (nO fp) G3) H3 hv ((hval.mono x3.hh).snoc (x3.hh _ _ e2) hw) (R1.grow x3) (sg.trans (R1.gg x3)) (sh.trans x3.hh);unfold B0;rw[hr];dsimp only;rw[hp];dsimp only;rw[q1];dsimp only;rw[q2]
   |_=>exact J.elim
  |_=>exact J.elim
 ·rw[if_neg hn]at J;exact J.elim
theorem ol {x:Str}{i e:Expr}{px tpos pos:Pos}{fi f:DS→Res D}(hu:X.A.units+64<cLine)(hm:μ.getD j 0=n+1)(hN:X.N[j]?=some x)(hv:xg X.env.scope x)(hi:PD X E i fi)(h:PZ X E μ n e f)
  (hd:(x==("__debug__" :Str))=false:=by decide) (hcd:(x==("__classdict__" :Str))=false:=by decide)
  (hs:swapsWith e (some (.Subscript (.Name x px) i tpos)) pos.line X.env=pure false:=by rfl) :
  lL X E μ r (.Assign [.Subscript (.Name x px) i tpos] e pos) (ic j fi f):=by
 intro pins s σ Ge B G H g Y I R ho;have hslot:∃M l,g[j]?=some (some (.dct M l)):=by
  unfold ic at ho;split at ho
  ·rename_i M l q;exact⟨M,l,q⟩
  ·exact ho.elim
 obtain⟨M,l,hr⟩:=hslot;have eo:ic j fi f g=(f g).out fun d=>(fi g).out fun i=>nr j M l g d i:=by
  unfold ic;rw[hr]
 rw[eo]at ho ⊢;have top:∀{G H:Hp},Rw X.K μ Ge B G H σ g Y→∃a J T,σ[j]?=some (some (.ref a))∧H a=some (.dT J)∧J.map (·.1)=M∧Y j=a::T∧AllW (Ow X.K G H n) l (J.map (·.2)) T:=fun {G H} R=>by
  obtain⟨v,hv,o⟩:=R.sl j _ hr;rw[hm]at o;obtain⟨a,J,T,e1,e2,e4,e3,h1⟩:=o;subst e1;exact⟨a,J,T,hv,e2,e4,e3,h1⟩
 obtain⟨a,J,T0,h1,h2,h4,h3,h5⟩:=top R;have nd:=I.dnd h2;have hp:=yU (pos:=pos) (pos':=tpos) (by omega) (ls (pos:=px) hN hv hd hcd) (eR hi) (we h) hs;refine aE (hp pins s σ H {nx:=fun σ' H'=>∃ρ' G' P,((f g).out fun d=>(fi g).out fun i=>nr j M l g d i)= .nx ρ'∧σ'=σ∧Rw X.K μ Ge B G' H' σ ρ' P∧Same G G',bk:=fun _ _=>False,ct:=fun _ _=>False,rt:=fun _ _=>False} I ⟨Ge,B,G,g,Y,R,ho.res,fun d ed v G1 H1 S R1 sg sh o w=>?_⟩) fun fl s1 F=>?_
 ·have k:=ho.res2 ed (Same.refl B);refine⟨_,h1,lY Y G1 H1,g,R1.vh,R1.ro,k.res.le R1.bh,fun di ei vi G3 H3 x3 ri=>?_⟩;have kk:=k.res2 ei (Same.refl B);have e0:((f g).out fun d=>(fi g).out fun i=>nr j M l g d i)=nr j M l g d di:=by rw[b_ ed,b_ ei]
  unfold nr at kk;cases di with
  |tup kd=>
   dsimp only at kk;cases q1:e7 kd with
   |none=>rw[q1]at kk;exact kk.elim
   |some O=>
   rw[q1]at kk;dsimp only at kk;by_cases t:aF M.length=true
   ·have e0:=e0.trans (show nr j M l g d (.tup kd)= .nx (g.set j (some (jW M l O d))) by unfold nr;dsimp only;rw[q1];exact if_pos t);rw[rep_tup]at ri;obtain⟨b,xs,rfl,tb,rk⟩:=ri;have hx:=hJ rk q1;subst hx;have Z:=R1.grow x3;obtain⟨a2,kvs2,T,g1,g2,g4,g3,g5⟩:=top Z;rw[h1]at g1;cases g1;rw[x3.hh _ _ (sh _ _ h2)]at g2;cases g2;have hcS:∀b∈S,∃u,H1 b=some u∧¬nV u:=fun b p=>let ⟨u,e,c⟩:=o.cell b p;⟨u,e,c.nokey⟩
    have w3:=w.keep hcS (fun i b p=>R.apart w i b p) x3;have fr:=Z.freshOf w3 R;have o3:=o.mono (R1.gg x3) fun b _ u e=>x3.hh b u e;have hnd:=Z.nd j;rw[g3]at hnd;obtain⟨haT,hTn⟩:=nodup_cons.mp hnd;have W:a∈Y j:=by rw[g3];exact mem_cons_self ..
    have U:∀b∈T,b∈Y j:=fun b p=>by rw[g3];exact dQ p
    have neT:∀b,b∈T→b≠a:=fun b p z=>haT (z ▸ p);have neS:∀b,b∈S→b≠a:=fun b p z=>(fr b p).2 j (z ▸ W);have fin:∀(T':List Addr) (d':D),Ow X.K (mi (nO Y) G3) (aS H3 a (.dT (dU J O v))) (n+1) d' (.ref a) (a::T')→T'.Nodup→(∀c∈T',c∈T∨c∈S)→jW M l O d=d'→∃P,Rw X.K μ Ge B (mi (nO Y) G3) (aS H3 a (.dT (dU J O v))) σ (g.set j (some d')) P:=fun T' d' ow ndT hT' _=>by
     refine⟨_,Z.write W h1 (by rw[hm];exact ow) (nodup_cons.mpr ⟨fun z=>?_,ndT⟩) (fun c t=>?_) fun i hi c t hci=>?_⟩
     ·rcases hT' a z with y|y
      ·exact haT y
      ·exact neS a y rfl
     ·rcases mem_cons.mp t with z|z
      ·subst z;exact⟨Z.gf j _ W,Z.ob j _ W⟩
      ·rcases hT' c z with y|y
       ·exact⟨Z.gf j _ (U c y),Z.ob j _ (U c y)⟩
       ·exact(fr c y).1
     ·rcases mem_cons.mp t with z|z
      ·subst z;exact hi (Z.dj i j _ hci W)
      ·rcases hT' c z with y|y
       ·exact hi (Z.dj i j _ hci (U c y))
       ·exact(fr c y).2 i hci
    have key:∃P,Rw X.K μ Ge B (mi (nO Y) G3) (aS H3 a (.dT (dU J O v))) σ (g.set j (some (jW M l O d))) P:=by
     cases q2:bH M O with
     |some m=>
      rw[←h4]at q2;obtain⟨y1,y2⟩:=wB (v:=v) nd q2;have hml:m<l.length:=by rw[g5.length,length_map];have:=la q2;rwa[length_map]at this
      obtain⟨w0,A,L,Q,f1,f2,f3,f4⟩:=g5.at (se hml);have hT:=hTn;rw[f2]at hT;have V:∀c,c∈L∨c∈Q→c∈T:=fun c t=>by rw[f2];rcases t with z|z;exact mem_append_left _ (mem_append_left _ z);exact mem_append_right _ z
      have big:=f4 (Ow X.K (mi (nO Y) G3) (aS H3 a (.dT (dU J O v))) n) (fun d v C hC z=>z.mono (.refl _) fun b p u e=>by rw[ai (neT b (V b (hC b p)))];exact e) d v S (o3.mono (.refl _) fun b p u e=>by rw[ai (neS b p)];exact e);have ed':jW M l O d= .dct M (l.set m d):=by unfold jW;rw[←h4,q2]
      rw[ed'];refine fin (L ++ S ++ Q) _ ⟨a,dU J O v,L ++ S ++ Q,rfl,ao,by rw[y1,h4],rfl,by rw[y2];exact big⟩ (mD hT w.1 fun c t=>.inr ⟨fun z=>(fr c t).2 j (U c (V c (.inl z))),fun z=>(fr c t).2 j (U c (V c (.inr z)))⟩) (fun c t=>?_) ed'
      rcases mem_append.mp t with z|z
      ·rcases mem_append.mp z with y|y
       ·exact .inl (V c (.inl y))
       ·exact .inr y
      ·exact .inl (V c (.inr z))
     |none=>
      have q3:=q2;rw[←h4]at q3;have ek:dU J O v=J ++ [(O,v)]:=wA v (qT q3);have ed':jW M l O d= .dct (M ++ [O]) (l ++ [d]):=by unfold jW;rw[q2]
      rw[ed'];refine fin (T ++ S) _ ⟨a,dU J O v,T ++ S,rfl,ao,by rw[ek,map_append,h4];rfl,rfl,?_⟩ (nodup_append.mpr ⟨hTn,w.1,fun b p c t e=>by subst e;exact(fr b t).2 j (U b p)⟩) (fun c t=>mem_append.mp t) ed';rw[ek,map_append];refine AllW.append (g5.mono fun d v A _ hA z=>z.mono (.refl _) fun b p u e=>by rw[ai (neT b (hA b p))];exact e) (.one (o3.mono (.refl _) fun b p u e=>by rw[ai (neS b p)];exact e))
    obtain⟨P,R4⟩:=key;have h9:J.length<sizeLine:=by
     have e9:J.length=M.length:=by rw[←h4,length_map]
     rw[e9];exact pR t
    exact⟨a,_,rfl,.inr ⟨J,O,b,x3.hh _ _ (sh _ _ h2),rfl,x3.gh _ _ tb.h,h9,rfl⟩,_,_,P,e0,rfl,R4,sg.trans (R1.gg x3)⟩
   ·rw[if_neg t]at kk;exact kk.elim
  |_=>exact kk.elim
 ·cases fl with
  |next=>
   obtain⟨σ',H',I',ρ',G',P,e1,e2,R',sg⟩:=F;subst e2;exact⟨ρ',_,G',H',P,e1,I',R',sg⟩
  |brk=>obtain⟨_,_,_,F⟩:=F;exact F.elim
  |cont=>obtain⟨_,_,_,F⟩:=F;exact F.elim
  |ret u=>obtain⟨_,_,_,_,_,F⟩:=F;exact F.elim
end
section
variable{X:Cx}{E:XK}{μ:List Nat}{r n:Nat}
noncomputable def DL (X:Cx)(μ:List Nat)(st:Stmt)(F:DS→Out):Prop:=
 ∀(Et:Value→Shared→Prop) (pins:List (Addr×Obj)) (s:Shared) (σ:St) (Ge B G H:Hp) (ρ:DS) (fp:Nat→List Addr),Inv X pins σ H s→Rw X.K μ Ge B G H σ ρ fp→F ρ≠ .bad→
  (∀c,F ρ= .exc c→∀G1 H1 s1 ev s2,Inv X pins σ H1 s1→Rw X.K μ Ge B G1 H1 σ ρ fp→Same G G1→CXF X.prog X.w X.stack H1 s1 (fun cls _ H'=>cls= .ref c∧Same H1 H') ev s2→Et ev s2)→
  wpAny (model X.prog X.w) X.A (exec st X.env) (SM X μ 0 Ge B G pins (F ρ)) Et s
theorem CXF.wk {P:Program}{w:World}{st:List Env}{H:Hp}{s s':Shared}{E E':XK}{ev:Value}(k:∀c a H,E c a H→E' c a H)(h:CXF P w st H s E ev s'):CXF P w st H s E' ev s':=by
 obtain⟨e,cls,a0,B,H',h1,h2,h3,h4,h5,h6,h7,h8,h9,q⟩:=h;exact⟨e,cls,a0,B,H',h1,h2,h3,h4,h5,h6,h7,h8,h9,k _ _ _ q⟩
end
section
variable{X:Cx}{E:XK}{μ:List Nat}{r n:Nat}
end
theorem sr:∀(ρ:DS) (c:Addr),pN ρ≠ .exc c:=fun ρ c h=>by cases h
theorem jR {f:DS→Res D}{g:DS→Res (List D)}(hf:∀ρ c,f ρ≠ .exc c)(hg:∀ρ c,g ρ≠ .exc c):∀ρ c,pC f g ρ≠ .exc c:=fun ρ c h=>by
 unfold pC at h;cases q:f ρ with
 |ok d=>
  rw[q]at h;cases q2:g ρ with
  |ok d=>rw[q2]at h;cases h
  |exc e=>exact hg ρ e q2
  |bad=>rw[q2]at h;cases h
 |exc e=>exact hf ρ e q
 |bad=>rw[q]at h;cases h
theorem vJ {μ:List Nat}{f:DS→Res D}(hf:∀ρ c,f ρ≠ .exc c):∀ρ c,k8 μ f ρ≠ .exc c:=fun ρ c h=>hf _ c h
theorem oe {f:DS→Res (List D)}(hf:∀ρ c,f ρ≠ .exc c):∀ρ c,iC f ρ≠ .exc c:=fun ρ c h=>by
 unfold iC at h;cases q:f ρ with
 |ok d=>rw[q,aw]at h;split at h <;> cases h
 |exc e=>exact hf ρ e q
 |bad=>rw[q]at h;cases h
section
variable{j jr n m:Nat}{g:DS→Res (List Nat)}{fi f:DS→Res D}{ρ:DS}{p:List Nat}{t d:D}{l rows:List D}{c:Int}
theorem uO (h:ρ[j]?=some (some d)):s0 j ρ= .ok []:=by unfold s0;rw[h]
theorem r9 {F:List D→Out}(hn:p.length=n)(ht:ρ[j]?=some (some t))(hp:eN p t=some (.lst rows)):lV ρ j n p F=F rows:=by
 unfold lV;rw[if_pos hn,ht];dsimp only;rw[hp]
theorem xJ (hg:g ρ= .ok p)(hf:f ρ= .ok d)(hn:p.length=n)(ht:ρ[j]?=some (some t))(hp:eN p t=some (.lst rows))(hr:rows.length≤100000):m5 j n g f ρ= .nx (ρ.set j (some (gS p t (.lst (rows ++ [d]))))):=by
 unfold m5;rw[hg,bN,hf,bN,r9 hn ht hp];unfold uD;rw[ht];exact if_pos (decide_eq_true hr)
theorem xL (hg:g ρ= .ok p)(hf:f ρ= .ok (.lst l))(hn:p.length=n)(ht:ρ[j]?=some (some t))(hp:eN p t=some (.lst rows))(hr:rows.length+l.length≤100000):nI j n g f ρ= .nx (ρ.set j (some (gS p t (.lst (rows ++ l))))):=by
 unfold nI;rw[hg,bN,hf,bN,r9 hn ht hp];unfold tH;rw[ht];exact if_pos (decide_eq_true hr)
theorem nA {ks:List (List aV)}{k:List aV}{kd:List D}(ht:ρ[j]?=some (some (.dct ks l)))(hf:f ρ= .ok d)(hi:fi ρ= .ok (.tup kd))(hk:e7 kd=some k)(hl:ks.length≤100000):ic j fi f ρ= .nx (ρ.set j (some (jW ks l k d))):=by
 unfold ic;rw[ht];dsimp only;rw[hf,bN,hi,bN];unfold nr;dsimp only;rw[hk];exact if_pos (decide_eq_true hl)
theorem Ac {ks:List (List aV)}{k:List aV}{kd:List D}(hg:g ρ= .ok p)(hn:p.length=n)(hi:fi ρ= .ok (.tup kd))(hk:e7 kd=some k)(ht:ρ[j]?=some (some t))(hp:eN p t=some (.dct ks l))(hm:bH ks k=some m):xt j n g fi ρ= .ok (p ++ [m]):=by
 unfold xt;rw[hg,aw,hi,aw,if_pos hn];unfold B0;rw[ht];dsimp only;rw[hp];dsimp only;rw[hk];dsimp only;rw[hm]
end
theorem tW {α:Type}{P:List α→Prop}(h:∀a,P [a]):∀us:List α,us.length=1→P us
 | [a],_=>h a
theorem lS {α:Type}{P:List α→Prop}(h:∀a b,P [a,b]):∀us:List α,us.length=2→P us
 | [a,b],_=>h a b
theorem jU {α:Type}{P:List α→Prop}(h:∀a b c,P [a,b,c]):∀us:List α,us.length=3→P us
 | [a,b,c],_=>h a b c
theorem AO {α:Type}{P:List α→Prop}(h:∀a b c d,P [a,b,c,d]):∀us:List α,us.length=4→P us
 | [a,b,c,d],_=>h a b c d
section
variable{K:W.Frag}{f:Addr}{x y:Str}{s:Stmt}{m:Str}{t c:Nat}
noncomputable def kf (x y:Str)(s:Stmt)(m:Str)(t c:Nat):Obj:=⟨.type "function",none,.func (W.fnOf x y (fG s) (bv s) (af s) .none .none .none (.str m t) none (.ref c) .none),#[]⟩
inductive FK (K:W.Frag)(f:Addr)(x y:Str)(s:Stmt):Prop
 |mk (m:Str) (t c:Nat) (l:K.lookup f=some (kf x y s m t c)) (d:W.codeIn K (.ref c) y=true)
inductive FT (K:W.Frag)(x:Str)(s:Stmt):Prop
 |mk (f:Addr) (a:W.nsIn K mainGlobals x=some (some (.ref f))) (g:FK K f x x s)
inductive FM (K:W.Frag)(C:Addr)(x y:Str)(s:Stmt):Prop
 |mk (f:Addr) (a:W.findIn K (.ref C) x=some (some (.ref f))) (g:FK K f x y s)
theorem nT (l:K.lookup f=some (kf x y s m t c)):W.keepIn K (.ref f)=true:=by
 unfold W.keepIn;dsimp only;rw[l];rfl
theorem FK.kp:FK K f x y s→W.keepIn K (.ref f)=true
 |⟨_,_,_,l,_⟩=>nT l
theorem FK.fn:FK K f x y s→W.isFn K (.ref f)=true
 |⟨_,_,_,l,_⟩=>by
  unfold W.isFn W.typeIn;dsimp only;rw[l];rfl
theorem FK.mk1:FK K f x y s→∃fd,Fun K x y s f fd
 |⟨_,_,_,l,d⟩=>⟨_,u9 l d (nT l)⟩
theorem jk {h:Heap}{mg:Str→Option Value}{ps:List Str}(X:K.In h)(G:h.Ns mainGlobals mg)(g:FT K x s)
  (b:∀(kV doc pm:Value) (an:Option Addr) (cdv ct:Value) (us:List Value),us.length=ps.length→bindArgs (W.fnOf x x (fG s) (bv s) (af s) .none kV doc pm an cdv ct) ⟨us,[]⟩=pure (ps.zip us)):Sta K mg x s ps:=by
 obtain⟨f,a,g⟩:=g;obtain⟨fd,F⟩:=g.mk1;exact⟨f,fd,F,F.binds b,W.mg_of X G a,g.kp⟩
end
end L2
namespace L2
open PySem
noncomputable def RawD (h:Heap)(d:Addr)(es:Array DictEntry)(ep:Nat):Prop:=∃o,h.get? d=some o∧o.ExactDict∧o.data= .dict es ep
theorem RawD.ty {s:Shared}{d:Addr}{es:Array DictEntry}{ep:Nat}(r:RawD s.heap d es ep):s.TypeIs (.ref d) "dict" :=let ⟨o,e,x,_⟩:=r;⟨o,e,x.1⟩
section
variable{P:Program}{w:World}{A:Around}{E:Value→Shared→Prop}{s:Shared}{d it:Addr}{es:Array DictEntry}{ep i:Nat}
theorem wC {Q:Value→Shared→Prop}(hd:(d==sysModules)=false)(r:RawD s.heap d es ep)
  (q:Q (.ref s.heap.objs.size) {s with heap:=s.heap.push ⟨.type "dict_keyiterator",none,.fields #[.ref d,.int 0 0,.int es.size 0,.int ep 0],#[]⟩}):wpAny (model P w) A (pyIter (.ref d)) Q E s:=by
 have ty:=r.ty;obtain⟨o,e,x,dt⟩:=r;refine wpAny_pyIter_slot ty PySem.F.slot_dict_iter (wpAny_call_entry PySem.F.slot_dict_iter ty PySem.F.entry_dict_iter ?_ (PySem.F.args_dict_iter_1 _));unfold Builtin.«dict.__iter__» Builtin.Dict.dictSlotNone;refine wpAny_bind (wpAny_bind (wpAny_notOrdered_dict ty (by show wpAny _ _ (pure (Value.ref d)) _ _ s;refine wpAny_pure ?_;show wpAny _ _ (Builtin.Dict.showsAll d >>= _) _ _ s;unfold Builtin.Dict.showsAll;rw[if_neg (by rw[hd];exact Bool.false_ne_true)];refine wpAny_bind (wpAny_pure ?_);refine wpAny_bind (wpAny_dictEntries e dt ?_);refine wpAny_bind (wpAny_dictEpoch e dt ?_);refine wpAny_bind (wpAny_newObj_type (wpAny_pure ⟨_,rfl,"dict_keyiterator",_,⟨_,Heap.get?_push_size _ rfl,rfl⟩,PySem.F.slot_dict_keyiterator_next.lookup,?_⟩));simpa [rawInt] using q)))
theorem wE {Q:Option Value→Shared→Prop}(hit:s.heap.IsKeyIter it d i es.size ep)(r:RawD s.heap d es ep)(hi:i<es.size)
  (q:∀h',h'.IsKeyIter it d (i+1) es.size ep→Heap.SameBut it s.heap h'→Q (some es[i].key) {s with heap:=h'}):wpAny (model P w) A (pyNext (.ref it)) Q E s:=by
 have it':=hit;obtain⟨io,e1,c1,d1⟩:=it';obtain⟨o,e,x,dt⟩:=r;unfold pyNext;have own:Builtin.Dict_items.ownsTuple "dict_keyiterator" =false:=by decide
 refine wpAny_bind (wpAny_attempt (wpAny_callSpecial?_slot (name:=Str.ofString "__next__") hit.typeIs PySem.F.slot_dict_keyiterator_next (wpAny_call_entry PySem.F.slot_dict_keyiterator_next hit.typeIs PySem.F.entry_dict_keyiterator_next ?_ (PySem.F.args_dict_keyiterator_next_1 _))));refine wpAny_bind (wpAny_pure (wpAny_bind (wpAny_bind ?_)))
 first|refine wpAny_bind (wpAny_typeNameOfWhole_keyiter hit.typeIs (wpAny_pure (wpAny_bind (wpAny_fieldsOf e1 d1 ?_))))|refine wpAny_bind (wpAny_typeNameOf_keyiter hit.typeIs (wpAny_pure (wpAny_bind (wpAny_fieldsOf e1 d1 ?_))))
 simp only[own,false_eq_true,if_false];show wpAny _ _ (if (Value.ref d==Value.none)=true then _ else _) _ _ s
 rw[if_neg (show ¬((Value.ref d==Value.none)=true) from Bool.false_ne_true)];refine wpAny_bind (wpAny_pure (wpAny_bind (wpAny_dictEntries e dt ?_)));rw[if_neg (by simp)];refine wpAny_bind (wpAny_pure (wpAny_bind (wpAny_dictEpoch e dt ?_)));rw[if_neg (by simp)];refine wpAny_pure ?_;simp only[show ¬((i:Int)<0) from by omega,if_false,toNat_natCast,getElem?_eq_getElem hi];refine wpAny_bind ?_
 first|refine wpAny_bind (wpAny_typeNameOfWhole_keyiter hit.typeIs (wpAny_pure (wpAny_bind (wpAny_isOneOf_keyiter hit.typeIs ?_))))|refine wpAny_bind (wpAny_typeNameOf_keyiter hit.typeIs (wpAny_pure (wpAny_bind (wpAny_isOneOf_keyiter hit.typeIs ?_))))
 show wpAny _ _ (setField (.ref it) 1 (rawInt ((i:Int)+1)) >>= _) _ _ s;refine wpAny_bind (wpAny_setField e1 d1 (by simp) ?_);have nx:(s.heap.update it (Obj.mapFields (·.setIfInBounds 1 (rawInt ((i:Int)+1))))).IsKeyIter it d (i+1) es.size ep:=⟨_,Heap.get?_update_self _ e1 (Obj.isFreed_of_fields (Obj.data_mapFields d1 _)),(Obj.cls_mapFields ..).trans c1,by rw[Obj.data_mapFields d1];simp[rawInt]⟩;refine wpAny_bind (wpAny_holding (wpAny_bind (wpAny_isOneOf_keyiter (s:={s with heap:=s.heap.update it (Obj.mapFields (·.setIfInBounds 1 (rawInt ((i:Int)+1))))}) nx.typeIs ?_)))
 show wpAny _ _ (pure es[i].key) _ _ _;exact wpAny_pure (wpAny_pure ⟨_,rfl,wpAny_pure (q _ nx (Heap.SameBut.update ..))⟩)
theorem yW {Q:Option Value→Shared→Prop}(hh:A.handled=none)(hit:s.heap.IsKeyIter it d i es.size ep)(r:RawD s.heap d es ep)(hi:es.size≤i)
  (q:∀h',Heap.ExtBut it s.heap h'→Q none {s with heap:=h'}):wpAny (model P w) A (pyNext (.ref it)) Q E s:=by
 have it':=hit;obtain⟨io,e1,c1,d1⟩:=it';obtain⟨o,e,x,dt⟩:=r;unfold pyNext;have own:Builtin.Dict_items.ownsTuple "dict_keyiterator" =false:=by decide
 refine wpAny_bind (wpAny_attempt (wpAny_callSpecial?_slot (name:=Str.ofString "__next__") hit.typeIs PySem.F.slot_dict_keyiterator_next (wpAny_call_entry PySem.F.slot_dict_keyiterator_next hit.typeIs PySem.F.entry_dict_keyiterator_next ?_ (PySem.F.args_dict_keyiterator_next_1 _))));refine wpAny_bind (wpAny_pure (wpAny_bind (wpAny_bind ?_)))
 first|refine wpAny_bind (wpAny_typeNameOfWhole_keyiter hit.typeIs (wpAny_pure (wpAny_bind (wpAny_fieldsOf e1 d1 ?_))))|refine wpAny_bind (wpAny_typeNameOf_keyiter hit.typeIs (wpAny_pure (wpAny_bind (wpAny_fieldsOf e1 d1 ?_))))
 simp only[own,false_eq_true,if_false];show wpAny _ _ (if (Value.ref d==Value.none)=true then _ else _) _ _ s
 rw[if_neg (show ¬((Value.ref d==Value.none)=true) from Bool.false_ne_true)];refine wpAny_bind (wpAny_pure (wpAny_bind (wpAny_dictEntries e dt ?_)));rw[if_neg (by simp)];refine wpAny_bind (wpAny_pure (wpAny_bind (wpAny_dictEpoch e dt ?_)));rw[if_neg (by simp)];refine wpAny_pure ?_;simp only[show ¬((i:Int)<0) from by omega,if_false,toNat_natCast,Array.getElem?_eq_none hi];refine wpAny_bind ?_
 first|refine wpAny_bind (wpAny_typeNameOfWhole_keyiter hit.typeIs (wpAny_pure ?_));show wpAny _ _ (setField (.ref it) 0 .none >>= _) _ _ s|refine wpAny_bind (wpAny_typeNameOf_keyiter hit.typeIs (wpAny_pure ?_));show wpAny _ _ (setField (.ref it) 0 .none >>= _) _ _ s
 refine wpAny_bind (wpAny_setField e1 d1 (by simp) ?_);show wpAny _ _ (newExc (.type "StopIteration") [] >>= _) _ _ _;refine wpAny_bind ?_;simp only[newExc,newTuple];refine wpAny_bind (wpAny_newObj_type ?_ (by size_fits));refine wpAny_bind (m:=firstArgMember _ _) (wpAny_of_eq (a:=Value.none) (by first|rfl|(simp only[firstArgMember];rfl)) ?_)
 refine wpAny_newObj_type ?_ (by size_fits);simp only[raiseNew];refine wpAny_bind (wpAny_handled ?_);rw[show A.in1.handled=none from hh];refine wpAny_bind (wpAny_pure (wpAny_throw ?_));refine wpAny_bind (wpAny_isInstance (T:= "StopIteration") (b:=true) ⟨_,Heap.get?_push_size _ rfl,rfl⟩ isSubtype_stop ?_);exact wpAny_pure (q _ (((Heap.SameBut.update ..).extBut.push _).push _))
theorem uk {v:Addr}{Q:Value→Shared→Prop}(hv:s.heap.IsValuesView v d)(r:RawD s.heap d es ep)
  (q:Q (.ref s.heap.objs.size) {s with heap:=s.heap.push ⟨.type "dict_valueiterator",none,.fields #[.ref d,.int 0 0,.int es.size 0,.int ep 0],#[]⟩}):wpAny (model P w) A (pyIter (.ref v)) Q E s:=by
 have hv':=hv;obtain⟨vo,e1,c1,d1⟩:=hv';obtain⟨o,e,x,dt⟩:=r;refine wpAny_pyIter_slot hv.typeIs PySem.F.slot_dict_values_iter (wpAny_call_entry PySem.F.slot_dict_values_iter hv.typeIs PySem.F.entry_dict_values_iter ?_ (PySem.F.args_dict_values_iter_1 _));unfold Builtin.«dict_values.__iter__»;refine wpAny_bind (wpAny_pure ?_);refine wpAny_bind ?_;unfold Builtin.Dict_items.dictOf;refine wpAny_bind (wpAny_field e1 d1 (x:=.ref d) rfl (wpAny_pure ?_));refine wpAny_bind ?_;unfold Builtin.Dict_items.newIterator;refine wpAny_bind (wpAny_dictEntries e dt ?_);refine wpAny_bind (wpAny_dictEpoch e dt ?_);have own:Builtin.Dict_items.ownsTuple "dict_valueiterator" =false:=by decide
 simp only[own,false_eq_true,if_false];refine wpAny_newObj_type (wpAny_pure ⟨_,rfl,"dict_valueiterator",_,⟨_,Heap.get?_push_size _ rfl,rfl⟩,PySem.F.slot_dict_valueiterator_next.lookup,?_⟩);simpa [rawInt] using q
theorem ul {Q:Option Value→Shared→Prop}(hit:s.heap.IsValIter it d i es.size ep)(r:RawD s.heap d es ep)(hi:i<es.size)
  (q:∀h',h'.IsValIter it d (i+1) es.size ep→Heap.SameBut it s.heap h'→Q (some es[i].val) {s with heap:=h'}):wpAny (model P w) A (pyNext (.ref it)) Q E s:=by
 have it':=hit;obtain⟨io,e1,c1,d1⟩:=it';obtain⟨o,e,x,dt⟩:=r;unfold pyNext;have own:Builtin.Dict_items.ownsTuple "dict_valueiterator" =false:=by decide
 refine wpAny_bind (wpAny_attempt (wpAny_callSpecial?_slot (name:=Str.ofString "__next__") hit.typeIs PySem.F.slot_dict_valueiterator_next (wpAny_call_entry PySem.F.slot_dict_valueiterator_next hit.typeIs PySem.F.entry_dict_valueiterator_next ?_ (PySem.F.args_dict_valueiterator_next_1 _))));refine wpAny_bind (wpAny_pure (wpAny_bind (wpAny_bind ?_)))
 first|refine wpAny_bind (wpAny_typeNameOfWhole_valiter hit.typeIs (wpAny_pure (wpAny_bind (wpAny_fieldsOf e1 d1 ?_))))|refine wpAny_bind (wpAny_typeNameOf_valiter hit.typeIs (wpAny_pure (wpAny_bind (wpAny_fieldsOf e1 d1 ?_))))
 simp only[own,false_eq_true,if_false];show wpAny _ _ (if (Value.ref d==Value.none)=true then _ else _) _ _ s
 rw[if_neg (show ¬((Value.ref d==Value.none)=true) from Bool.false_ne_true)];refine wpAny_bind (wpAny_pure (wpAny_bind (wpAny_dictEntries e dt ?_)));rw[if_neg (by simp)];refine wpAny_bind (wpAny_pure (wpAny_bind (wpAny_dictEpoch e dt ?_)));rw[if_neg (by simp)];refine wpAny_pure ?_;simp only[show ¬((i:Int)<0) from by omega,if_false,toNat_natCast,getElem?_eq_getElem hi];refine wpAny_bind ?_
 first|refine wpAny_bind (wpAny_typeNameOfWhole_valiter hit.typeIs (wpAny_pure (wpAny_bind (wpAny_isOneOf_valiter hit.typeIs ?_))))|refine wpAny_bind (wpAny_typeNameOf_valiter hit.typeIs (wpAny_pure (wpAny_bind (wpAny_isOneOf_valiter hit.typeIs ?_))))
 show wpAny _ _ (setField (.ref it) 1 (rawInt ((i:Int)+1)) >>= _) _ _ s;refine wpAny_bind (wpAny_setField e1 d1 (by simp) ?_);have nx:(s.heap.update it (Obj.mapFields (·.setIfInBounds 1 (rawInt ((i:Int)+1))))).IsValIter it d (i+1) es.size ep:=⟨_,Heap.get?_update_self _ e1 (Obj.isFreed_of_fields (Obj.data_mapFields d1 _)),(Obj.cls_mapFields ..).trans c1,by rw[Obj.data_mapFields d1];simp[rawInt]⟩;refine wpAny_bind (wpAny_holding (wpAny_bind (wpAny_isOneOf_valiter (s:={s with heap:=s.heap.update it (Obj.mapFields (·.setIfInBounds 1 (rawInt ((i:Int)+1))))}) nx.typeIs (wpAny_bind (wpAny_isOneOf_valiter (s:={s with heap:=s.heap.update it (Obj.mapFields (·.setIfInBounds 1 (rawInt ((i:Int)+1))))}) nx.typeIs ?_)))))
 show wpAny _ _ (pure es[i].val) _ _ _;exact wpAny_pure (wpAny_pure ⟨_,rfl,wpAny_pure (q _ nx (Heap.SameBut.update ..))⟩)
theorem wF {Q:Option Value→Shared→Prop}(hh:A.handled=none)(hit:s.heap.IsValIter it d i es.size ep)(r:RawD s.heap d es ep)(hi:es.size≤i)
  (q:∀h',Heap.ExtBut it s.heap h'→Q none {s with heap:=h'}):wpAny (model P w) A (pyNext (.ref it)) Q E s:=by
 have it':=hit;obtain⟨io,e1,c1,d1⟩:=it';obtain⟨o,e,x,dt⟩:=r;unfold pyNext;have own:Builtin.Dict_items.ownsTuple "dict_valueiterator" =false:=by decide
 refine wpAny_bind (wpAny_attempt (wpAny_callSpecial?_slot (name:=Str.ofString "__next__") hit.typeIs PySem.F.slot_dict_valueiterator_next (wpAny_call_entry PySem.F.slot_dict_valueiterator_next hit.typeIs PySem.F.entry_dict_valueiterator_next ?_ (PySem.F.args_dict_valueiterator_next_1 _))));refine wpAny_bind (wpAny_pure (wpAny_bind (wpAny_bind ?_)))
 first|refine wpAny_bind (wpAny_typeNameOfWhole_valiter hit.typeIs (wpAny_pure (wpAny_bind (wpAny_fieldsOf e1 d1 ?_))))|refine wpAny_bind (wpAny_typeNameOf_valiter hit.typeIs (wpAny_pure (wpAny_bind (wpAny_fieldsOf e1 d1 ?_))))
 simp only[own,false_eq_true,if_false];show wpAny _ _ (if (Value.ref d==Value.none)=true then _ else _) _ _ s
 rw[if_neg (show ¬((Value.ref d==Value.none)=true) from Bool.false_ne_true)];refine wpAny_bind (wpAny_pure (wpAny_bind (wpAny_dictEntries e dt ?_)));rw[if_neg (by simp)];refine wpAny_bind (wpAny_pure (wpAny_bind (wpAny_dictEpoch e dt ?_)));rw[if_neg (by simp)];refine wpAny_pure ?_;simp only[show ¬((i:Int)<0) from by omega,if_false,toNat_natCast,Array.getElem?_eq_none hi];refine wpAny_bind ?_
 first|refine wpAny_bind (wpAny_typeNameOfWhole_valiter hit.typeIs (wpAny_pure ?_));show wpAny _ _ (setField (.ref it) 0 .none >>= _) _ _ s|refine wpAny_bind (wpAny_typeNameOf_valiter hit.typeIs (wpAny_pure ?_));show wpAny _ _ (setField (.ref it) 0 .none >>= _) _ _ s
 refine wpAny_bind (wpAny_setField e1 d1 (by simp) ?_);show wpAny _ _ (newExc (.type "StopIteration") [] >>= _) _ _ _;refine wpAny_bind ?_;simp only[newExc,newTuple];refine wpAny_bind (wpAny_newObj_type ?_ (by size_fits));refine wpAny_bind (m:=firstArgMember _ _) (wpAny_of_eq (a:=Value.none) (by first|rfl|(simp only[firstArgMember];rfl)) ?_)
 refine wpAny_newObj_type ?_ (by size_fits);simp only[raiseNew];refine wpAny_bind (wpAny_handled ?_);rw[show A.in1.handled=none from hh];refine wpAny_bind (wpAny_pure (wpAny_throw ?_));refine wpAny_bind (wpAny_isInstance (T:= "StopIteration") (b:=true) ⟨_,Heap.get?_push_size _ rfl,rfl⟩ isSubtype_stop ?_);exact wpAny_pure (q _ (((Heap.SameBut.update ..).extBut.push _).push _))
end
section
variable{P:Program}{w:World}{A:Around}{E:Value→Shared→Prop}{s:Shared}{d:Addr}{es:Array DictEntry}{ep:Nat}
theorem yX {Q:Value→Shared→Prop}(hd:(d==sysModules)=false)(r:RawD s.heap d es ep)(hf:(es.size:Int)<2 ^ 63)(q:∀t t',Q (.int es.size t) {s with toks:=t'}):wpAny (model P w) A (call (.builtin "len") [.ref d]) Q E s:=by
 have ty:=r.ty;obtain⟨o,e,x,dt⟩:=r;refine Calls.call_function_entry kind_len plain_len entry_len (args_len1 _) ?_;unfold Builtin.«len»;refine wpAny_bind (m:=oneArg "len" _) (wpAny_pure ?_);refine wpAny_bind (m:=callSpecial? (.ref d) (Str.ofString "__len__")) (wpAny_callSpecial?_slot (name:=Str.ofString "__len__") ty PySem.F.slot_dict_len (wpAny_call_entry PySem.F.slot_dict_len ty PySem.F.entry_dict_len ?_ (PySem.F.args_dict_len_1 _)));unfold Builtin.«dict.__len__»;refine wpAny_bind ?_;unfold Builtin.Dict.dictSlotNone;refine wpAny_bind (wpAny_notOrdered_dict ty ?_);show wpAny _ _ (pure (Value.ref d)) _ _ s;refine wpAny_pure ?_;show wpAny _ _ (dictSize d >>= _) _ _ s;unfold dictSize;refine wpAny_bind (wpAny_bind (wpAny_dictEntries e dt (wpAny_pure ?_)));show wpAny _ _ (Builtin.Dict.pendingCount d >>= _) _ _ s;refine wpAny_bind (wpAny_pendingCount_other hd ?_);refine wpAny_ret_mkInt ?_;rw[show ((es.size:Int)+((0:Nat):Int))=(es.size:Int) from by simp];refine wpAny_bind (wpAny_holding (wpAny_pure ?_));refine wpAny_bind (wpAny_letGo ?_);show wpAny _ _ (if ((es.size:Nat):Int)<0 then _ else _) _ _ _;rw[if_neg (by omega)]
 show wpAny _ _ (if ((es.size:Nat):Int) ≥ 2 ^ 63 then _ else _) _ _ _;rw[if_neg (by omega)];exact wpAny_bind (wpAny_mkInt (wpAny_pure ⟨_,rfl,q _ _⟩))
end
end L2
namespace L2
open PySem PySem.Spec PyProof.Rows
noncomputable def DJ (a:Addr)(o:Obj)(kvs:List (List aV×V)):It:=
 ⟨fun i H=>H a=some (.frz o (.dT kvs))∧i<kvs.length,fun i H x H'=>H'=H∧∃b k,(kvs.map (·.1))[i]?=some k∧x= .ref b∧H b=some (.tup (k.map kV)),fun i H=>H a=some (.frz o (.dT kvs))∧kvs.length≤i⟩
theorem Paired.at2 {α β:Type}{R:α→β→Prop}:∀{l:List α} {m:List β},Paired R l m→l.length=m.length∧∀(i:Nat) (h1:i<l.length) (h2:i<m.length),R l[i] m[i]
 |_,_,.nil=>⟨rfl,fun i h=>by cases h⟩
 |_,_,.cons r t=>by
  obtain⟨a,b⟩:=Paired.at2 t;refine⟨by rw[length_cons,length_cons,a],fun i h1 h2=>?_⟩;cases i with
  |zero=>exact r
  |succ i=>exact b i (by simpa using h1) (by simpa using h2)
theorem nJ {X:Cx}{pins:List (Addr×Obj)}{σ:St}{H:Hp}{s:Shared}{a:Addr}{o:Obj}{kvs:List (List aV×V)}(I:Inv X pins σ H s)(h:H a=some (.frz o (.dT kvs))) :
  ∃es ep,o.data= .dict es ep∧RawD s.heap a es ep∧es.size=kvs.length∧(a==sysModules)=false∧kvs.length≤sizeLine∧∀(i:Nat) (h1:i<kvs.length) (h2:i<es.size),∃b,es[i].key= .ref b∧H b=some (.tup (kvs[i].1.map kV)):=by
 obtain⟨ho,z,hd,xs,pr,o',es,ep,ho',ex,dt,he,nd⟩:=(show ObjOk X.prog X.w H s.heap a (.frz o (.dT kvs)) from I.hok a _ h);rw[ho]at ho';cases ho';obtain⟨hl,at'⟩:=Paired.at2 pr;have hsz:es.size=kvs.length:=by rw[←length_toList,he,length_map,hl]
 refine⟨es,ep,dt,⟨o,ho,ex,dt⟩,hsz,hd,z,fun i h1 h2=>?_⟩;have h3:i<xs.length:=by omega
 have e1:es[i]=entryOfKey (tupleKind (a8 X.prog X.w)) xs[i]:=by
  have:es.toList[i]?=some (entryOfKey (tupleKind (a8 X.prog X.w)) xs[i]):=by rw[he,getElem?_map,se h3];rfl
  rw[Array.getElem?_toList,getElem?_eq_getElem h2]at this;exact Option.some.inj this
 exact⟨xs[i].2.1,by rw[e1];rfl,(at' i h1 h3).2.1⟩
theorem uq {P:Program}{w:World}{K:W.Frag}{tg:Expr}(a it:Addr)(o:Obj)(kvs:List (List aV×V)):Turn P w K tg (DJ a o kvs) [it] it (fun i h=>∃es ep,o.data= .dict es ep∧h.IsKeyIter it a i es.size ep) where
 mem:=by simp
 obj:=fun i h ⟨es,ep,_,st⟩ b p=>by
  have e:b=it:=by simpa using p
  subst e;obtain⟨o,e,c,d⟩:=st;exact⟨o,e,fun v z=>by rw[d]at z;cases z⟩
 keep:=fun i h h' ⟨es,ep,e,o,e1,c,d⟩ k=>⟨es,ep,e,o,k it (by simp) o e1,c,d⟩
 item:=by
  rintro X hP hw hK hc i pins s σ H E I hf ⟨es,ep,ed,st⟩ ⟨hg,hi⟩;subst hP hw hK;obtain⟨es',ep',dt,rw',hsz,hd,hz,at'⟩:=nJ I hg;rw[ed]at dt;cases dt;obtain⟨f0,f1,f2,f3,f4,f5⟩:=hf it (by simp);have hi':i<es.size:=by omega
  obtain⟨b,p,hH⟩:=at' i hi hi';refine wE st rw' hi' fun h' st' sb=>?_;have I1:Inv X pins σ H {s with heap:=h'}:=I.turned (t':=s.toks) (fun b o p e=>(sb.2 b p).trans e) f0 f1 f3 f4 f5
  obtain⟨o,e,c,d⟩:=id st';rw[p];exact⟨_,rfl,sk (s:={s with heap:=h'}) e c d (by decide) ⟨.ref b,H,I1,rfl,⟨rfl,b,kvs[i].1,by rw[getElem?_map,se hi];rfl,rfl,hH⟩,⟨es,ep,ed,st'⟩,fun b p=>(hf b p).1⟩⟩
 done:=by
  rintro X hP hw hK hc i pins s σ H E I hf ⟨es,ep,ed,st⟩ ⟨hg,hi⟩;subst hP hw hK;obtain⟨es',ep',dt,rw',hsz,hd,hz,at'⟩:=nJ I hg;rw[ed]at dt;cases dt;obtain⟨f0,f1,f2,f3,f4,f5⟩:=hf it (by simp);exact yW (I.ok.hd hc) st rw' (by omega) fun h' eb=>⟨rfl,I.turned (t':=s.toks) (fun b o p e=>eb b o p e) f0 f1 f3 f4 f5⟩
 self:=fun _ _ _ _ _ ⟨es,ep,_,st⟩ h=>wpAny_pyIter_keyiter st h
noncomputable def kD:aV→D
 |.inl i=>.int i
 |.inr x=>.str x
noncomputable def vp (k:List aV):D:=.tup (k.map kD)
theorem qk {K:W.Frag}{G:Hp}:∀(k:List aV),RepL K G (k.map kD) (k.map kV)
 | []=>.nil
 |k::r=>.cons (by cases k with|inl i=>exact rep_int.mpr rfl|inr x=>exact rep_str.mpr rfl) (qk r)
theorem wW {K:W.Frag}{G:Hp}{a:Addr}{o:Obj}{kvs:List (List aV×V)}(h:G a=some (.frz o (.dT kvs))):xo K (DJ a o kvs) ((kvs.map (·.1)).map vp) G:=by
 intro G2 H2 g1 g2 i;refine⟨fun d hd=>?_,fun hl=>⟨g2 _ _ (g1 _ _ h),by simpa using hl⟩⟩;rw[getElem?_map]at hd;cases q:(kvs.map (·.1))[i]? with
 |none=>rw[q]at hd;cases hd
 |some k=>
  rw[q]at hd;cases hd;have hi:i<kvs.length:=by have:=(jj q).1;simpa using this
  refine⟨⟨g2 _ _ (g1 _ _ h),hi⟩,fun x H' hZ160=>?_⟩;obtain⟨e,b,k',hk,hx,hH⟩:=hZ160;subst e hx;rw[q]at hk;cases hk;have gg:Same G2 (aS G2 b (.tup (k.map kV))):=fun c u e=>by
   by_cases hc:c=b
   ·subst hc;have:=g2 _ _ e;rw[hH]at this;cases this;exact ao
   ·rw[ai hc];exact e
  refine⟨aS G2 b (.tup (k.map kV)),⟨.refl _,gg,fun c u e=>?_,fun c u e=>?_⟩,rep_tup.mpr ⟨b,_,rfl,.of ao,qk k⟩⟩
  ·by_cases hc:c=b
   ·subst hc;rw[ao]at e;rw[←e];exact hH
   ·rw[ai hc]at e;exact g2 c u e
  ·by_cases hc:c=b
   ·subst hc;rw[ao]at e;cases e;exact .inr (.inr ⟨k,rfl⟩)
   ·rw[ai hc]at e;exact .inl e
noncomputable def mq:D→Res (List D)
 |.fdc ks _=>.ok (ks.map vp)
 |_=>.bad
section
variable{X:Cx}{E:XK}{μ:List Nat}{n:Nat}{tg:Expr}
theorem qe {e:Expr}{f:DS→Res D}(h:PD X E e f):PI X tg e (tDI X.K E (fun ρ=>(f ρ).bind mq)):=by
 intro pins s σ H R I hZ26;obtain⟨G,ρ,hs,hro,ho,k⟩:=hZ26;refine aE (eR h pins s σ H (fun v H1=>∃a o J G1,v= .ref a∧Ext G H G1 H1∧G1 a=some (.frz o (.dT J))∧((f ρ).bind mq)= .ok ((J.map (·.1)).map vp)) I ⟨G,ρ,hs,hro,ho.fst,fun d e v G1 H1 x1 p1=>?_⟩) fun v s1 hZ161=>?_
 ·have kk:=ho.snd e x1.hh;cases d with
  |fdc ks l=>
   rw[rep_fdc]at p1;obtain⟨a,o,J,rfl,ga,hk,rl⟩:=p1;exact⟨a,o,J,G1,rfl,x1,ga,by rw[e,aw,←hk];rfl⟩
  |_=>exact kk.elim
 ·obtain⟨x,H1,I1,r1,a,o,J,G1,ex,x1,ga,ek⟩:=hZ161;subst ex;cases r1;obtain⟨es,ep,dt,rw',hsz,hd,hz,at'⟩:=nJ I1 (x1.gh _ _ ga);refine wC hd rw' ?_;exact⟨s1.heap.objs.size,[s1.heap.objs.size],_,_,H1,rfl,I1.kept (t':=s1.toks) fun b o e=>Heap.get?_push_of_some _ e,uq a _ o J,⟨es,ep,dt,_,Heap.get?_push_size _ rfl,rfl,rfl⟩,fun b hb=>by
   have e:b=s1.heap.objs.size:=by simpa using hb
   subst e;exact I1.fpOk (le_refl _) (I1.hok.fresh (le_refl _)),k _ ek _ G1 H1 x1 (wW ga)⟩
noncomputable def vz:List D→Res D
 | [.dct ks _]=>.ok (.int ks.length)
 | [.fdc ks _]=>.ok (.int ks.length)
 |_=>.bad
theorem s_:dz X (.builtin "len") (fun xs H Q=>∃a kvs,xs=[V.ref a]∧Rd H a (.dT kvs)∧Q (.int kvs.length) H):=by
 intro pins s σ H xs us Q I r h;obtain⟨a,kvs,rfl,ha,q⟩:=h;obtain⟨u,rfl,ru⟩:=ij r;cases ru;obtain⟨z,hd,xs,pr,o,es,ep,ho,ex,dt,he,nd⟩:=mH I.hok ha;obtain⟨hl,_⟩:=Paired.at2 pr;have hsz:es.size=kvs.length:=by rw[←length_toList,he,length_map,hl]
 have hz:=sizeLine_eq;exact yX hd ⟨o,ho,ex,dt⟩ (by omega) fun t t'=>⟨.int kvs.length,H,I.tok t',⟨t,by rw[hsz]⟩,q⟩
theorem xD {K:W.Frag}:xl K E (fun xs H Q=>∃a kvs,xs=[V.ref a]∧Rd H a (.dT kvs)∧Q (.int kvs.length) H) vz:=by
 intro G H vs ds Q hs rl ok k;unfold vz at ok k;split at ok
 ·obtain⟨v,r,rfl,rx,r0⟩:=rl.inv;rw[r0.inv0];rw[rep_dct]at rx;obtain⟨a,kvs,rfl,rd,hk,_⟩:=rx;subst hk;exact⟨a,kvs,rfl,hs.rd rd,by have:=k _ _ G H rfl (.refl hs) (rep_int.mpr rfl);simpa using this⟩
 ·obtain⟨v,r,rfl,rx,r0⟩:=rl.inv;rw[r0.inv0];rw[rep_fdc]at rx;obtain⟨a,o,kvs,rfl,rd,hk,_⟩:=rx;subst hk;exact⟨a,kvs,rfl,hs.rd (.inr ⟨o,rd⟩),by have:=k _ _ G H rfl (.refl hs) (rep_int.mpr rfl);simpa using this⟩
 ·exact ok.elim
theorem yx {e:Expr}{p pos:Pos}{f:DS→Res D}(hm:X.mg "len" =none)(h:PD X E e f)(hg:Gl X "len" :=by rfl)(he:starEach [e] X.env=(false,eval e X.env)::starEach [] X.env:=by rfl):PD X E (.Call (.Name "len" p) [e] [] pos) (fun ρ=>(f ρ).bind fun a=>vz [a]):=
 og ▸ iW (X:=X) (E:=E) (p:=p) (pos:=pos) s_ xD hg hm PySem.boot_len (aa h ae he) (by decide) (by decide) he rfl
noncomputable def tI:D→Res D
 |.dct ks l=>.ok (.fdc ks l)
 |_=>.bad
theorem Inv.frz {pins:List (Addr×Obj)}{σ:St}{H:Hp}{s:Shared}{a:Addr}{o:Obj}{kvs:List (List aV×V)}(I:Inv X pins σ H s)(h:H a=some (.dT kvs))(ho:s.heap.get? a=some o):Inv X pins σ (aS H a (.frz o (.dT kvs))) s:=by
 have ne:∀{b:Addr} {u:HO},H b=some u→u≠ .dT kvs→b≠a:=fun e hu z=>by subst z;rw[h]at e;cases e;exact hu rfl
 refine I.un (t':=s.toks) ⟨fun b u e _ _ _=>e,fun b u e _ _ _=>⟨u.slots,e⟩,fun b u _ n _=>?_,fun b u e _=>⟨u,e⟩,fun b xs e=>?_,fun b u v e=>?_,fun b ps e=>?_⟩ fun b u e=>?_
 ·rw[ai (fun z=>by subst z;rw[h]at n;cases n)];exact n
 ·rw[ai (ne e (fun z=>by cases z))];exact e
 ·rw[ai (ne e (fun z=>by cases z))];exact e
 ·exact⟨#[],by rw[ai (ne e (fun z=>by cases z)),e];simp⟩
 ·have st:∀{c:Addr} {v:HO},ObjOk X.prog X.w H s.heap c v→ObjOk X.prog X.w (aS H a (.frz o (.dT kvs))) s.heap c v:=fun x=>x.stay (fun _ _ _ e=>e) (fun b e=>by rw[ai (ne e (fun z=>by cases z))];exact e) fun b xs e=>by rw[ai (ne e (fun z=>by cases z))];exact e
  by_cases hb:b=a
  ·subst hb;rw[ao]at e;cases e;exact⟨ho,st (I.hok _ _ h)⟩
  ·rw[ai hb]at e;exact st (I.hok b u e)
theorem PN.pdF {e:Expr}{f:DS→Res D}(h:PN X E (n+1) e f):PD X E e (fun ρ=>(f ρ).bind tI):=by
 intro pins s σ G H ρ I hs hr ho;refine aE (h pins s σ G H ρ I hs hr ho.fst) fun u s' hZ162=>?_;obtain⟨d,e,v,G',H',S,I',rv,x,o,w⟩:=hZ162;have kk:=ho.snd e x.hh;cases d with
 |dct ks l=>
  obtain⟨a,J,T,rfl,ha,hk,rfl,os⟩:=o;obtain⟨_,_,_,_,ob,_,_,hob,_⟩:=(show ObjOk X.prog X.w H' s'.heap a (.dT J) from I'.hok a _ ha);obtain⟨haT,ndT⟩:=nodup_cons.mp w.1;have wa:=w.2 a (mem_cons_self ..);have wT:∀b∈T,H b=none∧G' b=none:=fun b hb=>w.2 b (dQ hb);have dec:∀b,Decidable (b∈T):=fun b=>Classical.propDecidable _;have g3:∀b,(fun b=>if b=a then some (HO.frz ob (.dT J)) else if b∈T then H' b else G' b:Hp) b=if b=a then some (HO.frz ob (.dT J)) else if b∈T then H' b else G' b:=fun _=>rfl
  generalize hG3:(fun b=>if b=a then some (HO.frz ob (.dT J)) else if b∈T then H' b else G' b:Hp)=G3 at g3
  have ga:G3 a=some (.frz ob (.dT J)):=by rw[g3,if_pos rfl]
  have gT:∀b∈T,G3 b=H' b:=fun b hb=>by rw[g3,if_neg (fun (z:b=a)=>haT (z ▸ hb)),if_pos hb]
  have gO:∀b,b≠a→b∉T→G3 b=G' b:=fun b h1 h2=>by rw[g3,if_neg h1,if_neg h2]
  have sg:Same G' G3:=fun b u e=>by
   rw[gO b (fun z=>by subst z;rw[wa.2]at e;cases e) (fun z=>by rw[(wT b z).2]at e;cases e)];exact e
  refine⟨.fdc ks l,al e rfl,.ref a,G3,aS H' a (.frz ob (.dT J)),I'.frz ha hob,rv,⟨fun b u e=>?_,x.gg.trans sg,fun b u e=>?_,fun b u e=>?_⟩,rep_fdc.mpr ⟨a,ob,J,rfl,ga,hk,os.rep fun d v A hA ow=>ow.rep sg fun b hb u e=>by rw[gT b (hA b hb)];exact e⟩⟩
  ·rw[ai (fun z=>by subst z;rw[wa.1]at e;cases e)];exact x.hh b u e
  ·by_cases h1:b=a
   ·subst h1;rw[ga]at e;rw[ao];exact e
   ·rw[ai h1];by_cases h2:b∈T
    ·rw[gT b h2]at e;exact e
    ·rw[gO b h1 h2]at e;exact x.gh b u e
  ·by_cases h1:b=a
   ·subst h1;exact .inr (.inl wa.1)
   ·by_cases h2:b∈T
    ·exact .inr (.inl (wT b h2).1)
    ·rw[gO b h1 h2]at e;exact x.nw b u e
 |_=>exact kk.elim
noncomputable def wY (ns:List Int):List Int:=ns.mergeSort (fun a b=>decide (a≤b))
theorem jJ (ns:List Int):(wY ns).Perm ns:=List.mergeSort_perm ..
theorem qn (ns:List Int):(wY ns).Pairwise (· ≤ ·):=by
 have h:=List.pairwise_mergeSort (le:=fun a b:Int=>decide (a≤b)) (fun a b c h1 h2=>by simp at *;omega) (fun a b=>by simp;omega) ns;exact h.imp fun {a b} h=>by simpa using h
theorem kJ:∀{a b:List Int},a.Perm b→a.Pairwise (· ≤ ·)→b.Pairwise (· ≤ ·)→a=b
 | [],b,p,_,_=>(List.nil_perm.mp p).symm
 |x::a,[],p,_,_=>absurd p.length_eq (by simp)
 |x::a,y::b,p,h1,h2=>by
  obtain⟨i1,i2⟩:=List.pairwise_cons.mp h1;obtain⟨j1,j2⟩:=List.pairwise_cons.mp h2;have e:x=y:=by
   have hx:=p.mem_iff.mp (mem_cons_self (a:=x) (l:=a));have hy:=p.mem_iff.mpr (mem_cons_self (a:=y) (l:=b))
   rcases mem_cons.mp hx with z|z
   ·exact z
   ·rcases mem_cons.mp hy with z'|z'
    ·exact z'.symm
    ·have:=j1 x z;have:=i1 y z';omega
  subst e;rw[kJ (List.perm_cons x |>.mp p) i2 j2]
theorem qq:∀{us:List Value} {ns:List Int},IntsAre us ns→Vals (ns.map V.int) us
 |_,_,.nil=>.nil
 |_,_,.cons n t h=>.cons ⟨t,rfl⟩ (qq h)
noncomputable def jI:List D→Res D
 | [.lst l]=>(match allInts l with|some ns=>if ns.length<64 then .ok (.lst ((wY ns).map D.int)) else .bad|none=>.bad)
 |_=>.bad
theorem qG:dz X (.builtin "sorted") (fun xs H Q=>∃p ns,xs=[.ref p]∧f6 X.K H p (ns.map V.int)∧ns.length<64∧∀l,H l=none→Q (.ref l) (aS H l (.lst ((wY ns).map V.int)))):=by
 intro pins s σ H xs us Q I r h;obtain⟨p,ns,rfl,sq,h64,q⟩:=h;obtain⟨u,rfl,ru⟩:=ij r;cases (show u= .ref p from ru);obtain⟨its,rv,pl,hz⟩:=I.list sq;have hil:=rv.length;rw[length_map]at hil;refine sorted_ints pl.isList (k9 rv) (by omega) fun out ns' a1 a2 a3=>?_;have e:ns'=wY ns:=kJ (a2.trans (jJ ns).symm) a3 (qn ns);subst e;have hl:=(jJ ns).length_eq;have key:=qS (vs:=its) (out:=out.toList) I (qq a1) (by rw[length_map,hl];have:=sizeLine_eq;omega) q;rw[Array.toArray_toList]at key;exact key
theorem wq {e:Expr}{p pos:Pos}{f:DS→Res D}(hm:X.mg "sorted" =none)(h:PD X E e f)(hg:Gl X "sorted" :=by rfl)(he:starEach [e] X.env=(false,eval e X.env)::starEach [] X.env:=by rfl):PD X E (.Call (.Name "sorted" p) [e] [] pos) (fun ρ=>(f ρ).bind fun a=>jI [a]):=by
 refine og ▸ iW (X:=X) (E:=E) (p:=p) (pos:=pos) qG ?_ hg hm boot_sorted (aa h ae he) (by decide) (by decide) he rfl;intro G H vs ds Q hs rl ok k;unfold jI at ok k;split at ok
 ·rename_i l;obtain⟨v,r,rfl,rx,r0⟩:=rl.inv;rw[r0.inv0];dsimp only at ok k;cases q:allInts l with
  |none=>rw[q]at ok;exact ok.elim
  |some ns=>
   rw[q]at ok k;dsimp only at ok k;by_cases hc:ns.length<64
   ·rw[if_pos hc]at k;have el:=fy q;subst el;rw[rep_lst]at rx;obtain⟨a,xs,rfl,sq,rx⟩:=rx;have ex:=rx.ints;subst ex;exact⟨a,ns,rfl,hs.seq sq.sq,hc,fun l hl=>k _ _ _ _ rfl (.new hs hl _) (rep_lst.mpr ⟨l,_,rfl,.of ao,.of_ints _⟩)⟩
   ·rw[if_neg hc]at ok;exact ok.elim
 ·exact ok.elim
end
noncomputable abbrev sD (f:DS→Res D):DS→Res (List D):=fun ρ=>(f ρ).bind mq
noncomputable abbrev xi (f:DS→Res D):DS→Res D:=fun ρ=>(f ρ).bind tI
section
variable{X:Cx}{E:XK}{μ:List Nat}{r:Nat}
end
section
variable{X:Cx}{E:XK}{μ:List Nat}{r:Nat}
noncomputable def uA (p a:Addr):HO:=.ext fun h=>h.IsValuesView p a
noncomputable def sM:V→List V→Hp→VK→Prop:=fun x vs H Q=>∃a kvs,x= .ref a∧vs=[]∧Rd H a (.dT kvs)∧∀p,H p=none→Q (.ref p) (aS H p (uA p a))
theorem ub:BD X "dict.values" sM:=by
 intro pins s σ H x vs v us Q I rx rv h;obtain⟨a,kvs,rfl,rfl,rd,q⟩:=h;cases (show v= .ref a from rx);cases rv;obtain⟨z,hd,xs,pr,o,es,ep,ho,ex,dt,he,nd⟩:=mH I.hok rd;have ty:s.TypeIs (.ref a) "dict" :=⟨o,ho,ex.1⟩;refine wpAny_call_entry PySem.F.slot_dict_values ty PySem.F.entry_dict_values ?_ (PySem.F.args_dict_values_1 _);show wpAny (model X.prog X.w) X.A.in1 (do let d ←Builtin.Dict.noArgs "values" {pos:=[.ref a]};Builtin.Dict.showsAll d;let v ←newFields "dict_values" [.ref d];ret v) _ _ s
 refine wpAny_bind ?_;unfold Builtin.Dict.noArgs;refine wpAny_bind ?_;unfold Builtin.Dict.notOrdered;rw[if_pos (by decide)];refine wpAny_bind (wpAny_typeOf ty ?_);rw[if_neg (by decide)];refine wpAny_pure (wpAny_bind ?_);unfold Builtin.Dict.nameIsSure;rw[if_neg (by simp)];refine wpAny_pure (wpAny_bind ?_);show wpAny _ _ (pure (Value.ref a)) _ _ s;refine wpAny_pure (wpAny_pure (wpAny_bind ?_));unfold Builtin.Dict.showsAll;rw[if_neg (by rw[hd];exact Bool.false_ne_true)];refine wpAny_pure (wpAny_bind ?_);unfold newFields;refine wpAny_newObj_type (wpAny_pure ⟨_,rfl,.ref s.heap.objs.size,_,?_,rfl,q _ (I.hok.fresh (le_refl _))⟩) (by size_fits);exact I.laid (t':=s.toks) (fun b o e=>Heap.get?_push_of_some _ e) (le_refl _) ⟨⟨_,Heap.get?_push_size _ rfl,rfl,rfl⟩,⟨_,Heap.get?_push_size _ rfl⟩,fun h1 h2 ⟨o,e,c,d⟩ k=>⟨o,k _ e,c,d⟩⟩
theorem C2 {P:Program}{w:World}{H:Hp}{kvs:List (List aV×V)}{xs:List (List aV×Addr×Value)}{es:Array DictEntry}{ns:List Int}(pr:Paired (fun (p:List aV×V) (q:List aV×Addr×Value)=>p.1=q.1∧H q.2.1=some (HO.tup (p.1.map kV))∧RelV p.2 q.2.2) kvs xs)(he:es.toList=xs.map (entryOfKey (tupleKind (a8 P w))))(hn:kvs.map (·.2)=ns.map V.int):es.size=ns.length∧∀(i:Nat) (h:i<es.size),∃t,es[i].val= .int (ns.getD i 0) t:=by
 obtain⟨hl,at'⟩:=Paired.at2 pr;have hsz:es.size=kvs.length:=by rw[←length_toList,he,length_map,hl]
 have hln:kvs.length=ns.length:=by have:=congrArg List.length hn;rwa[length_map,length_map]at this
 refine⟨by omega,fun i h=>?_⟩;have h1:i<kvs.length:=by omega
 have h3:i<xs.length:=by omega
 have e1:es[i]=entryOfKey (tupleKind (a8 P w)) xs[i]:=by
  have:es.toList[i]?=some (entryOfKey (tupleKind (a8 P w)) xs[i]):=by rw[he,getElem?_map,se h3];rfl
  rw[Array.getElem?_toList,getElem?_eq_getElem h]at this;exact Option.some.inj this
 have e2:kvs[i].2= .int (ns.getD i 0):=by
  have:(kvs.map (·.2))[i]?=(ns.map V.int)[i]?:=by rw[hn]
  rw[getElem?_map,getElem?_map,se h1,se (by omega:i<ns.length)]at this;have h4:=Option.some.inj this;rw[getD_eq_getElem?_getD,se (by omega:i<ns.length)];exact h4
 have r:=(at' i h1 h3).2.2;rw[e2]at r;obtain⟨t,e⟩:=r;exact⟨t,by rw[e1];exact e⟩
theorem ti (hc:X.calm=true):dz X (.builtin "max") (fun xs H Q=>∃p a kvs ns,xs=[.ref p]∧H p=some (uA p a)∧Rd H a (.dT kvs)∧kvs.map (·.2)=ns.map V.int∧ns≠[]∧Q (.int (fM ns)) H):=by
 intro pins s σ H xs us Q I r h;obtain⟨p,a,kvs,ns,rfl,hp,rd,hn,hne,q⟩:=h;obtain⟨u,rfl,ru⟩:=ij r;cases (show u= .ref p from ru);obtain⟨hv,_,_⟩:=(show ObjOk X.prog X.w H s.heap p (uA p a) from I.hok p _ hp);obtain⟨z,hd,xs,pr,o,es,ep,ho,ex,dt,he,nd⟩:=mH I.hok rd;obtain⟨hsz,hat⟩:=C2 pr he hn;have rw0:RawD s.heap a es ep:=⟨o,ho,ex,dt⟩;have hal:a<s.heap.objs.size:=Heap.lt_size ho;have hnl:0<ns.length:=length_pos_iff.mpr hne;have hai:a≠s.heap.objs.size:=ne_of_lt hal;refine call_max_walkS (uk hv rw0 ?_);refine⟨s.heap.objs.size,[s.heap.objs.size,a],[s.heap.objs.size],(· = ·),es.size,fun i v=>∃t,v= .int (ns.getD i 0) t,fun i s'=>s'.heap.IsValIter s.heap.objs.size a i es.size ep∧RawD s'.heap a es ep,fun i j=>decide (ns.getD i 0>ns.getD j 0),rfl,?_,⟨⟨_,Heap.get?_push_size _ rfl,rfl,rfl⟩,⟨o,Heap.get?_push_of_some _ ho,ex,dt⟩⟩,fun b hb=>?_,by omega,?_,fun v s' hP mv=>?_⟩
 ·refine⟨fun b hb=>mem_cons.mpr (.inl (mem_singleton.mp hb)),fun _=>rfl,fun _ _ _ h1 h2=>h1.trans h2,?_,?_,?_,?_⟩
  ·rintro i s1 h' tk ⟨⟨o1,e1,c1,d1⟩,⟨o2,e2,x2,d2⟩⟩ _ k;exact⟨⟨o1,k _ (by simp) _ e1,c1,d1⟩,⟨o2,k _ (by simp) _ e2,x2,d2⟩⟩
  ·rintro i s1 Q1 E1 hi ⟨v1,r1⟩ k;refine ul v1 r1 hi fun h' v2 sb=>k _ _ (hat i hi) ⟨v2,?_⟩ ⟨fun b o hb e=>(sb.2 b (by simpa using hb)).trans e,rfl,rfl,rfl,le_refl _⟩;obtain⟨o2,e2,x2,d2⟩:=r1;exact⟨o2,(sb.2 a hai).trans e2,x2,d2⟩
  ·rintro s1 Q1 E1 ⟨v1,r1⟩ k;exact wF (I.ok.hd hc) v1 r1 (le_refl _) fun h' eb=>k _ ⟨fun b o hb e=>eb b o (by simpa using hb) e,rfl,rfl,rfl,le_refl _⟩
  ·rintro i s1 Q1 E1 ⟨v1,r1⟩ k;exact wpAny_pyIter_valiter v1 k
 ·rcases mem_cons.mp hb with e|e
  ·rw[e];show s.heap.objs.size<(s.heap.push _).objs.size;rw[Heap.size_push];exact lt_succ_self _
  ·rw[mem_singleton.mp e];show a<(s.heap.push _).objs.size;rw[Heap.size_push];exact lt_succ_of_lt hal
 ·exact CmpOf.ints_gt (fun i=>ns.getD i 0) fun i v h=>h
 ·obtain⟨t,rfl⟩:=hP;obtain⟨h1,h2⟩:=argBest_gt (fun i=>ns.getD i 0) (es.size-1);have hm:ns.getD (argBest (fun i j=>decide (ns.getD i 0>ns.getD j 0)) (es.size-1)) 0=fM ns:=by
   obtain⟨m1,m2⟩:=e_ hne;refine Int.le_antisymm (m2 _ (getD_mem (by omega))) ?_;obtain⟨j,hj,ej⟩:=mem_getD m1;rw[←ej];exact h2 j (by omega)
  rw[hm];have I':Inv X pins σ H s':=by
   have:=I.kept (t':=s'.toks) (h':=s'.heap) fun b o e=>mv.heap b o (by simpa using ne_of_lt (Heap.lt_size e)) (Heap.get?_push_of_some _ e);obtain⟨hp',gs,dr,tk,os⟩:=s';have e1:=mv.gens;have e2:=mv.drawn;have e3:=mv.os;dsimp only at e1 e2 e3;subst e1 e2 e3;exact this
  exact⟨.int (fM ns),H,I',⟨t,rfl⟩,q⟩
noncomputable def li:D→Res D
 |.fdc _ l=>(match allInts l with|some (a::ns)=>.ok (.int (fM (a::ns)))|_=>.bad)
 |_=>.bad
noncomputable def DB (r:V→List V→Hp→VK→Prop)(to:TE):TE:=fun σ H Q=>to σ H fun x H1=>(∃a kvs,x= .ref a∧Rd H1 a (.dT kvs))∧r x [] H1 Q
theorem Be {o:Expr}{to:TE}{name:Str}{apos cpos:Pos}{id:String}{r:V→List V→Hp→VK→Prop}(slot:Slot "dict" name id)(hty:typeOf (.builtin id)=pure (.type "method_descriptor"))(hm:BD X id r)(ho:PE X o to)
  (hbase:attributeBase o name X.env (eval o X.env)=eval o X.env:=by rfl) (hline:(apos.endLine==cpos.line)=true:=by rfl):PE X (.Call (.Attribute o name apos) [] [] cpos) (DB r to):=by
 intro pins s σ H Q I h;refine wpAny_Call_method0_late hbase hline (aE (ho pins s σ H _ I h) fun v s1 ⟨x,H1,I1,r1,⟨a,kvs,e,rd⟩,q1⟩=>?_);subst e;have r1':=r1;cases r1';obtain⟨z,hd,xs,pr,ob,es,ep,hob,ex,dt,he,nd⟩:=mH I1.hok rd;exact⟨"dict",id,PySem.F.plainAttrs_dict,slot,hty,⟨ob,hob,ex.1⟩,fun a e2=>by cases e2;exact⟨ob,hob,ex.2.1⟩,Calls.callWith_builtin rfl (PySem.evalArgs_none (hm pins s1 σ H1 _ [] _ [] Q I1 r1 .nil q1))⟩
theorem yA {o:Expr}{p apos cpos pos:Pos}{f:DS→Res D}(hm:X.mg "max" =none)(h:PD X E o f)(hc:X.calm=true:=by rfl)(hg:Gl X "max" :=by rfl)
  (hbase:attributeBase o "values" X.env (eval o X.env)=eval o X.env:=by rfl) (hline:(apos.endLine==cpos.line)=true:=by rfl)
  (hs:starEach [.Call (.Attribute o "values" apos) [] [] cpos] X.env=(false,eval (.Call (.Attribute o "values" apos) [] [] cpos) X.env)::starEach [] X.env:=by rfl) :
  PD X E (.Call (.Name "max" p) [.Call (.Attribute o "values" apos) [] [] cpos] [] pos) (fun ρ=>(f ρ).bind li):=by
 intro pins s σ G H ρ I hsm hro ho;have he:=qd (pos:=pos) (p:=p) (ti hc) hg hm uE (cM (Be (apos:=apos) (cpos:=cpos) (r:=sM) PySem.F.slot_dict_values PySem.F.type_dict_values ub (eR h) hbase hline) gI hs) (by decide) (by decide) hs rfl;refine aE (he pins s σ H (fun v H'=>∃d G',(f ρ).bind li= .ok d∧Ext G H G' H'∧Rep X.K G' d v) I ?_) fun u s' hZ163=>(by obtain⟨v,H',I',r,d,G',e,xx,rp⟩:=hZ163;exact⟨d,e,v,G',H',I',r,xx,rp⟩);refine⟨G,ρ,hsm,hro,ho.fst,fun d e v G1 H1 x1 p1=>?_⟩;have kk:=ho.snd e x1.hh;cases d with
 |fdc ks l=>
  unfold li at kk;dsimp only at kk;cases q:allInts l with
  |none=>rw[q]at kk;exact kk.elim
  |some ns=>
   rw[q]at kk;cases ns with
   |nil=>exact kk.elim
   |cons a ns=>
    have el:=fy q;subst el;rw[rep_fdc]at p1;obtain⟨b,o,J,rfl,rd,hk,rl⟩:=p1;have ex:=rl.ints;have rdH:Rd H1 b (.dT J):=x1.gh.rd (.inr ⟨o,rd⟩);refine⟨⟨b,J,rfl,rdH⟩,b,J,rfl,rfl,rdH,fun pp hp=>?_⟩;have x2:=x1.trans (Ext.new x1.gh hp (uA pp b));refine⟨pp,b,J,a::ns,rfl,ao,?_,ex,List.cons_ne_nil _ _,_,_,al e (by unfold li;dsimp only;rw[q]),x2,rep_int.mpr rfl⟩;exact x2.gh.rd (.inr ⟨o,(Ext.new x1.gh hp (uA pp b)).gg _ _ rd⟩)
 |_=>exact kk.elim
end
section
variable{prog:Program}{w:World}{A:Around}{E:Value→Shared→Prop}{s:Shared}
end
section
variable{X:Cx}{E:XK}{μ:List Nat}{r:Nat}
end
section
variable{X:Cx}{pins:List (Addr×Obj)}{σ:St}{H:Hp}{s:Shared}
theorem Inv.unset {i:Nat}{x:Str}{h':Heap}{t':Nat}{w:Option Value}{m:Str→Option Value}(I:Inv X pins σ H s)(hN:X.N.Nodup)(hi:X.N[i]?=some x)
  (hl:∀(j:Nat) (y:Str) (v:V),X.N[j]?=some y→σ[j]?=some (some v)→xg X.env.scope y→∃u,RelV v u∧zK X.env s.heap m y u)
  (hs:Heap.SameBut X.env.locals s.heap h') (hn:h'.Ns X.env.locals fun y=>if y=x then w else m y):Inv X pins (σ.set i Option.none) H {s with heap:=h',toks:=t'}:=by
 have J:=I.forget (t':=t') hs hn;refine⟨J.ok,J.os,J.bare,J.base,⟨_,hn,fun j y v e1 e2 e3=>?_⟩,J.cell,J.free,J.freeC,J.pin,J.hok,by rw[length_set];exact I.len⟩;have hj:j≠i:=fun z=>by
  subst z;rw[getElem?_set]at e2;split at e2
  ·split at e2 <;> cases e2
  ·rename_i hne;exact hne rfl
 rw[getElem?_set_ne (Ne.symm hj)]at e2;obtain⟨u,r,q⟩:=hl j y v e1 e2 e3;refine⟨u,r,?_⟩
 rcases q with ⟨k,e⟩|⟨k,c,e,z⟩
 ·have:y≠x:=fun e=>hj (lj hN e1 (e ▸ hi));exact .inl ⟨k,by dsimp only;rw[if_neg this];exact e⟩
 ·exact .inr ⟨k,c,e,z.sameBut hs (I.cne y c e)⟩
end
section
variable{X:Cx}{E:XK}{μ:List Nat}{r:Nat}
noncomputable def zz (f:DS→Res (List D)):DS→Res (List D):=fun ρ=>match f ρ with
 |.ok d=>.ok d
 |_=>.bad
theorem wz {k r':Nat}{g:Str}{ps:List Str}{m:List D→Res D}{e:Expr}{es:List Expr}{gp cpos apos:Pos}{fs:DS→Res (List D)}
  (C:Cal X.prog X.w X.K X.mg X.base g k ps (freshSp X.K r' m)) {j:Nat} (hr:Room j X.A) (ha:∀Et pn,kE (X.tr Et pn) jl (e::es) fs)
  (hkj:k≤j:=by decide) (hgc:Gl X g:=by rfl) (hdg:(g==("__debug__" :Str))=false:=by decide) (hst:starEach (e::es) X.env=(false,eval e X.env)::starEach es X.env:=by rfl) (hpl:(backTo cpos (starEach es X.env)).any (·.1)=false:=by rfl)
  (hsw:swapsWith (.Call (.Name g gp) (e::es) [] cpos) none apos.line X.env=pure false:=by rfl) :
  DL X μ (.Expr (.Call (.Name g gp) (e::es) [] cpos) apos) (bS (bn (zz fs) m)):=by
 intro Et pins s σ Ge B G H ρ fp I R hnb hex;obtain⟨f,fd,F,hb,hmc,hk⟩:=C.ex;have I':=I.tr (pins:=pins) Et;have hfs:∃Y,fs ρ= .ok Y:=by
  cases q:fs ρ with
  |ok Y=>exact⟨Y,rfl⟩
  |exc c=>exact(hnb (by unfold bS bn zz;rw[q];rfl)).elim
  |bad=>exact(hnb (by unfold bS bn zz;rw[q];rfl)).elim
 obtain⟨Y,eds⟩:=hfs;have eF:bS (bn (zz fs) m) ρ=(m Y).out fun d=>.nx ρ:=by unfold bS bn zz;rw[eds];rfl
 have ev:wpAny (model X.prog X.w) X.A (eval (.Call (.Name g gp) (e::es) [] cpos) X.env) (EP (X.tr Et (X.pn ++ pins)) [] σ fun v H2=>∃d G',m Y= .ok d∧Rw X.K μ Ge B G' H2 σ ρ fp∧Same G G') Et s:=by
  refine wpAny_Call_Name_kw (fL (X:=X.tr Et (X.pn ++ pins)) I' hgc hmc ?_ hdg);refine W.callWith_K (h₀:=X.base) I'.ok.mod.kin hk (aE (ha Et _ cpos [] s σ (lY fp G H) H ρ I' R.vh R.ro (by rw[eds];trivial)) fun us s1 ⟨ds',eds',vs,G1,H1,I1,r1,x1,rl⟩=>⟨I1.kIn,?_⟩) hst hpl;rw[eds]at eds';cases eds';refine Bp (X:=X.tr Et (X.pn ++ pins)) (E:=fun cls _ H'=>∃c,m Y= .exc c∧cls= .ref c∧Same H1 H') F (hr.mono hkj) hb .nil I1 (fun ev s2 hx=>?_) r1 ⟨Y,G1,x1.gh,by rw[append_nil];exact rl,?_,fun d ed v G3 H3 S x3 o w=>?_⟩
  ·have hc:∃c,m Y= .exc c:=by
    obtain⟨_,_,_,_,_,_,_,_,_,_,_,_,_,_,c,hc,_⟩:=hx;exact⟨c,hc⟩
   obtain⟨c,hc⟩:=hc;exact hex c (by rw[eF,hc];rfl) _ H1 s1 ev s2 (I1.untr I.ok) (R.grow x1) (R.gg x1) (CXF.wk (fun cls a H' hZ165=>(by obtain⟨c',h1,h2,h3⟩:=hZ165;rw[hc]at h1;cases h1;exact⟨h2,h3⟩)) hx)
  ·cases q:m Y with
   |ok d=>trivial
   |exc c=>exact fun H' s'=>⟨c,rfl,rfl,s'⟩
   |bad=>exact(hnb (by rw[eF,q];rfl)).elim
  ·have x:=x1.trans x3;exact⟨d,_,ed,R.grow x,R.gg x⟩
 exact wpAny_Expr_any (aE ev fun v s1 hZ166=>(by obtain⟨w,H1,I1,r1,d,G',ed,R',sg⟩:=hZ166;exact⟨ρ,σ,G',H1,fp,by rw[eF,ed];rfl,I1.untr I.ok,R',sg⟩)) I.quiet hsw
noncomputable def je (i:Nat)(cs:List Addr)(F Fh:DS→Out):DS→Out:=fun ρ=>match F ρ with
 |.exc c=>if cs.contains c=true then (match Fh (ρ.set i (some (.xc c))) with|.nx ρ'=>.nx (ρ'.set i none)|_=>.bad) else .bad
 |.nx ρ'=>.nx ρ'
 |_=>.bad
theorem yQ {x n0:Str}{i:Nat}{C:Addr}{cs:List Addr}{st b₀:Stmt}{suite:List Stmt}{np hpos pos:Pos}{F Fh:DS→Out}(hN:X.N.Nodup)(hi:X.N[i]?=some n0)(hl:X.env.scope.names.lookup n0=some .local)(hmi:μ.getD i 0=0)(hm:X.mg x=some (.ref C))(hs:X.stack=X.env::X.outer)(hf:X.env.frame=some X.env.locals)
  (hcs:∀c∈cs,W.exmOne X.K (.ref c) (.ref C)=some true∧ExcK X.K c) (hb:DL X μ st F) (hh:∀(e:Addr) (E':Value→Shared→Prop),oQ (X.inH e E') jl μ r (b₀::suite) Fh) (hg:Gl X x:=by rfl)
  (hdb:(x==("__debug__" :Str))=false:=by decide) :
  lL X E μ r (.Try [st] [.ExceptHandler (some (.Name x np)) (some n0) (b₀::suite) hpos] [] [] pos) (je i cs F Fh):=by
 intro y s σ Ge B G H g fp I R O;have hiσ:i<σ.length:=by rw[I.len];exact(jj hi).1
 have hnb:F g≠ .bad:=fun z=>by unfold je at O;rw[z]at O;exact O
 refine wpAny_Try_except ?_;generalize hEt:(fun (e:Value) (s₁:Shared)=>wpAny (model X.prog X.w) X.A (noteFrame e X.env) (fun _ s₂=>wpAny (model X.prog X.w) X.A (setFlight e Option.none) (fun _ s₃=>wpAny (model X.prog X.w) X.A (handleBy e X.env [.ExceptHandler (some (.Name x np)) (some n0) (b₀::suite) hpos]) (SM X μ r Ge B G y (je i cs F Fh g)) X.xe s₃) X.xe s₂) X.xe s₁)=Et;have S:∀c,F g= .exc c→∀U H1 s1 ev T,Inv X y σ H1 s1→Rw X.K μ Ge B U H1 σ g fp→Same G U→CXF X.prog X.w X.stack H1 s1 (fun cls _ H'=>cls= .ref c∧Same H1 H') ev T→Et ev T:=by
  intro c hc U H1 s1 ev T J R1 sg hx;have ho':=O;unfold je at ho';rw[hc]at ho';dsimp only at ho';have hcc:cs.contains c=true:=by
   cases q:cs.contains c with
   |true=>rfl
   |false=>rw[q]at ho';exact ho'.elim
  rw[if_pos hcc]at ho';have hrt:∃d,Fh (g.set i (some (.xc c)))= .nx d:=by
   cases q:Fh (g.set i (some (.xc c))) with
   |nx d=>exact⟨d,rfl⟩
   |_=>rw[q]at ho';exact ho'.elim
  obtain⟨d0,ed0⟩:=hrt;have eT:je i cs F Fh g= .nx (d0.set i none):=by unfold je;rw[hc];dsimp only;rw[if_pos hcc,ed0]
  obtain⟨hmat,hek⟩:=hcs c (by simpa using hcc);obtain⟨e,cls,a0,Bh,H2,rfl,fl,hn,⟨ecl,sH⟩,S⟩:=J.landed hx;subst ecl;show Et (.ref e) T;rw[←hEt];show wpAny _ _ (noteFrame (.ref e) X.env) _ _ T;rw[hs]at fl;refine wpAny_looks_onW (base:=Bh) (outer:=X.outer) (L:=X.env.locals) (by rw[I.ok.frames,hs]) hf fl fun h4 held4 up4=>?_;refine wpAny_landsW held4 fun h5 fl5 up5=>?_;have up5':=up4.trans up5;obtain⟨_,J5⟩:=S h5 T.toks (by rw[hs];exact fl5) up5';have mk:∀(Ex:Value→Shared→Prop),Inv (X.inH e Ex) y σ H2 {T with heap:=h5}:=fun Ex=>J5.inH e Ex
  refine wpAny_handleBy_cons (codeAny_handlers_test (fL (X:=X.inH e (fun _ _=>True)) (mk _) hg hm ?_ hdb)) (by intro q;cases q);obtain⟨ob,hob,hcl⟩:=fl5.there;have LT:W.Looks (model X.prog X.w) h5 (typeOf (.ref e)) (.ref c):=hcl ▸ (W.Looks.ld hob).andThen .now;refine(W.exm_one (M:=model X.prog X.w) J5.kIn LT hmat).here ?_;show codeAny _ _ _ _ _;refine codeAny_handlers_suite_as ?_;refine lands_againW (s:={T with heap:=h5}) fl5 fun h6 fl6 up6=>?_
  obtain⟨J6,_⟩:=S h6 T.toks (by rw[hs];exact fl6) (up5'.trans up6);refine lE (X:=X) (i:=i) (v:=.ref e) J6 hN hi (.inl hl) rfl (fun s7 J7=>?_) (.inr hl);generalize hEx:(fun (x:Value) (s₃:Shared)=>_)=Ex;have x2:Ext U H1 (aS U e (jS e (.ref c))) (aS H2 e (jS e (.ref c))):=by
   have hs2:Same U H2:=R1.gh.trans sH;have x0:Ext U H1 U H2:=⟨sH,.refl _,hs2,fun b o h=>.inl h⟩;exact x0.trans (.new hs2 hn _)
  have R2:Rw X.K μ Ge B (aS U e (jS e (.ref c))) (aS H2 e (jS e (.ref c))) σ g fp:=R1.growF x2;have R3:=R2.set0 (i:=i) (d:=.xc c) (v:=.ref e) hiσ hmi (rep_xc.mpr ⟨e,rfl,ao,hek⟩);refine wpAny_mono (hh e Ex y s7 _ Ge B _ _ _ _ (J7.inH e Ex) R3 (by rw[ed0];trivial)) (fun f s8 q8=>?_) fun x s8 q8=>q8;rw[ed0]at q8;cases f with
  |next=>
   obtain⟨ρ8,σ8,G8,H8,fp8,q,J8,R8,sg8⟩:=q8;obtain⟨m8,n8,l8⟩:=J8.loc;refine wpAny_nameGoes_keeps hl n8 (by rw[I.ok.kind];rfl) fun h9 v9 n9 sb=>?_;rw[eT];cases q;exact⟨_,_,G8,H8,_,rfl,(J8.outH I.ok).unset hN hi l8 sb n9,R8.forget,sg.trans (x2.gg.trans sg8)⟩
  |brk=>obtain⟨_,_,_,_,_,q,_⟩:=q8;cases q
  |cont=>obtain⟨_,_,_,_,_,q,_⟩:=q8;cases q
  |ret u=>obtain⟨_,_,_,_,_,_,q,_⟩:=q8;cases q
 have body:wpAny (model X.prog X.w) X.A (execs [st] X.env) (SM X μ r Ge B G y (je i cs F Fh g)) Et s:=by
  refine wpAny_execs_cons (aE (hb Et y s σ Ge B G H g fp I R hnb S) fun fl s1 q=>?_);cases fl with
  |next=>
   obtain⟨ρ',σ',G',H',fp',e,q,q1,q2⟩:=q;exact wpAny_execs_nil ⟨ρ',σ',G',H',fp',by unfold je;rw[e],q,q1,q2⟩
  |brk=>obtain⟨_,_,_,_,_,e,_⟩:=q;unfold je at O;rw[e]at O;exact O.elim
  |cont=>obtain⟨_,_,_,_,_,e,_⟩:=q;unfold je at O;rw[e]at O;exact O.elim
  |ret u=>obtain⟨_,_,_,_,_,_,e,_⟩:=q;unfold je at O;rw[e]at O;exact O.elim
 refine wpAny_mono body (fun f s1 q1=>?_) fun e s1 q1=>q1;cases f with
 |next=>exact wpAny_execs_nil q1
 |brk=>exact q1
 |cont=>exact q1
 |ret u=>exact q1
end
structure FnH (P:Program)(w:World)(K:W.Frag)(mg:Str→Option Value)(base:Heap)(k:Nat)(f:Addr)(fd:FuncData)(ps:List Str)(m:List D→Res D):Prop where
 len:∀ds,m ds≠ .bad→ds.length=ps.length
 run:∀(A:Around) (e:Addr) (outer:List Env) (s:Shared) (H:Hp) (args:Args) (us:List Value) (vs:List V) (Q:VK) (ds:List D) (G:Hp),Room k A→Env0 P w K mg base A outer s H→BindsTo s fd args (ps.zip us)→Vals vs us→Same G H→RepL K G ds vs→OkR jl H (m ds)→
  (∀d,m ds= .ok d→∀v G' H',Ext G H G' H'→Rep K G' d v→Q v H')→codeAny (model P w) (A.mark (some (.ref e))) (.call (.ref f) args) (CR (CXF P w) outer P w H s Q jl) s
structure CalH (P:Program)(w:World)(K:W.Frag)(mg:Str→Option Value)(base:Heap)(x:Str)(k:Nat)(ps:List Str)(m:List D→Res D):Prop where
 ex:∃f fd,FnH P w K mg base k f fd ps m∧Binds K fd ps []∧mg x=some (.ref f)∧W.keepIn K (.ref f)=true
section
variable{P:Program}{w:World}{K:W.Frag}{mg:Str→Option Value}{base:Heap}
theorem Fun.inSuite {x qual:Str}{st:Stmt}{f:Addr}{fd:FuncData}{N ps:List Str}{k n:Nat}{F:DS→Out}(Fn:Fun K x qual st f fd)(S:FnScope N ps (af st))(hn:ps.length=n)
  (hbody:∀(cdv:Value) (A:Around) (outer:List Env) (s:Shared) (H:Hp) (e:Addr) (xe:Value→Shared→Prop),Room k (A.deeper (envOfC qual (af st) s.heap.objs.size f cdv))→oQ ((oS P w K mg base N qual (af st) f cdv A outer s H jl).inH e xe) jl [] 0 (bv st) F):FnH P w K mg base (k+1) f fd ps (eh n N F):=by
 have hlen:∀X,eh n N F X≠ .bad→X.length=ps.length∧fO (F (au N X))=eh n N F X:=fun X h=>by
  unfold eh at h ⊢;split at h
  ·rename_i e;rw[if_pos e];exact⟨e.trans hn.symm,rfl⟩
  ·exact absurd rfl h
 refine⟨fun X h=>(hlen X h).1,fun A e outer s H args us vs Q X G hr e0 hb r hs rl ho kk=>?_⟩;obtain⟨oc,od,kV,doc,pm,an,cdv,ct,osl,rfl,lk,hcd⟩:=Fn.ex;have nb:eh n N F X≠ .bad:=fun z=>by rw[z]at ho;exact ho
 obtain⟨hl0,E⟩:=hlen X nb;have hl:vs.length=ps.length:=by rw[←rl.length];exact hl0
 have KX:K.In s.heap:=e0.mod.kin.keeps fun b o e=>(e0.bs b o e).1;have lim:s.heap.NoLimit:=e0.mod.nolimit.keeps fun b o e=>(e0.bs b o e).1;have hkind:∀y∈ps.zip us,(af st).names.lookup y.1=some .local∨((af st).names.lookup y.1=some .cell∧((cellsFrom (s.heap.objs.size+1) (af st).names []).lookup y.1).isSome=true):=fun ⟨n,v⟩ hy=>by
  rcases S.par n (of_mem_zip hy).1 with q|q
  ·exact .inl q
  ·exact .inr ⟨q,W.cellsFrom_some _ _ _ (.inl q)⟩
 have hoO:OkO jl H (F (au N X)):=by
  rw[←E]at ho;cases q:F (au N X) with
  |exc c=>rw[q]at ho;exact ho
  |bad=>rw[q]at ho;exact ho
  |_=>trivial
 have R0:Rw K [] G H G H (cW N vs) (au N X) (fun _=>[]):=by
  refine⟨hs,.refl _,.refl _,fun b o e=>.inl e,fun i a e=>(by cases e),fun i a e=>(by cases e),fun i a e=>(by cases e),fun i=>nodup_nil,fun i j a e=>(by cases e),fun i d e=>?_⟩;obtain⟨v,hv,rv⟩:=ly rl i d e;exact⟨v,hv,rfl,rv⟩
 refine codeAny_call_function (A:=A.mark (some (.ref e))) hr.depth (KX _ _ lk) rfl S.co S.gen rfl (W.codeRec_of KX hcd) (hb _ _ _ _ ?_);refine wpAny_newFunctionEnv_cells S.kind hkind fun env he s1 x=>?_;subst he;refine⟨lim.keeps x.toInCall.keep,codeAny_func ?_⟩;have I:Inv (oS P w K mg base N qual (af st) f cdv A outer s H jl) [] (cW N vs) H s1:=ml S hr.hd e0 hl r x;refine wpAny_mono (hbody cdv A outer s H e _ (hr.deeper _) [] s1 (cW N vs) G H G H (au N X) _ (I.inH e _) R0 hoO) (fun fl s' hq=>?_) fun e s' hs=>hs;cases fl with
 |ret u=>
  obtain⟨d,v,σ',G',H',S,e1,U,rv,x,o,w⟩:=hq;have hd:eh n N F X= .ok d:=by rw[←E,e1];rfl
  exact⟨v,H',U.os,U.bare,U.base,U.hok,rv,kk d hd v G' H' x o.2⟩
 |next=>
  obtain⟨ρ',σ',G',H',fp',e1,U,R,_⟩:=hq;have hd:eh n N F X= .ok .non:=by rw[←E,e1];rfl
  exact⟨.non,H',U.os,U.bare,U.base,U.hok,rfl,kk .non hd .non G' H' R.ext (rep_non.mpr rfl)⟩
 |brk=>
  obtain⟨ρ',σ',G',H',fp',e1,_⟩:=hq;rw[e1]at E;exact absurd E.symm nb
 |cont=>
  obtain⟨ρ',σ',G',H',fp',e1,_⟩:=hq;rw[e1]at E;exact absurd E.symm nb
theorem Sta.calH {x:Str}{st:Stmt}{N ps:List Str}{k n:Nat}{F:DS→Out}(S:Sta K mg x st ps)(sc:FnScope N ps (af st))(hn:ps.length=n)
  (hbody:∀(f:Addr) (cdv:Value) (A:Around) (outer:List Env) (s:Shared) (H:Hp) (e:Addr) (xe:Value→Shared→Prop),Room k (A.deeper (envOfC x (af st) s.heap.objs.size f cdv))→
   oQ ((oS P w K mg base N x (af st) f cdv A outer s H jl).inH e xe) jl [] 0 (bv st) F):CalH P w K mg base x (k+1) ps (eh n N F):=by
 obtain⟨f,fd,hf,hb,hm,hk⟩:=S.ex;exact⟨f,fd,hf.inSuite sc hn (hbody f),hb,hm,hk⟩
end
section
variable{X:Cx}
theorem A9 {k j:Nat}{ps:List Str}{m:List D→Res D}{x:Str}{p pos:Pos}{e:Expr}{es:List Expr}{fs:DS→Res (List D)}{e0:Addr}{E':Value→Shared→Prop}(C:CalH X.prog X.w X.K X.mg X.base x k ps m)(hr:Room j X.A)
  (ha:kE (X.inH e0 E') jl (e::es) fs) (hkj:k≤j:=by decide) (hg:Gl X x:=by rfl) (hdb:(x==("__debug__" :Str))=false:=by decide) (he:starEach (e::es) X.env=(false,eval e X.env)::starEach es X.env:=by rfl) (hpl:(backTo pos (starEach es X.env)).any (·.1)=false:=by rfl) :
  PD (X.inH e0 E') jl (.Call (.Name x p) (e::es) [] pos) (bn fs m):=by
 intro y s σ G H ρ I hs hro ho;obtain⟨f,fd,F,hb,hm,hk⟩:=C.ex;have main:wpAny (model X.prog X.w) (X.inH e0 E').A (eval (.Call (.Name x p) (e::es) [] pos) X.env) (EP (X.inH e0 E') y σ fun v H'=>∃d t,bn fs m ρ= .ok d∧Ext G H t H'∧Rep X.K t d v) E' s:=by
  refine wpAny_Call_Name_kw (fL (X:=X.inH e0 E') I hg hm ?_ hdb);refine W.callWith_K (h₀:=X.base) I.ok.mod.kin hk (aE (ha pos y s σ G H ρ I hs hro ho.fst) fun us s1 ⟨ds,eds,vs,G1,H1,I1,r1,x1,rl⟩=>⟨I1.kIn,?_⟩) he hpl;have hom:=ho.snd eds x1.hh;have nb:m ds≠ .bad:=fun z=>by rw[z]at hom;exact hom
  have hl:(us ++ []).length=ps.length:=by rw[append_nil,←r1.length,←rl.length];exact F.len ds nb
  have hb':=hb s1 us I1.kIn hl;rw[append_nil]at hb';have z:=I1.env0;refine wpAny_call (codeAny_mono (F.run X.A e0 X.stack s1 H1 ⟨us,[]⟩ us vs (fun v H'=>∃d t,bn fs m ρ= .ok d∧Ext G H t H'∧Rep X.K t d v) ds G1 (hr.mono hkj) ⟨z.frames,z.mod,z.bs,z.bsz,z.funs,z.frf,z.hok,z.bare⟩ hb' r1 x1.gh rl hom fun d ed v t H' xx rp=>⟨d,t,al eds ed,x1.trans xx,rp⟩) fun r s' hq=>?_);cases r with
  |error e=>exact ff y σ H1 s1 e s' I1 hq
  |ok fl=>
   cases fl with
   |ret u=>exact I1.after hq
   |next=>exact False.elim hq
   |brk=>exact False.elim hq
   |cont=>exact False.elim hq
 exact aE main fun u s' hZ168=>(by obtain⟨v,H',I',r',d,t,e,x,rp⟩:=hZ168;exact⟨d,e,v,t,H',I',r',x,rp⟩)
end
end L2
set_option maxHeartbeats 4000000
namespace K14
open PySem L2
noncomputable def top (i:Nat):Stmt:=PySem.Challenge.pw_haltline_k14_refusals_apart.main.body.getD i (.Pass ⟨0,0,0,0⟩)
structure Ad where
 HE:Addr
 BL:Addr
 BT:Addr
 BO:Addr
 BB:Addr
 ST:Addr
 TS:Addr
 TM:Addr
 BX:Addr
structure Kit (K:W.Frag)(Y:Ad):Prop where
 i0:W.kitOne K (.ref Y.BL) (.ref Y.BL)=some true
 i1:W.kitOne K (.ref Y.BL) (.ref Y.BT)=some false
 i2:W.kitOne K (.ref Y.BL) (.ref Y.BO)=some false
 i3:W.kitOne K (.ref Y.BL) (.ref Y.BB)=some false
 i4:W.kitOne K (.ref Y.BL) (.ref Y.ST)=some false
 i5:W.kitOne K (.ref Y.BL) (.ref Y.TS)=some false
 i6:W.kitOne K (.ref Y.BL) (.ref Y.TM)=some false
 i7:W.kitOne K (.ref Y.BL) (.ref Y.BX)=some false
 i8:W.kitOne K (.ref Y.BT) (.ref Y.BL)=some false
 i9:W.kitOne K (.ref Y.BT) (.ref Y.BT)=some true
 i10:W.kitOne K (.ref Y.BT) (.ref Y.BO)=some false
 i11:W.kitOne K (.ref Y.BT) (.ref Y.BB)=some false
 i12:W.kitOne K (.ref Y.BT) (.ref Y.ST)=some false
 i13:W.kitOne K (.ref Y.BT) (.ref Y.TS)=some false
 i14:W.kitOne K (.ref Y.BT) (.ref Y.TM)=some false
 i15:W.kitOne K (.ref Y.BT) (.ref Y.BX)=some false
 i16:W.kitOne K (.ref Y.BO) (.ref Y.BL)=some false
 i17:W.kitOne K (.ref Y.BO) (.ref Y.BT)=some false
 i18:W.kitOne K (.ref Y.BO) (.ref Y.BO)=some true
 i19:W.kitOne K (.ref Y.BO) (.ref Y.BB)=some false
 i20:W.kitOne K (.ref Y.BO) (.ref Y.ST)=some false
 i21:W.kitOne K (.ref Y.BO) (.ref Y.TS)=some false
 i22:W.kitOne K (.ref Y.BO) (.ref Y.TM)=some false
 i23:W.kitOne K (.ref Y.BO) (.ref Y.BX)=some false
 i24:W.kitOne K (.ref Y.BB) (.ref Y.BL)=some false
 i25:W.kitOne K (.ref Y.BB) (.ref Y.BT)=some false
 i26:W.kitOne K (.ref Y.BB) (.ref Y.BO)=some false
 i27:W.kitOne K (.ref Y.BB) (.ref Y.BB)=some true
 i28:W.kitOne K (.ref Y.BB) (.ref Y.ST)=some false
 i29:W.kitOne K (.ref Y.BB) (.ref Y.TS)=some false
 i30:W.kitOne K (.ref Y.BB) (.ref Y.TM)=some false
 i31:W.kitOne K (.ref Y.BB) (.ref Y.BX)=some false
 i32:W.kitOne K (.ref Y.ST) (.ref Y.BL)=some false
 i33:W.kitOne K (.ref Y.ST) (.ref Y.BT)=some false
 i34:W.kitOne K (.ref Y.ST) (.ref Y.BO)=some false
 i35:W.kitOne K (.ref Y.ST) (.ref Y.BB)=some false
 i36:W.kitOne K (.ref Y.ST) (.ref Y.ST)=some true
 i37:W.kitOne K (.ref Y.ST) (.ref Y.TS)=some false
 i38:W.kitOne K (.ref Y.ST) (.ref Y.TM)=some false
 i39:W.kitOne K (.ref Y.ST) (.ref Y.BX)=some false
 i40:W.kitOne K (.ref Y.TS) (.ref Y.BL)=some false
 i41:W.kitOne K (.ref Y.TS) (.ref Y.BT)=some false
 i42:W.kitOne K (.ref Y.TS) (.ref Y.BO)=some false
 i43:W.kitOne K (.ref Y.TS) (.ref Y.BB)=some false
 i44:W.kitOne K (.ref Y.TS) (.ref Y.ST)=some false
 i45:W.kitOne K (.ref Y.TS) (.ref Y.TS)=some true
 i46:W.kitOne K (.ref Y.TS) (.ref Y.TM)=some false
 i47:W.kitOne K (.ref Y.TS) (.ref Y.BX)=some false
 i48:W.kitOne K (.ref Y.TM) (.ref Y.BL)=some false
 i49:W.kitOne K (.ref Y.TM) (.ref Y.BT)=some false
 i50:W.kitOne K (.ref Y.TM) (.ref Y.BO)=some false
 i51:W.kitOne K (.ref Y.TM) (.ref Y.BB)=some false
 i52:W.kitOne K (.ref Y.TM) (.ref Y.ST)=some false
 i53:W.kitOne K (.ref Y.TM) (.ref Y.TS)=some false
 i54:W.kitOne K (.ref Y.TM) (.ref Y.TM)=some true
 i55:W.kitOne K (.ref Y.TM) (.ref Y.BX)=some false
 i56:W.kitOne K (.ref Y.BX) (.ref Y.BL)=some false
 i57:W.kitOne K (.ref Y.BX) (.ref Y.BT)=some false
 i58:W.kitOne K (.ref Y.BX) (.ref Y.BO)=some false
 i59:W.kitOne K (.ref Y.BX) (.ref Y.BB)=some false
 i60:W.kitOne K (.ref Y.BX) (.ref Y.ST)=some false
 i61:W.kitOne K (.ref Y.BX) (.ref Y.TS)=some false
 i62:W.kitOne K (.ref Y.BX) (.ref Y.TM)=some false
 i63:W.kitOne K (.ref Y.BX) (.ref Y.BX)=some true
 i64:W.kitOne K (.ref Y.BL) (.type "ValueError")=some true
 i65:W.kitOne K (.ref Y.BT) (.type "ValueError")=some true
 i66:W.kitOne K (.ref Y.BO) (.type "ValueError")=some true
 i67:W.kitOne K (.ref Y.BB) (.type "ValueError")=some true
 i68:W.kitOne K (.ref Y.ST) (.type "ValueError")=some true
 i69:W.kitOne K (.ref Y.TS) (.type "ValueError")=some true
 i70:W.kitOne K (.ref Y.TM) (.type "ValueError")=some true
 i71:W.kitOne K (.ref Y.BX) (.type "ValueError")=some true
structure Txt (K:W.Frag)(mg:Str→Option Value)(CL:Addr)(Y:Ad):Prop where
 b_len:mg "len" =none
 b_list:mg "list" =none
 b_range:mg "range" =none
 b_max:mg "max" =none
 b_tuple:mg "tuple" =none
 b_sorted:mg "sorted" =none
 b_enumerate:mg "enumerate" =none
 b_zip:mg "zip" =none
 b_isinstance:mg "isinstance" =none
 b_ValueError:mg "ValueError" =none
 b_str:mg "str" =none
 mS:∃t,mg "MOST_STRETCHES" =some (.int 5 t)
 mR:∃t,mg "MOST_RUN" =some (.int 20 t)
 mC:∃t,mg "MOST_CLEAR" =some (.int 5 t)
 mT:∃t,mg "MOST_TRAINS" =some (.int 5 t)
 mY:∃t,mg "MOST_READY" =some (.int 60 t)
 mB:∃t,mg "MOST_FOR_BEST" =some (.int 3 t)
 sB:∃t,mg "BETWEEN_RUNS" =some (.str "-" t)
 sA:∃t,mg "AHEAD_OF_GAP" =some (.str " clear " t)
 gHE:mg "HaltError" =some (.ref Y.HE)
 xBL:ExcC K mg "BadLine" Y.BL
 kBL:ExcK K Y.BL
 gBL:mg "BadLine" =some (.ref Y.BL)
 xBT:ExcC K mg "BadTrains" Y.BT
 kBT:ExcK K Y.BT
 gBT:mg "BadTrains" =some (.ref Y.BT)
 xBO:ExcC K mg "BadOrders" Y.BO
 kBO:ExcK K Y.BO
 gBO:mg "BadOrders" =some (.ref Y.BO)
 xBB:ExcC K mg "BadTable" Y.BB
 kBB:ExcK K Y.BB
 gBB:mg "BadTable" =some (.ref Y.BB)
 xST:ExcC K mg "Sticks" Y.ST
 kST:ExcK K Y.ST
 gST:mg "Sticks" =some (.ref Y.ST)
 xTS:ExcC K mg "TooSoon" Y.TS
 kTS:ExcK K Y.TS
 gTS:mg "TooSoon" =some (.ref Y.TS)
 xTM:ExcC K mg "TooMany" Y.TM
 kTM:ExcK K Y.TM
 gTM:mg "TooMany" =some (.ref Y.TM)
 xBX:ExcC K mg "BadText" Y.BX
 kBX:ExcK K Y.BX
 gBX:mg "BadText" =some (.ref Y.BX)
 hs:∀c∈[Y.BL,Y.BT,Y.BO,Y.BB,Y.ST,Y.TS,Y.TM,Y.BX],W.exmOne K (.ref c) (.ref Y.HE)=some true∧ExcK K c
 mgL:mg "Line" =some (.ref CL)
 cl:Cls K CL
 nM:NoAttr K CL "minutes"
 nG:NoAttr K CL "gap"
section
variable{P:Program}{w:World}{K:W.Frag}{mg:Str→Option Value}{base:Heap}{CL:Addr}{Y:Ad}
seal L2.PD L2.kE L2.rN L2.PDW L2.BN L2.PN L2.PZ L2.lL L2.oQ L2.xn L2.Df
noncomputable abbrev fU:Stmt:=top 17
noncomputable abbrev dh:List Str:=["runs","clear","run"]
@[irreducible] noncomputable def cj (K:W.Frag)(CL:Addr)(Y:Ad):DS→Out:=(az (gy (jV (fF (kI 1) (c1 (ac 0) bz) (kI 5) qy qy)) (a7 Y.BL (fun _=>true)) nxt)
  (az (fJ (sL (ac 0)) (b8 2) (gy (jV (fF (kI 1) (ac 2) (kI 20) qy qy)) bad1 nxt))
  (gy (jV (fF (kI 0) (ac 1) (kI 5) qy qy)) bad1 nxt)))
noncomputable def aK (K:W.Frag)(CL:Addr)(Y:Ad):List D→Res D:=eh 2 dh (cj K CL Y)
theorem sc_check_line:FnScope dh ["runs","clear"] (af fU):=⟨rfl,rfl,rfl,by decide +kernel,rfl,by decide +kernel,by decide +kernel⟩
theorem fB (T:Txt K mg CL Y)(S:Sta K mg "check_line" fU ["runs","clear"]):Cal P w K mg base "check_line" 1 ["runs","clear"] (freshSp K 0 (aK K CL Y)):=by
 refine S.cal (k:=0) (r:=0) (F:=cj K CL Y) sc_check_line [] (by decide) rfl fun f cdv A outer s H E hr=>?_;unfold cj;exact(ah (bf (dl (du fY fY ag (bK T.b_len (dv 0)) (iY T.mS))) (ak (cU (mF T.xBL (aG c_ (aG (gK (v6 T.mS)) (aG c_ hV))) (fun _=>true) (fun σ G H ρ _ _ _=>⟨trivial,oJ (by decide),trivial,trivial⟩)))) bd)
   (ah (hX (j:=2) PassesOwn.leaving rfl sc_check_line.nd rfl (.inl rfl) rfl (lJ (cx (dv 0)))
    (ak (bf (dl (du fY fY ag (dv 2) (iY T.mR))) (ak cz) bd)))
   (ak (bf (dl (du fY fY ag (dv 1) (iY T.mC))) (ak cz) bd))))
noncomputable abbrev rj:Stmt:=hG (top 16) 0
noncomputable abbrev rm:Stmt:=hG (top 16) 1
noncomputable abbrev oA:Stmt:=hG (top 16) 2
noncomputable def en (CL:Addr):List D→Res D
 | [d]=>(iL CL "minutes" d).bind fun x=>mr [x]
 |_=>.bad
noncomputable def ix (CL:Addr):List D→Res D
 | [d]=>iL CL "gap" d
 |_=>.bad
noncomputable def db (K:W.Frag)(CL:Addr)(Y:Ad):List D→Res D
 | [.lst l,.int c]=>(aK K CL Y [.lst l,.int c]).bind fun _=>.ok (.ins CL ["minutes","gap"] [.tup l,.int c])
 |_=>.bad
theorem vA:zL CL (db K CL Y):=by
 intro ds d h;unfold db at h;split at h
 ·rename_i l c;cases q:aK K CL Y [.lst l,.int c] with
  |ok x=>rw[q]at h;cases h;exact⟨_,_,rfl⟩
  |exc x=>rw[q]at h;cases h
  |bad=>rw[q]at h;cases h
 ·cases h
theorem my {E:XK}{H:Hp}{ds:List D}(h:OkR E H (db K CL Y ds)):∃l c,ds=[.lst l,.int c]:=by
 unfold db at h;split at h
 ·exact⟨_,_,rfl⟩
 ·exact h.elim
theorem ya (v u:V):fR "gap" u (fR "minutes" v [])=([("minutes",v),("gap",u)]:List (Str×V)):=by
 show (if ("minutes" :Str)= "gap" then [(("minutes" :Str),u)] else (("minutes" :Str),v)::fR "gap" u [])=([("minutes",v),("gap",u)]:List (Str×V))
 rw[if_neg (by decide +kernel)];rfl
theorem y3:FnScope ["self","runs","clear"] ["self","runs","clear"] (af rj):=⟨rfl,rfl,rfl,by decide +kernel,rfl,by decide +kernel,by decide +kernel⟩
theorem yr {f:Addr}{fd:FuncData}(F:Fun K "__init__" "Line.__init__" rj f fd)(T:Txt K mg CL Y)(fB:Cal P w K mg base "check_line" 1 ["runs","clear"] (freshSp K 0 (aK K CL Y))):FnOk P w K mg base (CXF P w) 2 f fd ["self","runs","clear"] (nP K CL (db K CL Y)):=by
 refine F.okF y3 (fun vs H Q E h=>?_) (fun cdv A outer s H vs Q E hr h=>?_)
 ·obtain⟨p,dx,rest,ds,G,rfl,_,_,_,rl,ho,_⟩:=h;obtain⟨l,c,rfl⟩:=my ho;have:=rl.length;simp only[length_cons,length_nil]at this ⊢;omega
 ·obtain⟨p,dx,rest,ds,G,rfl,hp,hs,gp,rl,ho,k⟩:=h;obtain⟨l,c,rfl⟩:=my ho
  ·obtain⟨v1,r1,rfl,p1,rl⟩:=rl.inv;obtain⟨v2,r2,rfl,p2,rl⟩:=rl.inv;cases rl.inv0;have ho':OkR E H ((aK K CL Y [.lst l,.int c]).bind fun _=>.ok (D.ins CL ["minutes","gap"] [.tup l,.int c])):=ho;refine⟨_,qh (ku (eR (E:=E) (aD fB hr (aa (dv 1) (aa (dv 2) ae)))))
    (qh (ww (pv 0) (eR (E:=E) (vW T.b_tuple (dv 1))) rfl) (yV (ww (pv 0) (pv 2) rfl))),?_⟩
   have ro:Ro K G (cW ["self","runs","clear"] [.ref p,v1,v2]) [none,some (.lst l),some (.int c)]:=Ro.skip (Ro.cons p1 (Ro.cons p2 Ro.nil));refine⟨G,_,hs,ro,ho'.fst,fun d ed v G1 H1 x1 rp1=>?_⟩;refine⟨G1,_,x1.gh,ro.mono x1.gg,trivial,fun d2 ed2 u G2 H2 x2 rp2=>?_⟩;have ed3:d2= .tup l:=by cases ed2;rfl
   subst ed3;have x:=x1.trans x2;have h2p:H2 p=some (.ins CL dx []):=x.hh _ _ hp;have g2p:G2 p=none:=by
    cases q:G2 p with
    |none=>rfl
    |some o=>
     rcases x.nw p o q with z|z|⟨ks,z⟩
     ·rw[gp]at z;cases z
     ·rw[hp]at z;cases z
     ·have h3:=x.gh p o q;rw[h2p]at h3;cases h3;cases z
   refine⟨_,rfl,p,CL,dx,[],rfl,h2p,T.cl,T.nM,(by show 0<1000;decide),_,rfl,_,rfl,p,CL,dx,_,rfl,ao,T.cl,T.nG,(by show 1<1000;decide),?_⟩;refine k ["minutes","gap"] [.tup l,.int c] ?_ [("minutes",u),("gap",v2)] G2 _ rfl (.cons rp2 (.cons (p2.mono x.gg) .nil)) (by rw[ao,ya]) (fun b o e hb=>?_) x.gg (fun b o e=>?_) x.nw g2p
   ·show (aK K CL Y [.lst l,.int c]).bind _=_;have:aK K CL Y [.lst l,.int c]= .ok d:=ed;rw[this];rfl
   ·rw[ai hb,ai hb];exact x.hh b o e
   ·have hb:b≠p:=fun z=>by subst z;rw[g2p]at e;cases e
    rw[ai hb,ai hb];exact x.gh b o e
theorem y4:FnScope ["self"] ["self"] (af rm):=⟨rfl,rfl,rfl,by decide +kernel,rfl,by decide +kernel,by decide +kernel⟩
theorem yu {f:Addr}{fd:FuncData}(F:Fun K "runs" "Line.runs" rm f fd)(T:Txt K mg CL Y):FnOk P w K mg base (CXF P w) 1 f fd ["self"] (pureSp K (en CL)):=by
 refine F.pure y4 (fun ds h=>?_) (fun cdv A outer s H E hr=>?_)
 ·unfold en at h;split at h
  ·rfl
  ·exact absurd rfl h
 ·refine⟨_,sI (wu (jE ng xE rfl T.b_list xy (aa (vP (dv 0) T.cl T.nM) ae))),?_⟩;intro ds h
  match ds,h with
  | [d],h=>
   show fO ((((iL CL "minutes" d).bind _).bind _).out _)=(iL CL "minutes" d).bind _;cases iL CL "minutes" d with
   |ok x=>
    show fO ((mr [x]).out Out.rt)=mr [x];cases mr [x] <;> rfl
   |_=>rfl
  | [],h=>exact absurd rfl h
  |_::_::_,h=>exact absurd rfl h
theorem wR:FnScope ["self"] ["self"] (af oA):=⟨rfl,rfl,rfl,by decide +kernel,rfl,by decide +kernel,by decide +kernel⟩
theorem vM {f:Addr}{fd:FuncData}(F:Fun K "clear" "Line.clear" oA f fd)(T:Txt K mg CL Y):FnOk P w K mg base (CXF P w) 1 f fd ["self"] (pureSp K (ix CL)):=by
 refine F.pure wR (fun ds h=>?_) (fun cdv A outer s H E hr=>?_)
 ·unfold ix at h;split at h
  ·rfl
  ·exact absurd rfl h
 ·refine⟨_,sI (wu (vP (dv 0) T.cl T.nG)),?_⟩;intro ds h
  match ds,h with
  | [d],h=>
   show fO ((iL CL "gap" d).out _)=iL CL "gap" d;cases iL CL "gap" d <;> rfl
  | [],h=>exact absurd rfl h
  |_::_::_,h=>exact absurd rfl h
noncomputable abbrev fS:Stmt:=top 66
noncomputable abbrev fq:List Str:=["script","k","many","cell","stir"]
@[irreducible] noncomputable def dc (K:W.Frag)(CL:Addr)(Y:Ad):DS→Out:=(az (aN 3 (kI 7))
  (az (gy (f7 (aj (c1 (ac 0) bz) (kI 0) Ca)) (aN 3 (aj (ac 0) (aj (ac 1) (c1 (ac 0) bz) pV) bG)) nxt)
  (az (aN 4 (aj (aj (aj (aj (ac 3) (kI 48271) lU) (aj (aj (ac 1) (kI 1) bg) (kI 7919) lU) bg) (c1 (ac 0) bz) bg) (kI 2147483647) pV))
  (az (aN 4 (aj (aj (aj (aj (ac 4) (ac 4) lU) (aj (ac 1) (kI 16807) lU) bg) (kI 11) bg) (kI 2147483647) pV))
  (cG (aj (aj (aj (aj (ac 4) (kI 48271) lU) (kI 2147483647) pV) (kI 16) sd) (ac 2) pV))))))
noncomputable def aH (K:W.Frag)(CL:Addr)(Y:Ad):List D→Res D:=eh 3 fq (dc K CL Y)
theorem sc__law_drawn:FnScope fq ["script","k","many"] (af fS):=⟨rfl,rfl,rfl,by decide +kernel,rfl,by decide +kernel,by decide +kernel⟩
theorem aR (T:Txt K mg CL Y)(S:Sta K mg "_law_drawn" fS ["script","k","many"]):Cal P w K mg base "_law_drawn" 1 ["script","k","many"] (freshSp K 0 (aH K CL Y)):=by
 refine S.cal (k:=0) (r:=0) (F:=dc K CL Y) sc__law_drawn [] (by decide) rfl fun f cdv A outer s H E hr=>?_;unfold dc;exact(ah (ax (i:=3) sc__law_drawn.nd rfl (.inl rfl) (av (PN.of ag)))
   (ah (bf (aM uK (bK T.b_len (dv 0)) ag (aW _)) (ak (ax (i:=3) sc__law_drawn.nd rfl (.inl rfl) (av (PN.of (bj (dv 0) (aA kT (dv 1) (bK T.b_len (dv 0)))))))) bd)
   (ah (ax (i:=4) sc__law_drawn.nd rfl (.inl rfl) (av (PN.of (aA kT (aA aI (aA aI (aA g_ (dv 3) ag) (aA g_ (aA aI (dv 1) ag) ag)) (bK T.b_len (dv 0))) ag))))
   (ah (ax (i:=4) sc__law_drawn.nd rfl (.inl rfl) (av (PN.of (aA kT (aA aI (aA aI (aA g_ (dv 4) (dv 4)) (aA g_ (dv 1) ag)) ag) ag))))
   (ak (bL (av (PN.of (aA kT (aA xH (aA kT (aA g_ (dv 4) ag) ag) ag) (dv 2))))))))))
noncomputable abbrev cA:Stmt:=top 67
noncomputable abbrev cn:List Str:=["script","base","many","runs"]
@[irreducible] noncomputable def ci (K:W.Frag)(CL:Addr)(Y:Ad):DS→Out:=(az (aN 2 (aj (kI 1) (bn (pC (ac 0) (pC (ac 1) (pC (kI 5) pN))) (aH K CL Y)) bg))
  (az (aN 3 (a9 (sR1 (pC (ac 2) pN)) [none,some 0,some 1] (b8 0) yes (aj (kI 1) (bn (pC (ac 1) (pC (aj (aj (ac 2) (kI 2) bg) (ac 0) bg) (pC (aj (bT (pC (kI 4) (pC (kI 20) pN))) (bn (pC (ac 1) (pC (aj (ac 2) (kI 1) bg) (pC (kI 2) pN))) (aH K CL Y)) bG) pN))) (aH K CL Y)) bg)))
  (cG (iC (pC (ac 3) (pC (bn (pC (ac 0) (pC (aj (ac 1) (kI 8) bg) (pC (kI 6) pN))) (aH K CL Y)) pN))))))
noncomputable def bI (K:W.Frag)(CL:Addr)(Y:Ad):List D→Res D:=eh 2 cn (ci K CL Y)
theorem sc__law_line_by:FnScope cn ["script","base"] (af cA):=⟨rfl,rfl,rfl,by decide +kernel,rfl,by decide +kernel,by decide +kernel⟩
theorem dF (T:Txt K mg CL Y)(S:Sta K mg "_law_line_by" cA ["script","base"])(aR:Cal P w K mg base "_law_drawn" 1 ["script","k","many"] (freshSp K 0 (aH K CL Y))):Cal P w K mg base "_law_line_by" 2 ["script","base"] (freshSp K 0 (bI K CL Y)):=by
 refine S.cal (k:=1) (r:=0) (F:=ci K CL Y) sc__law_line_by [] (by decide) rfl fun f cdv A outer s H E hr=>?_;unfold ci;exact(ah (ax (i:=2) sc__law_line_by.nd rfl (.inl rfl) (av (PN.of (aA aI ag (aD aR hr (aa (dv 0) (aa (dv 1) (aa ag ae))))))))
   (ah (wm (qg sc__law_line_by.nd (i:=3) rfl rfl rfl (bE (N:=["k","script","base"]) (caps:=[none,some 0,some 1]) (af cA) cn rfl rfl (by decide +kernel)) (j:=0) rfl rfl (.inl rfl) (iz rfl T.b_range (aa (dv 2) ae)) (fun _ _ _ _=>cT) (fun _ _ _ _=>(PN.of (aA aI ag (aD aR hr (aa (dv 1) (aa (aA aI (aA aI (dv 2) ag) (dv 0)) (aa (bj (a_ (aa ag (aa ag ae))) (aD aR hr (aa (dv 1) (aa (aA aI (dv 2) ag) (aa ag ae))) ff)) ae))) ff))))) rfl)
   (ak (bL (av (PN.of (eQ (aa (dv 3) (aa (aD aR hr (aa (dv 0) (aa (aA aI (dv 1) ag) (aa ag ae)))) ae)))))))))
noncomputable abbrev eW:Stmt:=top 19
noncomputable abbrev eG:List Str:=["line","train","last_halt","halt","ready"]
@[irreducible] noncomputable def cK (K:W.Frag)(CL:Addr)(Y:Ad):DS→Out:=(az (gy (f7 (aj (c1 (ac 1) bz) (kI 3) vG)) bad1 nxt)
  (az (aN 2 (c1 (ie CL "runs" (ac 0) (en CL)) bz))
  (az (fJ (sT (BG (ac 1) oN (oI (kI 2)))) (b8 3) (gy (jV (fF (kI 0) (ac 3) (ac 2) qy qy)) bad1 nxt))
  (az (gy (f7 (aj (aj (ac 1) (kI 0) bG) (aj (ac 1) (kI 1) bG) js)) bad1 nxt)
  (az (aN 4 (aj (ac 1) (kI 2) bG))
  (gy (jV (fF (kI 0) (ac 4) (kI 60) qy qy)) bad1 nxt))))))
noncomputable def bu (K:W.Frag)(CL:Addr)(Y:Ad):List D→Res D:=eh 2 eG (cK K CL Y)
theorem sc_check_train:FnScope eG ["line","train"] (af eW):=⟨rfl,rfl,rfl,by decide +kernel,rfl,by decide +kernel,by decide +kernel⟩
theorem eL (T:Txt K mg CL Y)(S:Sta K mg "check_train" eW ["line","train"])(c_runs:CalM P w K mg base CL "runs" 1 (en CL)):Cal P w K mg base "check_train" 2 ["line","train"] (freshSp K 0 (bu K CL Y)):=by
 refine S.cal (k:=1) (r:=0) (F:=cK K CL Y) sc_check_train [] (by decide) rfl fun f cdv A outer s H E hr=>?_;unfold cK;exact(ah (bf (aM (rY hr.units) (bK T.b_len (dv 1)) ag (aW _)) (ak cz) bd)
   (ah (ax (i:=2) sc_check_train.nd rfl (.inl rfl) (av (PN.of (bK T.b_len (qb c_runs hr (dv 0))))))
   (ah (hX (j:=3) PassesOwn.leaving rfl sc_check_train.nd rfl (.inl rfl) rfl (lJ (yJ (ll (dv 1) lq (lr ag))))
    (ak (bf (dl (du fY fY ag (dv 3) (dv 2))) (ak cz) bd)))
   (ah (bf (aM (eY hr.units) (bj (dv 1) ag) (bj (dv 1) ag) (aW _)) (ak cz) bd)
   (ah (ax (i:=4) sc_check_train.nd rfl (.inl rfl) (av (PN.of (bj (dv 1) ag))))
   (ak (bf (dl (du fY fY ag (dv 4) (iY T.mY))) (ak cz) bd)))))))
noncomputable abbrev wQ:Stmt:=top 18
noncomputable abbrev uy:List Str:=["line","train","start","end"]
@[irreducible] noncomputable def rL (K:W.Frag)(CL:Addr)(Y:Ad):DS→Out:=(az (bS (bn (pC (ac 0) (pC (ac 1) pN)) (bu K CL Y)))
  (az (aN 2 (aj (ac 1) (kI 0) bG))
  (az (aN 3 (aj (ac 1) (kI 1) bG))
  (az (gy (f7 (aj (ac 2) (ac 3) AR)) (cG (bn (pC (ac 2) (pC (ac 3) pN)) mw)) nxt)
  (cG (bn (pC (aj (ac 2) (kI 1) oH) (pC (aj (ac 3) (kI 1) oH) (pC (nG (kI 1)) pN))) mx))))))
noncomputable def pS (K:W.Frag)(CL:Addr)(Y:Ad):List D→Res D:=eh 2 uy (rL K CL Y)
theorem sc_way:FnScope uy ["line","train"] (af wQ):=⟨rfl,rfl,rfl,by decide +kernel,rfl,by decide +kernel,by decide +kernel⟩
theorem uG (T:Txt K mg CL Y)(S:Sta K mg "way" wQ ["line","train"])(eL:Cal P w K mg base "check_train" 2 ["line","train"] (freshSp K 0 (bu K CL Y))):Cal P w K mg base "way" 3 ["line","train"] (freshSp K 0 (pS K CL Y)):=by
 refine S.cal (k:=2) (r:=0) (F:=rL K CL Y) sc_way [] (by decide) rfl fun f cdv A outer s H E hr=>?_;unfold rL;exact(ah (cy (aD eL hr (aa (dv 0) (aa (dv 1) ae))))
   (ah (ax (i:=2) sc_way.nd rfl (.inl rfl) (av (PN.of (bj (dv 1) ag))))
   (ah (ax (i:=3) sc_way.nd rfl (.inl rfl) (av (PN.of (bj (dv 1) ag))))
   (ah (bf (aM rX (dv 2) (dv 3) (aW _)) (ak (bL (av (PN.of (q0 rfl rfl T.b_list rfl T.b_range (aa (dv 2) (aa (dv 3) ae))))))) bd)
   (ak (bL (av (PN.of (q_ rfl rfl T.b_list rfl T.b_range (aa (aA nn (dv 2) ag) (aa (aA nn (dv 3) ag) (aa (Ba ag) ae))))))))))))
noncomputable abbrev oE:Stmt:=top 20
noncomputable abbrev kC:List Str:=["line","trains"]
@[irreducible] noncomputable def kz (K:W.Frag)(CL:Addr)(Y:Ad):DS→Out:=(az (gy (jV (fF (kI 1) (c1 (ac 1) bz) (kI 5) qy qy)) (a7 Y.BT (fun _=>true)) nxt)
  (cG (a9 (sL (ac 1)) [none,some 0] (b8 0) yes (bn (pC (ac 1) (pC (ac 0) pN)) (pS K CL Y)))))
noncomputable def bp (K:W.Frag)(CL:Addr)(Y:Ad):List D→Res D:=eh 2 kC (kz K CL Y)
theorem y6:FnScope kC ["line","trains"] (af oE):=⟨rfl,rfl,rfl,by decide +kernel,rfl,by decide +kernel,by decide +kernel⟩
theorem cD (T:Txt K mg CL Y)(S:Sta K mg "ways" oE ["line","trains"])(uG:Cal P w K mg base "way" 3 ["line","train"] (freshSp K 0 (pS K CL Y))):Cal P w K mg base "ways" 4 ["line","trains"] (freshSp K 0 (bp K CL Y)):=by
 refine S.cal (k:=3) (r:=0) (F:=kz K CL Y) y6 [] (by decide) rfl fun f cdv A outer s H E hr=>?_;unfold kz;exact(ah (bf (dl (du fY fY ag (bK T.b_len (dv 1)) (iY T.mT))) (ak (cU (mF T.xBT (aG c_ (aG (gK (v6 T.mT)) (aG c_ hV))) (fun _=>true) (fun σ G H ρ _ _ _=>⟨trivial,oJ (by decide),trivial,trivial⟩)))) bd)
   (ak (bL (av (PN.of (PN.pd (ez (j:=0) rfl (bE (N:=["train","line"]) (caps:=[none,some 0]) (af oE) kC rfl rfl (by decide +kernel)) rfl rfl (.inl rfl) (cx (dv 1)) (fun _ _ _ _=>cT) (fun _ _ _ _=>(PN.of (aD uG hr (aa (dv 1) (aa (dv 0) ae)) ff))))))))))
noncomputable abbrev cB:Stmt:=top 23
noncomputable abbrev bB:List Str:=["stretches","paths","orders","stretch","order","going"]
@[irreducible] noncomputable def bA (K:W.Frag)(CL:Addr)(Y:Ad):DS→Out:=(az (gy (f7 (aj (c1 (ac 2) bz) (ac 0) vG)) (a7 Y.BO (pX 0)) nxt)
  (fJ (sE (pC (ac 2) pN)) (dZ 3 4) (az (aN 5 (a9 (sE (pC (ac 1) pN)) [none,none,some 3] (dZ 0 1) (f7 (aj (ac 2) (ac 1) (qx false))) (ac 0)))
  (gy (f7 (aj (c1 (ac 4) jI) (ac 5) vG)) bad1 nxt))))
noncomputable def aL (K:W.Frag)(CL:Addr)(Y:Ad):List D→Res D:=eh 3 bB (bA K CL Y)
theorem sc_check_orders:FnScope bB ["stretches","paths","orders"] (af cB):=⟨rfl,rfl,rfl,by decide +kernel,rfl,by decide +kernel,by decide +kernel⟩
theorem dG (T:Txt K mg CL Y)(S:Sta K mg "check_orders" cB ["stretches","paths","orders"]):Cal P w K mg base "check_orders" 1 ["stretches","paths","orders"] (freshSp K 0 (aL K CL Y)):=by
 refine S.cal (k:=0) (r:=0) (F:=bA K CL Y) sc_check_orders [] (by decide) rfl fun f cdv A outer s H E hr=>?_;unfold bA;exact(ah (bf (aM (rY hr.units) (bK T.b_len (dv 2)) (dv 0) (aW _)) (ak (cU (mF T.xBO (aG c_ (aG (gK (pv 0)) (aG c_ hV))) (pX 0) (fun σ G H ρ _ hr hk=>⟨trivial,pY hr hk,trivial,trivial⟩)))) bd)
   (ak (fQ (j:=3) (k:=4) PassesOwn.leaving rfl sc_check_orders.nd rfl rfl (.inr rfl) (.inl rfl) rfl rfl (lJ (gL rfl T.b_enumerate (aa (dv 2) ae)))
    (ah (wm (wv sc_check_orders.nd (i:=5) rfl rfl rfl (bE (N:=["train","path","stretch"]) (caps:=[none,none,some 3]) (af cB) bB rfl rfl (by decide +kernel)) (j:=0) (l:=1) rfl rfl rfl rfl (.inl rfl) (.inl rfl) (gL rfl T.b_enumerate (aa (dv 1) ae)) (fun _ _ _ _=>lm (aM (BY hr.units) (dv 2) (dv 1) (by rfl))) (fun _ _ _ _=>(PN.of (dv 0)))) rfl)
   (ak (bf (aM (rY hr.units) (wq T.b_sorted (dv 4)) (dv 5) (aW _)) (ak cz) bd))))))
noncomputable abbrev iA:Stmt:=top 22
noncomputable abbrev fw:List Str:=["line","paths","orders","runs","gap","waits","train","path","stretch","ahead","behind","order"]
noncomputable abbrev aO:List Nat:=[0,0,0,0,0,2,0,0,0,0,0,0]
@[irreducible] noncomputable def dA (K:W.Frag)(CL:Addr)(Y:Ad):DS→Out:=(az (aN 3 (k8 aO (ie CL "runs" (ac 0) (en CL))))
  (az (aN 4 (k8 aO (ie CL "clear" (ac 0) (ix CL))))
  (az (bS (bn (pC (c1 (ac 3) bz) (pC (ac 1) (pC (ac 2) pN))) (aL K CL Y)))
  (az (aN 5 (k8 aO (fun _=>Res.ok (.dct [] []))))
  (az (fJ (xj aO (sE (pC (ac 1) pN))) (dZ 6 7) (az (fJ (xj aO (sL (ac 7))) (b8 8) (ic 5 (iC (pC (ac 6) (pC (ac 8) pN))) (k8 aO (bT pN))))
  (fJ (xj aO (sZ (pC (ac 7) (pC (BG (ac 7) (oI (kI 1)) oN) pN)))) (dZ 9 10) (m5 5 1 (xt 5 0 (s0 5) (iC (pC (ac 6) (pC (ac 10) pN)))) (k8 aO (iC (pC (iC (pC (ac 6) (pC (ac 9) pN))) (pC (aj (ac 3) (ac 9) bG) pN))))))))
  (az (fJ (xj aO (sE (pC (ac 2) pN))) (dZ 8 11) (fJ (xj aO (sZ (pC (ac 11) (pC (BG (ac 11) (oI (kI 1)) oN) pN)))) (dZ 9 10) (m5 5 1 (xt 5 0 (s0 5) (iC (pC (ac 10) (pC (ac 8) pN)))) (k8 aO (iC (pC (iC (pC (ac 9) (pC (ac 8) pN))) (pC (aj (aj (ac 3) (ac 8) bG) (ac 4) bg) pN)))))))
  (cG (ac 5))))))))
noncomputable def aQ (K:W.Frag)(CL:Addr)(Y:Ad):List D→Res D:=eh 3 fw (dA K CL Y)
theorem sc_waits_of:FnScope fw ["line","paths","orders"] (af iA):=⟨rfl,rfl,rfl,by decide +kernel,rfl,by decide +kernel,by decide +kernel⟩
theorem b9 (T:Txt K mg CL Y)(S:Sta K mg "waits_of" iA ["line","paths","orders"])(dG:Cal P w K mg base "check_orders" 1 ["stretches","paths","orders"] (freshSp K 0 (aL K CL Y)))(c_runs:CalM P w K mg base CL "runs" 1 (en CL))(c_clear:CalM P w K mg base CL "clear" 1 (ix CL)):Cal P w K mg base "waits_of" 2 ["line","paths","orders"] (freshSp K 2 (aQ K CL Y)):=by
 refine S.cal (k:=1) (r:=2) (F:=dA K CL Y) sc_waits_of aO (by decide) rfl fun f cdv A outer s H E hr=>?_;unfold dA;exact(ah (ax (i:=3) sc_waits_of.nd rfl (.inl rfl) (bx (PN.of (qb c_runs hr (dv 0)))))
   (ah (ax (i:=4) sc_waits_of.nd rfl (.inl rfl) (bx (PN.of (qb c_clear hr (dv 0)))))
   (ah (cy (aD dG hr (aa (bK T.b_len (dv 3)) (aa (dv 1) (aa (dv 2) ae)))))
   (ah (ax (i:=5) sc_waits_of.nd rfl (.inl rfl) (bx om))
   (ah (fQ (j:=6) (k:=7) PassesOwn.leaving rfl sc_waits_of.nd rfl rfl (.inl rfl) (.inl rfl) rfl rfl (eC (gL rfl T.b_enumerate (aa (dv 1) ae)))
    (ah (hX (j:=8) PassesOwn.leaving rfl sc_waits_of.nd rfl (.inl rfl) rfl (eC (cx (dv 7)))
    (ak (ol (j:=5) (n:=1) hr.units rfl rfl (.inl rfl) (eQ (aa (dv 6) (aa (dv 8) ae))) (bx (wo ae)))))
   (ak (fQ (j:=9) (k:=10) PassesOwn.leaving rfl sc_waits_of.nd rfl rfl (.inl rfl) (.inl rfl) rfl rfl (eC (oj rfl T.b_zip (aa (dv 7) (aa (ll (dv 7) (lr ag) lq) ae))))
    (ak (sG (n:=1) (m:=0) rfl (zh (n:=0) (m:=1) hr.units rfl (qC (j:=5) rfl (.inl rfl)) (eQ (aa (dv 6) (aa (dv 10) ae)))) (bx (PN.of (eQ (aa (eQ (aa (dv 6) (aa (dv 9) ae))) (aa (bj (dv 3) (dv 9)) ae))))) (vJ (oe (jR (oe (jR eP (jR eP sr))) (jR (vK eP eP vj) sr))))))))))
   (ah (fQ (j:=8) (k:=11) PassesOwn.leaving rfl sc_waits_of.nd rfl rfl (.inl rfl) (.inl rfl) rfl rfl (eC (gL rfl T.b_enumerate (aa (dv 2) ae)))
    (ak (fQ (j:=9) (k:=10) PassesOwn.leaving rfl sc_waits_of.nd rfl rfl (.inl rfl) (.inl rfl) rfl rfl (eC (oj rfl T.b_zip (aa (dv 11) (aa (ll (dv 11) (lr ag) lq) ae))))
    (ak (sG (n:=1) (m:=0) rfl (zh (n:=0) (m:=1) hr.units rfl (qC (j:=5) rfl (.inl rfl)) (eQ (aa (dv 10) (aa (dv 8) ae)))) (bx (PN.of (eQ (aa (eQ (aa (dv 9) (aa (dv 8) ae))) (aa (aA aI (bj (dv 3) (dv 8)) (dv 4)) ae))))) (vJ (oe (jR (oe (jR eP (jR eP sr))) (jR (vK (vK eP eP vj) eP xp) sr)))))))))
   (ak (kr (i:=5) rfl rfl (.inl rfl)))))))))
noncomputable abbrev hZ:Stmt:=top 26
noncomputable abbrev gY:List Str:=["waits","turn","visit"]
@[irreducible] noncomputable def gW (K:W.Frag)(CL:Addr)(Y:Ad):DS→Out:=(cG (a9 (sL (aj (ac 0) (ac 2) bR)) [none,some 1] (b8 0) (f7 (aj (aj (ac 0) (kI 0) bG) (ac 1) (qx true))) (aj (ac 0) (kI 0) bG)))
noncomputable def dn (K:W.Frag)(CL:Addr)(Y:Ad):List D→Res D:=eh 3 gY (gW K CL Y)
theorem rn:FnScope gY ["waits","turn","visit"] (af hZ):=⟨rfl,rfl,rfl,by decide +kernel,rfl,by decide +kernel,by decide +kernel⟩
theorem jo (T:Txt K mg CL Y)(S:Sta K mg "held_by" hZ ["waits","turn","visit"]):Cal P w K mg base "held_by" 1 ["waits","turn","visit"] (freshSp K 1 (dn K CL Y)):=by
 refine S.cal (k:=0) (r:=1) (F:=gW K CL Y) rn [] (by decide) rfl fun f cdv A outer s H E hr=>?_;unfold gW;exact(ak (bL (av (ez (j:=0) rfl (bE (N:=["wait","turn"]) (caps:=[none,some 1]) (af hZ) gY rfl rfl (by decide +kernel)) rfl rfl (.inl rfl) (cx (kl hr.units (dv 0) (dv 2))) (fun _ _ _ _=>lm (aM (pi hr.units) (bj (dv 0) ag) (dv 1) (by rfl))) (fun _ _ _ _=>(PN.of (bj (dv 0) ag)))))))
noncomputable abbrev kx:Stmt:=top 25
noncomputable abbrev j_:List Str:=["waits","turn"]
@[irreducible] noncomputable def jZ (K:W.Frag)(CL:Addr)(Y:Ad):DS→Out:=(cG (a9 (sD (ac 0)) [none,some 1,some 0] (b8 0) (xq (f7 (aj (ac 0) (ac 1) (qx true))) (jV (tR (bn (pC (ac 2) (pC (ac 1) (pC (ac 0) pN))) (dn K CL Y))))) (ac 0)))
noncomputable def et (K:W.Frag)(CL:Addr)(Y:Ad):List D→Res D:=eh 2 j_ (jZ K CL Y)
theorem wS:FnScope j_ ["waits","turn"] (af kx):=⟨rfl,rfl,rfl,by decide +kernel,rfl,by decide +kernel,by decide +kernel⟩
theorem ka (T:Txt K mg CL Y)(S:Sta K mg "freed" kx ["waits","turn"])(jo:Cal P w K mg base "held_by" 1 ["waits","turn","visit"] (freshSp K 1 (dn K CL Y))):Cal P w K mg base "freed" 2 ["waits","turn"] (freshSp K 1 (et K CL Y)):=by
 refine S.cal (k:=1) (r:=1) (F:=jZ K CL Y) wS [] (by decide) rfl fun f cdv A outer s H E hr=>?_;unfold jZ;exact(ak (bL (av (ez (j:=0) rfl (bE (N:=["visit","turn","waits"]) (caps:=[none,some 1,some 0]) (af kx) j_ rfl rfl (by decide +kernel)) rfl rfl (.inl rfl) (qe (dv 0)) (fun _ _ _ _=>lm (PDW.pt (yC (aM (pi hr.units) (dv 0) (dv 1) (by rfl)) (vX (dl (sw (aD jo hr (aa (dv 2) (aa (dv 1) (aa (dv 0) ae))) ff))))))) (fun _ _ _ _=>(PN.of (dv 0)))))))
noncomputable abbrev jG:Stmt:=top 24
noncomputable abbrev jm:List Str:=["waits","turn","free"]
noncomputable abbrev dS:List Nat:=[0,1,0]
@[irreducible] noncomputable def gX (K:W.Frag)(CL:Addr)(Y:Ad):DS→Out:=(az (aN 1 (k8 dS (bT pN)))
  (az (aN 2 (AQ 1 (bn (pC (ac 0) (pC (ac 1) pN)) (et K CL Y))))
  (az (cc (tR (ac 2)) (az (nI 1 0 (s0 1) (k8 dS (ac 2)))
  (aN 2 (AQ 1 (bn (pC (ac 0) (pC (ac 1) pN)) (et K CL Y))))) 40)
  (cG (ac 1)))))
noncomputable def dq (K:W.Frag)(CL:Addr)(Y:Ad):List D→Res D:=eh 1 jm (gX K CL Y)
theorem sc_in_turn:FnScope jm ["waits"] (af jG):=⟨rfl,rfl,rfl,by decide +kernel,rfl,by decide +kernel,by decide +kernel⟩
theorem jq (T:Txt K mg CL Y)(S:Sta K mg "in_turn" jG ["waits"])(ka:Cal P w K mg base "freed" 2 ["waits","turn"] (freshSp K 1 (et K CL Y))):Cal P w K mg base "in_turn" 3 ["waits"] (freshSp K 1 (dq K CL Y)):=by
 refine S.cal (k:=2) (r:=1) (F:=gX K CL Y) sc_in_turn dS (by decide) rfl fun f cdv A outer s H E hr=>?_;unfold gX;exact(ah (ax (i:=1) sc_in_turn.nd rfl (.inl rfl) (bx (wo ae)))
   (ah (ax (i:=2) sc_in_turn.nd rfl (.inl rfl) (PZ.zero (oq (ja (n:=1) ka hr (aa (dv 0) (aa (dv 1) ae))))))
   (ah (wn 40 PassesOwn.leaving (sw (dv 2)) (ah (yO (n:=0) rfl (qC (j:=1) rfl (.inl rfl)) (bx (PN.of (dv 2))) (vJ eP))
   (ak (ax (i:=2) sc_in_turn.nd rfl (.inl rfl) (PZ.zero (oq (ja (n:=1) ka hr (aa (dv 0) (aa (dv 1) ae)))))))))
   (ak (kr (i:=1) rfl rfl (.inl rfl))))))
noncomputable abbrev cC:Stmt:=top 33
noncomputable abbrev cp:List Str:=["trains","waits","turn","enters","visit","ready"]
noncomputable abbrev bY:List Nat:=[0,0,0,1,0,0]
@[irreducible] noncomputable def cm (K:W.Frag)(CL:Addr)(Y:Ad):DS→Out:=(az (aN 3 (k8 bY (fun _=>Res.ok (.dct [] []))))
  (az (fJ (xj bY (sL (ac 2))) (b8 4) (az (aN 5 (k8 bY (aj (aj (ac 0) (aj (ac 4) (kI 0) bG) bG) (kI 2) bG)))
  (ic 3 (ac 4) (AQ 0 (c1 (aj (bT (pC (ac 5) pN)) (a9 (sL (aj (ac 1) (ac 4) bR)) [none,some 3] (b8 0) yes (aj (aj (ac 1) (aj (ac 0) (kI 0) bG) bR) (aj (ac 0) (kI 1) bG) bg)) bg) nZ)))))
  (cG (ac 3))))
noncomputable def aZ (K:W.Frag)(CL:Addr)(Y:Ad):List D→Res D:=eh 3 cp (cm K CL Y)
theorem sc_least_enters:FnScope cp ["trains","waits","turn"] (af cC):=⟨rfl,rfl,rfl,by decide +kernel,rfl,by decide +kernel,by decide +kernel⟩
theorem bD (T:Txt K mg CL Y)(S:Sta K mg "least_enters" cC ["trains","waits","turn"]):Cal P w K mg base "least_enters" 1 ["trains","waits","turn"] (freshSp K 1 (aZ K CL Y)):=by
 refine S.cal (k:=0) (r:=1) (F:=cm K CL Y) sc_least_enters bY (by decide) rfl fun f cdv A outer s H E hr=>?_;unfold cm;exact(ah (ax (i:=3) sc_least_enters.nd rfl (.inr rfl) (bx om))
   (ah (hX (j:=4) PassesOwn.leaving rfl sc_least_enters.nd rfl (.inl rfl) rfl (eC (cx (dv 2)))
    (ah (ax (i:=5) sc_least_enters.nd rfl (.inl rfl) (bx (PN.of (bj (bj (dv 0) (bj (dv 4) ag)) ag))))
   (ak (ol (j:=3) (n:=0) hr.units rfl rfl (.inr (.inl rfl)) (dv 4) (oq (PN.of (yz T.b_max (aA aI (a_ (aa (dv 5) ae)) (PN.pd (ez (j:=0) rfl (bE (N:=["wait","enters"]) (caps:=[none,some 3]) (af cC) cp rfl rfl (by decide +kernel)) rfl rfl (.inl rfl) (cx (kl hr.units (dv 1) (dv 4))) (fun _ _ _ _=>cT) (fun _ _ _ _=>(PN.of (aA aI (kl hr.units (dv 1) (bj (dv 0) ag)) (bj (dv 0) ag))))))))))))))
   (ak (kr (i:=3) rfl rfl (.inr (.inl rfl))))))
noncomputable abbrev eX:Stmt:=top 29
noncomputable abbrev eI:List Str:=["line","trains","orders","paths","waits","turn"]
@[irreducible] noncomputable def cL (K:W.Frag)(CL:Addr)(Y:Ad):DS→Out:=(az (aN 3 (bn (pC (ac 0) (pC (ac 1) pN)) (bp K CL Y)))
  (az (aN 4 (xi (bn (pC (ac 0) (pC (ac 3) (pC (ac 2) pN))) (aQ K CL Y))))
  bad1))
noncomputable def bW (K:W.Frag)(CL:Addr)(Y:Ad):List D→Res D:=eh 3 eI (cL K CL Y)
theorem sc_least_table:FnScope eI ["line","trains","orders"] (af eX):=⟨rfl,rfl,rfl,by decide +kernel,rfl,by decide +kernel,by decide +kernel⟩
theorem eM (T:Txt K mg CL Y)(S:Sta K mg "least_table" eX ["line","trains","orders"])(b9:Cal P w K mg base "waits_of" 2 ["line","paths","orders"] (freshSp K 2 (aQ K CL Y)))(cD:Cal P w K mg base "ways" 4 ["line","trains"] (freshSp K 0 (bp K CL Y))):Cal P w K mg base "least_table" 5 ["line","trains","orders"] (freshSp K 0 (bW K CL Y)):=by
 refine S.cal (k:=4) (r:=0) (F:=cL K CL Y) sc_least_table [] (by decide) rfl fun f cdv A outer s H E hr=>?_;unfold cL;exact(ah (ax (i:=3) sc_least_table.nd rfl (.inl rfl) (av (PN.of (aD cD hr (aa (dv 0) (aa (dv 1) ae))))))
   (ah (ax (i:=4) sc_least_table.nd rfl (.inl rfl) (av (PN.of (PN.pdF (ja (n:=2) b9 hr (aa (dv 0) (aa (dv 3) (aa (dv 2) ae))))))))
   dw))
noncomputable abbrev fX:Stmt:=top 32
noncomputable abbrev fx:List Str:=["waits","turn"]
@[irreducible] noncomputable def dg (K:W.Frag)(CL:Addr)(Y:Ad):DS→Out:=(az (aN 1 (bn (pC (ac 0) pN) (dq K CL Y)))
  (az (gy (f7 (aj (c1 (ac 1) bz) (c1 (ac 0) vz) AR)) (a7 Y.ST fun _=>true) nxt)
  (cG (ac 1))))
noncomputable def bq (K:W.Frag)(CL:Addr)(Y:Ad):List D→Res D:=eh 1 fx (dg K CL Y)
theorem sc_whole_turn:FnScope fx ["waits"] (af fX):=⟨rfl,rfl,rfl,by decide +kernel,rfl,by decide +kernel,by decide +kernel⟩
theorem cr (T:Txt K mg CL Y)(S:Sta K mg "whole_turn" fX ["waits"])(jq:Cal P w K mg base "in_turn" 3 ["waits"] (freshSp K 1 (dq K CL Y))):Cal P w K mg base "whole_turn" 4 ["waits"] (freshSp K 0 (bq K CL Y)):=by
 refine S.cal (k:=3) (r:=0) (F:=dg K CL Y) sc_whole_turn [] (by decide) rfl fun f cdv A outer s H E hr=>?_;unfold dg;exact(ah (ax (i:=1) sc_whole_turn.nd rfl (.inl rfl) (av (PN.of (aD jq hr (aa (dv 0) ae)))))
   (ah (bf (aM rX (bK T.b_len (dv 1)) (yx T.b_len (dv 0)) (aW _)) (ak (cU (zC T.xST))) bd)
   (ak (bL (av (PN.of (dv 1)))))))
noncomputable abbrev gQ:Stmt:=top 36
noncomputable abbrev gj:List Str:=["line","enters","runs","leaves","visit"]
noncomputable abbrev cv:List Nat:=[0,0,0,1,0]
@[irreducible] noncomputable def d7 (K:W.Frag)(CL:Addr)(Y:Ad):DS→Out:=(az (aN 2 (k8 cv (ie CL "runs" (ac 0) (en CL))))
  (az (aN 3 (k8 cv (fun _=>Res.ok (.dct [] []))))
  (az (fJ (xj cv (sD (ac 1))) (b8 4) (ic 3 (ac 4) (k8 cv (aj (aj (ac 1) (ac 4) bR) (aj (ac 2) (aj (ac 4) (kI 1) bG) bG) bg))))
  (cG (ac 3)))))
noncomputable def cQ (K:W.Frag)(CL:Addr)(Y:Ad):List D→Res D:=eh 2 gj (d7 K CL Y)
theorem sc_leaves_of:FnScope gj ["line","enters"] (af gQ):=⟨rfl,rfl,rfl,by decide +kernel,rfl,by decide +kernel,by decide +kernel⟩
theorem gl (T:Txt K mg CL Y)(S:Sta K mg "leaves_of" gQ ["line","enters"])(c_runs:CalM P w K mg base CL "runs" 1 (en CL)):Cal P w K mg base "leaves_of" 2 ["line","enters"] (freshSp K 1 (cQ K CL Y)):=by
 refine S.cal (k:=1) (r:=1) (F:=d7 K CL Y) sc_leaves_of cv (by decide) rfl fun f cdv A outer s H E hr=>?_;unfold d7;exact(ah (ax (i:=2) sc_leaves_of.nd rfl (.inl rfl) (bx (PN.of (qb c_runs hr (dv 0)))))
   (ah (ax (i:=3) sc_leaves_of.nd rfl (.inl rfl) (bx om))
   (ah (hX (j:=4) PassesOwn.leaving rfl sc_leaves_of.nd rfl (.inl rfl) rfl (eC (qe (dv 1)))
    (ak (ol (j:=3) (n:=0) hr.units rfl rfl (.inl rfl) (dv 4) (bx (PN.of (aA aI (kl hr.units (dv 1) (dv 4)) (bj (dv 2) (bj (dv 4) ag))))))))
   (ak (kr (i:=3) rfl rfl (.inl rfl))))))
noncomputable abbrev oz:Stmt:=top 30
noncomputable abbrev mW:List Str:=["line","trains","orders","waits","enters","leaves","arrival","visit","links","tight"]
@[irreducible] noncomputable def jY (K:W.Frag)(CL:Addr)(Y:Ad):DS→Out:=(az (aN 3 (xi (bn (pC (ac 0) (pC (bn (pC (ac 0) (pC (ac 1) pN)) (bp K CL Y)) (pC (ac 2) pN))) (aQ K CL Y))))
  (az (aN 4 (xi (bn (pC (ac 1) (pC (ac 3) (pC (bn (pC (ac 3) pN) (bq K CL Y)) pN))) (aZ K CL Y))))
  bad1))
noncomputable def iT (K:W.Frag)(CL:Addr)(Y:Ad):List D→Res D:=eh 3 mW (jY K CL Y)
theorem sc_chain:FnScope mW ["line","trains","orders"] (af oz):=⟨rfl,rfl,rfl,by decide +kernel,rfl,by decide +kernel,by decide +kernel⟩
theorem m7 (T:Txt K mg CL Y)(S:Sta K mg "chain" oz ["line","trains","orders"])(bD:Cal P w K mg base "least_enters" 1 ["trains","waits","turn"] (freshSp K 1 (aZ K CL Y)))(b9:Cal P w K mg base "waits_of" 2 ["line","paths","orders"] (freshSp K 2 (aQ K CL Y)))(cD:Cal P w K mg base "ways" 4 ["line","trains"] (freshSp K 0 (bp K CL Y)))(cr:Cal P w K mg base "whole_turn" 4 ["waits"] (freshSp K 0 (bq K CL Y))):Cal P w K mg base "chain" 5 ["line","trains","orders"] (freshSp K 0 (iT K CL Y)):=by
 refine S.cal (k:=4) (r:=0) (F:=jY K CL Y) sc_chain [] (by decide) rfl fun f cdv A outer s H E hr=>?_;unfold jY;exact(ah (ax (i:=3) sc_chain.nd rfl (.inl rfl) (av (PN.of (PN.pdF (ja (n:=2) b9 hr (aa (dv 0) (aa (aD cD hr (aa (dv 0) (aa (dv 1) ae))) (aa (dv 2) ae))))))))
   (ah (ax (i:=4) sc_chain.nd rfl (.inl rfl) (av (PN.of (PN.pdF (ja (n:=1) bD hr (aa (dv 1) (aa (dv 3) (aa (aD cr hr (aa (dv 3) ae)) ae))))))))
   dw))
noncomputable abbrev lA:Stmt:=top 31
noncomputable abbrev kA:List Str:=["line","trains","orders","limit","paths","waits","turn","leaves","arrival"]
@[irreducible] noncomputable def iE (K:W.Frag)(CL:Addr)(Y:Ad):DS→Out:=(az (aN 4 (bn (pC (ac 0) (pC (ac 1) pN)) (bp K CL Y)))
  (az (aN 5 (xi (bn (pC (ac 0) (pC (ac 4) (pC (ac 2) pN))) (aQ K CL Y))))
  (az (aN 6 (bn (pC (ac 5) pN) (bq K CL Y)))
  (az (aN 7 (xi (bn (pC (ac 0) (pC (xi (bn (pC (ac 1) (pC (ac 5) (pC (ac 6) pN))) (aZ K CL Y))) pN)) (cQ K CL Y))))
  (az (aN 8 (fun ρ=>((ac 7) ρ).bind li))
  (az (gy (f7 (aj (ac 3) (ac 8) AR)) (a7 Y.TS (fun ρ=>pX 8 ρ&&pX 3 ρ)) nxt)
  bad1))))))
noncomputable def gE (K:W.Frag)(CL:Addr)(Y:Ad):List D→Res D:=eh 4 kA (iE K CL Y)
theorem sc_latest:FnScope kA ["line","trains","orders","limit"] (af lA):=⟨rfl,rfl,rfl,by decide +kernel,rfl,by decide +kernel,by decide +kernel⟩
theorem kK (T:Txt K mg CL Y)(S:Sta K mg "latest" lA ["line","trains","orders","limit"])(bD:Cal P w K mg base "least_enters" 1 ["trains","waits","turn"] (freshSp K 1 (aZ K CL Y)))(gl:Cal P w K mg base "leaves_of" 2 ["line","enters"] (freshSp K 1 (cQ K CL Y)))(b9:Cal P w K mg base "waits_of" 2 ["line","paths","orders"] (freshSp K 2 (aQ K CL Y)))(cD:Cal P w K mg base "ways" 4 ["line","trains"] (freshSp K 0 (bp K CL Y)))(cr:Cal P w K mg base "whole_turn" 4 ["waits"] (freshSp K 0 (bq K CL Y))):Cal P w K mg base "latest" 5 ["line","trains","orders","limit"] (freshSp K 0 (gE K CL Y)):=by
 refine S.cal (k:=4) (r:=0) (F:=iE K CL Y) sc_latest [] (by decide) rfl fun f cdv A outer s H E hr=>?_;unfold iE;exact(ah (ax (i:=4) sc_latest.nd rfl (.inl rfl) (av (PN.of (aD cD hr (aa (dv 0) (aa (dv 1) ae))))))
   (ah (ax (i:=5) sc_latest.nd rfl (.inl rfl) (av (PN.of (PN.pdF (ja (n:=2) b9 hr (aa (dv 0) (aa (dv 4) (aa (dv 2) ae))))))))
   (ah (ax (i:=6) sc_latest.nd rfl (.inl rfl) (av (PN.of (aD cr hr (aa (dv 5) ae)))))
   (ah (ax (i:=7) sc_latest.nd rfl (.inl rfl) (av (PN.of (PN.pdF (ja (n:=1) gl hr (aa (dv 0) (aa (PN.pdF (ja (n:=1) bD hr (aa (dv 1) (aa (dv 5) (aa (dv 6) ae))))) ae)))))))
   (ah (ax (i:=8) sc_latest.nd rfl (.inl rfl) (av (PN.of (yA T.b_max (dv 7)))))
   (ah (bf (aM rX (dv 3) (dv 8) (aW _)) (ak (cU (mF T.xTS (aG c_ (aG (gK (pv 8)) (aG c_ (aG (gK (pv 3)) hV)))) (fun ρ=>pX 8 ρ&&pX 3 ρ) (fun σ G H ρ _ hr hk=>by
    simp only[and_eq_true]at hk;obtain⟨h8,h3⟩:=hk;exact⟨trivial,pY hr h8,trivial,pY hr h3,trivial⟩)))) bd)
   dw))))))
noncomputable abbrev gR:Stmt:=top 43
noncomputable abbrev d8:List Str:=["figures","least","most","number"]
@[irreducible] noncomputable def cO (K:W.Frag)(CL:Addr)(Y:Ad):DS→Out:=(az (fJ (sR2 (pC (ac 1) (pC (aj (ac 2) (kI 1) bg) pN))) (b8 3) (gy (f7 (aj (ac 0) (c1 (ac 3) rA) js)) (cG (ac 3)) nxt))
  (a7 Y.BX (fun ρ=>Cy 0 ρ&&pX 1 ρ&&pX 2 ρ)))
noncomputable def aY (K:W.Frag)(CL:Addr)(Y:Ad):List D→Res D:=eh 3 d8 (cO K CL Y)
theorem sc_number_of:FnScope d8 ["figures","least","most"] (af gR):=⟨rfl,rfl,rfl,by decide +kernel,rfl,by decide +kernel,by decide +kernel⟩
theorem d_ (T:Txt K mg CL Y)(S:Sta K mg "number_of" gR ["figures","least","most"]):Cal P w K mg base "number_of" 1 ["figures","least","most"] (freshSp K 0 (aY K CL Y)):=by
 refine S.cal (k:=0) (r:=0) (F:=cO K CL Y) sc_number_of [] (by decide) rfl fun f cdv A outer s H E hr=>?_;unfold cO;exact(ah (hX (j:=3) PassesOwn.leaving rfl sc_number_of.nd rfl (.inl rfl) rfl (uv rfl T.b_range (aa (dv 1) (aa (aA aI (dv 2) ag) ae)))
    (ak (bf (aM (eY hr.units) (dv 0) (yB T.b_str (dv 3)) (aW _)) (ak (bL (av (PN.of (dv 3))))) bd)))
   (ak (cU (mF T.xBX (aG (yI (pv 0)) (aG c_ (aG (gK (pv 1)) (aG c_ (aG (gK (pv 2)) hV))))) (fun ρ=>Cy 0 ρ&&pX 1 ρ&&pX 2 ρ) (fun σ G H ρ _ hr hk=>by
    simp only[and_eq_true]at hk;obtain⟨⟨h0,h1⟩,h2⟩:=hk;exact⟨Cz hr h0,trivial,pY hr h1,trivial,pY hr h2,trivial⟩)))))
noncomputable abbrev oC:Stmt:=top 42
noncomputable abbrev mZ:List Str:=["text","parts","runs","minutes"]
@[irreducible] noncomputable def mV (K:W.Frag)(CL:Addr)(Y:Ad):DS→Out:=(az (aN 1 (C8 (ac 0) (kS " clear ")))
  (az (gy (f7 (aj (c1 (ac 1) bz) (kI 2) vG)) bad1 nxt)
  (az (aN 2 (C8 (aj (ac 1) (kI 0) bG) (kS "-")))
  (az (gy (f7 (aj (c1 (ac 2) bz) (kI 5) Ca)) bad1 nxt)
  (az (aN 3 (a9 (sL (ac 2)) [none] (b8 0) yes (bn (pC (ac 0) (pC (kI 1) (pC (kI 20) pN))) (aY K CL Y))))
  (cG (bn (pC (ac 3) (pC (bn (pC (aj (ac 1) (kI 1) bG) (pC (kI 0) (pC (kI 5) pN))) (aY K CL Y)) pN)) (db K CL Y))))))))
noncomputable def lh (K:W.Frag)(CL:Addr)(Y:Ad):List D→Res D:=eh 1 mZ (mV K CL Y)
theorem sc_read:FnScope mZ ["text"] (af oC):=⟨rfl,rfl,rfl,by decide +kernel,rfl,by decide +kernel,by decide +kernel⟩
theorem qF (T:Txt K mg CL Y)(S:Sta K mg "read" oC ["text"])(d_:Cal P w K mg base "number_of" 1 ["figures","least","most"] (freshSp K 0 (aY K CL Y)))(c_Line:CalI P w K mg base "Line" CL 2 ["self","runs","clear"] (db K CL Y)):Cal P w K mg base "read" 4 ["text"] (freshSp K 0 (lh K CL Y)):=by
 refine S.cal (k:=3) (r:=0) (F:=mV K CL Y) sc_read [] (by decide) rfl fun f cdv A outer s H E hr=>?_;unfold mV;exact(ah (ax (i:=1) sc_read.nd rfl (.inl rfl) (av (PN.of (qc (dv 0) (zB T.sA)))))
   (ah (bf (aM (rY hr.units) (bK T.b_len (dv 1)) ag (aW _)) (ak cz) bd)
   (ah (ax (i:=2) sc_read.nd rfl (.inl rfl) (av (PN.of (qc (bj (dv 1) ag) (zB T.sB)))))
   (ah (bf (aM uK (bK T.b_len (dv 2)) (iY T.mS) (aW _)) (ak cz) bd)
   (ah (wm (qg sc_read.nd (i:=3) rfl rfl rfl (bE (N:=["run"]) (caps:=[none]) (af oC) mZ rfl rfl (by decide +kernel)) (j:=0) rfl rfl (.inl rfl) (cx (dv 2)) (fun _ _ _ _=>cT) (fun _ _ _ _=>(PN.of (aD d_ hr (aa (dv 0) (aa ag (aa (iY T.mR) ae))) ff)))) rfl)
   (ak (bL (av (PN.of (vS c_Line hr (aa (dv 3) (aa (aD d_ hr (aa (bj (dv 1) ag) (aa ag (aa (iY T.mC) ae)))) ae))))))))))))
noncomputable abbrev dX:Stmt:=top 49
noncomputable abbrev dB:List Str:=["paths","table"]
@[irreducible] noncomputable def fm (K:W.Frag)(CL:Addr)(Y:Ad):DS→Out:=(cG (aj (a9 (sL (ac 1)) [none] (b8 0) yes (c1 (ac 0) bz)) (a9 (sL (ac 0)) [none] (b8 0) yes (c1 (ac 0) bz)) js))
noncomputable def dR (K:W.Frag)(CL:Addr)(Y:Ad):List D→Res D:=eh 2 dB (fm K CL Y)
theorem qm:FnScope dB ["paths","table"] (af dX):=⟨rfl,rfl,rfl,by decide +kernel,rfl,by decide +kernel,by decide +kernel⟩
theorem im (T:Txt K mg CL Y)(S:Sta K mg "is_whole" dX ["paths","table"]):Cal P w K mg base "is_whole" 1 ["paths","table"] (freshSp K 0 (dR K CL Y)):=by
 refine S.cal (k:=0) (r:=0) (F:=fm K CL Y) qm [] (by decide) rfl fun f cdv A outer s H E hr=>?_;unfold fm;exact(ak (bL (av (PN.of (oi (eY hr.units) (PN.pd (ez (j:=0) rfl (bE (N:=["row"]) (caps:=[none]) (af dX) dB rfl rfl (by decide +kernel)) rfl rfl (.inl rfl) (cx (dv 1)) (fun _ _ _ _=>cT) (fun _ _ _ _=>(PN.of (bK T.b_len (dv 0)))))) (PN.pd (ez (j:=0) rfl (bE (N:=["path"]) (caps:=[none]) (af dX) dB rfl rfl (by decide +kernel)) rfl rfl (.inl rfl) (cx (dv 0)) (fun _ _ _ _=>cT) (fun _ _ _ _=>(PN.of (bK T.b_len (dv 0)))))) (aW _))))))
noncomputable abbrev eS:Stmt:=top 50
noncomputable abbrev eD:List Str:=["line","trains","paths","table","runs","train","path","soonest","stretch","minute"]
@[irreducible] noncomputable def cI (K:W.Frag)(CL:Addr)(Y:Ad):DS→Out:=(az (aN 4 (ie CL "runs" (ac 0) (en CL)))
  (az (fJ (sE (pC (ac 2) pN)) (dZ 5 6) (az (aN 7 (aj (aj (ac 1) (ac 5) bG) (kI 2) bG))
  (fJ (sZ (pC (ac 6) (pC (aj (ac 3) (ac 5) bG) pN))) (dZ 8 9) (az (gy (f7 (aj (ac 9) (ac 7) AR)) (cG (kB false)) nxt)
  (aN 7 (aj (ac 9) (aj (ac 4) (ac 8) bG) bg))))))
  (cG (kB true))))
noncomputable def bU (K:W.Frag)(CL:Addr)(Y:Ad):List D→Res D:=eh 4 eD (cI K CL Y)
theorem sc_all_in_time:FnScope eD ["line","trains","paths","table"] (af eS):=⟨rfl,rfl,rfl,by decide +kernel,rfl,by decide +kernel,by decide +kernel⟩
theorem eJ (T:Txt K mg CL Y)(S:Sta K mg "all_in_time" eS ["line","trains","paths","table"])(c_runs:CalM P w K mg base CL "runs" 1 (en CL)):Cal P w K mg base "all_in_time" 2 ["line","trains","paths","table"] (freshSp K 0 (bU K CL Y)):=by
 refine S.cal (k:=1) (r:=0) (F:=cI K CL Y) sc_all_in_time [] (by decide) rfl fun f cdv A outer s H E hr=>?_;unfold cI;exact(ah (ax (i:=4) sc_all_in_time.nd rfl (.inl rfl) (av (PN.of (qb c_runs hr (dv 0)))))
   (ah (fQ (j:=5) (k:=6) PassesOwn.leaving rfl sc_all_in_time.nd rfl rfl (.inl rfl) (.inl rfl) rfl rfl (lJ (gL rfl T.b_enumerate (aa (dv 2) ae)))
    (ah (ax (i:=7) sc_all_in_time.nd rfl (.inl rfl) (av (PN.of (bj (bj (dv 1) (dv 5)) ag))))
   (ak (fQ (j:=8) (k:=9) PassesOwn.leaving rfl sc_all_in_time.nd rfl rfl (.inl rfl) (.inl rfl) rfl rfl (lJ (oj rfl T.b_zip (aa (dv 6) (aa (bj (dv 3) (dv 5)) ae))))
    (ah (bf (aM rX (dv 9) (dv 7) (aW _)) (ak (bL (av (PN.of vO)))) bd)
   (ak (ax (i:=7) sc_all_in_time.nd rfl (.inl rfl) (av (PN.of (aA aI (dv 9) (bj (dv 4) (dv 8))))))))))))
   (ak (bL (av (PN.of vO))))))
noncomputable abbrev oB:Stmt:=top 45
noncomputable abbrev mX:List Str:=["line","trains","table","paths"]
@[irreducible] noncomputable def j9 (K:W.Frag)(CL:Addr)(Y:Ad):DS→Out:=(az (aN 3 (bn (pC (ac 0) (pC (ac 1) pN)) (bp K CL Y)))
  (az (gy (jV (f7 (bn (pC (ac 3) (pC (ac 2) pN)) (dR K CL Y)))) (cG (kB false)) nxt)
  (cG (zP (bn (pC (ac 0) (pC (ac 1) (pC (ac 3) (pC (ac 2) pN)))) (bU K CL Y)) (fun _=>Res.bad)))))
noncomputable def iU (K:W.Frag)(CL:Addr)(Y:Ad):List D→Res D:=eh 3 mX (j9 K CL Y)
theorem sc_keeps:FnScope mX ["line","trains","table"] (af oB):=⟨rfl,rfl,rfl,by decide +kernel,rfl,by decide +kernel,by decide +kernel⟩
theorem m9 (T:Txt K mg CL Y)(S:Sta K mg "keeps" oB ["line","trains","table"])(eJ:Cal P w K mg base "all_in_time" 2 ["line","trains","paths","table"] (freshSp K 0 (bU K CL Y)))(im:Cal P w K mg base "is_whole" 1 ["paths","table"] (freshSp K 0 (dR K CL Y)))(cD:Cal P w K mg base "ways" 4 ["line","trains"] (freshSp K 0 (bp K CL Y))):Cal P w K mg base "keeps" 5 ["line","trains","table"] (freshSp K 0 (iU K CL Y)):=by
 refine S.cal (k:=4) (r:=0) (F:=j9 K CL Y) sc_keeps [] (by decide) rfl fun f cdv A outer s H E hr=>?_;unfold j9;exact(ah (ax (i:=3) sc_keeps.nd rfl (.inl rfl) (av (PN.of (aD cD hr (aa (dv 0) (aa (dv 1) ae))))))
   (ah (bf (dl (sx (aD im hr (aa (dv 3) (aa (dv 2) ae))))) (ak (bL (av (PN.of vO)))) bd)
   (ak (bL (av (PN.of (A8 (aD eJ hr (aa (dv 0) (aa (dv 1) (aa (dv 3) (aa (dv 2) ae))))) (vU vT))))))))
noncomputable abbrev eV:Stmt:=top 48
noncomputable abbrev eE:List Str:=["line","trains","table"]
@[irreducible] noncomputable def cJ (K:W.Frag)(CL:Addr)(Y:Ad):DS→Out:=(gy (jV (f7 (bn (pC (ac 0) (pC (ac 1) (pC (ac 2) pN))) (iU K CL Y)))) (a7 Y.BB fun _=>true) nxt)
noncomputable def bV (K:W.Frag)(CL:Addr)(Y:Ad):List D→Res D:=eh 3 eE (cJ K CL Y)
theorem lB:FnScope eE ["line","trains","table"] (af eV):=⟨rfl,rfl,rfl,by decide +kernel,rfl,by decide +kernel,by decide +kernel⟩
theorem eK (T:Txt K mg CL Y)(S:Sta K mg "check_table" eV ["line","trains","table"])(m9:Cal P w K mg base "keeps" 5 ["line","trains","table"] (freshSp K 0 (iU K CL Y))):Cal P w K mg base "check_table" 6 ["line","trains","table"] (freshSp K 0 (bV K CL Y)):=by
 refine S.cal (k:=5) (r:=0) (F:=cJ K CL Y) lB [] (by decide) rfl fun f cdv A outer s H E hr=>?_;unfold cJ;exact(ak (bf (dl (sx (aD m9 hr (aa (dv 0) (aa (dv 1) (aa (dv 2) ae)))))) (ak (cU (zC T.xBB))) bd))
noncomputable abbrev dY:Stmt:=top 47
noncomputable abbrev dC:List Str:=["line","trains","table","runs"]
@[irreducible] noncomputable def ck (K:W.Frag)(CL:Addr)(Y:Ad):DS→Out:=(az (bS (bn (pC (ac 0) (pC (ac 1) (pC (ac 2) pN))) (bV K CL Y)))
  bad1)
noncomputable def bJ (K:W.Frag)(CL:Addr)(Y:Ad):List D→Res D:=eh 3 dC (ck K CL Y)
theorem jX:FnScope dC ["line","trains","table"] (af dY):=⟨rfl,rfl,rfl,by decide +kernel,rfl,by decide +kernel,by decide +kernel⟩
theorem dH (T:Txt K mg CL Y)(S:Sta K mg "last_arrival" dY ["line","trains","table"])(eK:Cal P w K mg base "check_table" 6 ["line","trains","table"] (freshSp K 0 (bV K CL Y)))(c_runs:CalM P w K mg base CL "runs" 1 (en CL)):Cal P w K mg base "last_arrival" 7 ["line","trains","table"] (freshSp K 0 (bJ K CL Y)):=by
 refine S.cal (k:=6) (r:=0) (F:=ck K CL Y) jX [] (by decide) rfl fun f cdv A outer s H E hr=>?_;unfold ck;exact(ah (cy (aD eK hr (aa (dv 0) (aa (dv 1) (aa (dv 2) ae)))))
   dw)
noncomputable abbrev fV:Stmt:=top 56
noncomputable abbrev fv:List Str:=["line","trains","paths","plan","entries","first"]
@[irreducible] noncomputable def df (K:W.Frag)(CL:Addr)(Y:Ad):DS→Out:=(az (aN 2 (bn (pC (ac 0) (pC (ac 1) pN)) (bp K CL Y)))
  bad1)
noncomputable def cu (K:W.Frag)(CL:Addr)(Y:Ad):List D→Res D:=eh 2 fv (df K CL Y)
theorem sc_first_come:FnScope fv ["line","trains"] (af fV):=⟨rfl,rfl,rfl,by decide +kernel,rfl,by decide +kernel,by decide +kernel⟩
theorem fD (T:Txt K mg CL Y)(S:Sta K mg "first_come" fV ["line","trains"])(cD:Cal P w K mg base "ways" 4 ["line","trains"] (freshSp K 0 (bp K CL Y))):Cal P w K mg base "first_come" 5 ["line","trains"] (freshSp K 0 (cu K CL Y)):=by
 refine S.cal (k:=4) (r:=0) (F:=df K CL Y) sc_first_come [] (by decide) rfl fun f cdv A outer s H E hr=>?_;unfold df;exact(ah (ax (i:=2) sc_first_come.nd rfl (.inl rfl) (av (PN.of (aD cD hr (aa (dv 0) (aa (dv 1) ae))))))
   dw)
noncomputable abbrev rh:Stmt:=top 57
noncomputable abbrev qz:List Str:=["line","trains","paths","table","arrival","plans","plan","hoped"]
@[irreducible] noncomputable def mU (K:W.Frag)(CL:Addr)(Y:Ad):DS→Out:=(az (aN 2 (bn (pC (ac 0) (pC (ac 1) pN)) (bp K CL Y)))
  (az (gy (f7 (aj (c1 (ac 1) bz) (kI 3) Ca)) (a7 Y.TM (fun _=>true)) nxt)
  bad1))
noncomputable def lg (K:W.Frag)(CL:Addr)(Y:Ad):List D→Res D:=eh 2 qz (mU K CL Y)
theorem sc_best:FnScope qz ["line","trains"] (af rh):=⟨rfl,rfl,rfl,by decide +kernel,rfl,by decide +kernel,by decide +kernel⟩
theorem qE (T:Txt K mg CL Y)(S:Sta K mg "best" rh ["line","trains"])(cD:Cal P w K mg base "ways" 4 ["line","trains"] (freshSp K 0 (bp K CL Y))):Cal P w K mg base "best" 5 ["line","trains"] (freshSp K 0 (lg K CL Y)):=by
 refine S.cal (k:=4) (r:=0) (F:=mU K CL Y) sc_best [] (by decide) rfl fun f cdv A outer s H E hr=>?_;unfold mU;exact(ah (ax (i:=2) sc_best.nd rfl (.inl rfl) (av (PN.of (aD cD hr (aa (dv 0) (aa (dv 1) ae))))))
   (ah (bf (aM uK (bK T.b_len (dv 1)) (iY T.mB) (aW _)) (ak (cU (mF T.xTM (aG c_ (aG (gK (v6 T.mB)) (aG c_ hV))) (fun _=>true) (fun σ G H ρ _ _ _=>⟨trivial,oJ (by decide),trivial,trivial⟩)))) bd)
   dw))
noncomputable abbrev fT:Stmt:=top 71
noncomputable abbrev fu:List Str:=["e","marks"]
@[irreducible] noncomputable def de (K:W.Frag)(CL:Addr)(Y:Ad):DS→Out:=(az (aN 1 (bT (pC (fun ρ=>((ac 0) ρ).bind (dk K (cV (.ref Y.BL)))) (pC (fun ρ=>((ac 0) ρ).bind (dk K (cV (.ref Y.BT)))) (pC (fun ρ=>((ac 0) ρ).bind (dk K (cV (.ref Y.BO)))) (pC (fun ρ=>((ac 0) ρ).bind (dk K (cV (.ref Y.BB)))) pN))))))
  (az (aN 1 (aj (ac 1) (bT (pC (fun ρ=>((ac 0) ρ).bind (dk K (cV (.ref Y.ST)))) (pC (fun ρ=>((ac 0) ρ).bind (dk K (cV (.ref Y.TS)))) (pC (fun ρ=>((ac 0) ρ).bind (dk K (cV (.ref Y.TM)))) (pC (fun ρ=>((ac 0) ρ).bind (dk K (cV (.ref Y.BX)))) pN))))) bg))
  (cG (aj (ac 1) (bT (pC (fun ρ=>((ac 0) ρ).bind (dk K (cV (.ty "ValueError")))) pN)) bg))))
noncomputable def bO (K:W.Frag)(CL:Addr)(Y:Ad):List D→Res D:=eh 1 fu (de K CL Y)
theorem sc__law_marks:FnScope fu ["e"] (af fT):=⟨rfl,rfl,rfl,by decide +kernel,rfl,by decide +kernel,by decide +kernel⟩
theorem fA (T:Txt K mg CL Y)(S:Sta K mg "_law_marks" fT ["e"]):CalH P w K mg base "_law_marks" 1 ["e"] (bO K CL Y):=by
 refine S.calH (k:=0) (F:=de K CL Y) sc__law_marks rfl fun f cdv A outer s H e xe hr=>?_;unfold de;exact(ah (ax (i:=1) sc__law_marks.nd rfl (.inl rfl) (av (PN.of (a_ (aa (iZ T.b_isinstance (dv 0) (gJ T.gBL)) (aa (iZ T.b_isinstance (dv 0) (gJ T.gBT)) (aa (iZ T.b_isinstance (dv 0) (gJ T.gBO)) (aa (iZ T.b_isinstance (dv 0) (gJ T.gBB)) ae))))))))
   (ah (ax (i:=1) sc__law_marks.nd rfl (.inl rfl) (av (PN.of (aA aI (dv 1) (a_ (aa (iZ T.b_isinstance (dv 0) (gJ T.gST)) (aa (iZ T.b_isinstance (dv 0) (gJ T.gTS)) (aa (iZ T.b_isinstance (dv 0) (gJ T.gTM)) (aa (iZ T.b_isinstance (dv 0) (gJ T.gBX)) ae)))))))))
   (ak (bL (av (PN.of (aA aI (dv 1) (a_ (aa (iZ T.b_isinstance (dv 0) (CK T.b_ValueError BU)) ae)))))))))
noncomputable abbrev gP:Stmt:=top 72
noncomputable abbrev gi:List Str:=["mode","line","trains","orders"]
@[irreducible] noncomputable def d6 (K:W.Frag)(CL:Addr)(Y:Ad):DS→Out:=(gy (f7 (aj (ac 0) (kI 0) js)) (bS (bn (pC (bT pN) (pC (kI 0) pN)) (db K CL Y))) (gy (f7 (aj (ac 0) (kI 1) js)) (bS (bn (pC (ac 1) (pC (bT pN) pN)) (cu K CL Y))) (gy (f7 (aj (ac 0) (kI 2) js)) (bS (bn (pC (ac 1) (pC (ac 2) (pC (bT pN) pN))) (bW K CL Y))) (gy (f7 (aj (ac 0) (kI 3) js)) (bS (bn (pC (ac 1) (pC (ac 2) (pC (bT (pC (bT (pC (kI 0) (pC (kI 0) pN))) (pC (bT (pC (kI 0) (pC (kI 0) pN))) pN))) pN))) (bJ K CL Y))) (gy (f7 (aj (ac 0) (kI 4) js)) (bS (bn (pC (ac 1) (pC (ac 2) (pC (aj (aj (bT (pC (bT (pC (kI 1) (pC (kI 0) pN))) pN)) (bT (pC (bT (pC (kI 0) (pC (kI 1) pN))) pN)) bg) (ac 3) bg) pN))) (iT K CL Y))) (gy (f7 (aj (ac 0) (kI 5) js)) (bS (bn (pC (ac 1) (pC (ac 2) (pC (aj (bT (pC (bT (pC (kI 0) (pC (kI 1) pN))) (pC (bT (pC (kI 0) (pC (kI 1) pN))) pN))) (ac 3) bg) (pC (kI 0) pN)))) (gE K CL Y))) (gy (f7 (aj (ac 0) (kI 6) js)) (bS (bn (pC (ac 1) (pC (aj (ac 2) (ac 2) bg) pN)) (lg K CL Y))) (bS (bn (pC (kS (Str.ofString "3-4 clear ")) pN) (lh K CL Y))))))))))
noncomputable def ce (K:W.Frag)(CL:Addr)(Y:Ad):List D→Res D:=eh 4 gi (d6 K CL Y)
theorem oF:FnScope gi ["mode","line","trains","orders"] (af gP):=⟨rfl,rfl,rfl,by decide +kernel,rfl,by decide +kernel,by decide +kernel⟩
theorem gk (T:Txt K mg CL Y)(S:Sta K mg "_law_call" gP ["mode","line","trains","orders"])(qE:Cal P w K mg base "best" 5 ["line","trains"] (freshSp K 0 (lg K CL Y)))(m7:Cal P w K mg base "chain" 5 ["line","trains","orders"] (freshSp K 0 (iT K CL Y)))(fD:Cal P w K mg base "first_come" 5 ["line","trains"] (freshSp K 0 (cu K CL Y)))(dH:Cal P w K mg base "last_arrival" 7 ["line","trains","table"] (freshSp K 0 (bJ K CL Y)))(kK:Cal P w K mg base "latest" 5 ["line","trains","orders","limit"] (freshSp K 0 (gE K CL Y)))(eM:Cal P w K mg base "least_table" 5 ["line","trains","orders"] (freshSp K 0 (bW K CL Y)))(qF:Cal P w K mg base "read" 4 ["text"] (freshSp K 0 (lh K CL Y)))(c_Line:CalI P w K mg base "Line" CL 2 ["self","runs","clear"] (db K CL Y)):Cal P w K mg base "_law_call" 8 ["mode","line","trains","orders"] (freshSp K 0 (ce K CL Y)):=by
 refine S.cal (k:=7) (r:=0) (F:=d6 K CL Y) oF [] (by decide) rfl fun f cdv A outer s H E V=>?_;unfold d6;exact(ak (bf (aM (eY V.units) (dv 0) ag (aW _)) (ak (cy (vS c_Line V (aa (a_ ae) (aa ag ae))))) (ak (bf (aM (eY V.units) (dv 0) ag (aW _)) (ak (cy (aD fD V (aa (dv 1) (aa (a_ ae) ae))))) (ak (bf (aM (eY V.units) (dv 0) ag (aW _)) (ak (cy (aD eM V (aa (dv 1) (aa (dv 2) (aa (a_ ae) ae)))))) (ak (bf (aM (eY V.units) (dv 0) ag (aW _)) (ak (cy (aD dH V (aa (dv 1) (aa (dv 2) (aa (a_ (aa (a_ (aa ag (aa ag ae))) (aa (a_ (aa ag (aa ag ae))) ae))) ae)))))) (ak (bf (aM (eY V.units) (dv 0) ag (aW _)) (ak (cy (aD m7 V (aa (dv 1) (aa (dv 2) (aa (aA aI (aA aI (a_ (aa (a_ (aa ag (aa ag ae))) ae)) (a_ (aa (a_ (aa ag (aa ag ae))) ae))) (dv 3)) ae)))))) (ak (bf (aM (eY V.units) (dv 0) ag (aW _)) (ak (cy (aD kK V (aa (dv 1) (aa (dv 2) (aa (aA aI (a_ (aa (a_ (aa ag (aa ag ae))) (aa (a_ (aa ag (aa ag ae))) ae))) (dv 3)) (aa ag ae))))))) (ak (bf (aM (eY V.units) (dv 0) ag (aW _)) (ak (cy (aD qE V (aa (dv 1) (aa (aA aI (dv 2) (dv 2)) ae))))) (ak (cy (aD qF V (aa Bb ae))))))))))))))))))
noncomputable abbrev jd:Stmt:=top 73
noncomputable abbrev oT:List Str:=["script","made","runs","line","trains","mode","found","e"]
@[irreducible] noncomputable def rK (K:W.Frag)(CL:Addr)(Y:Ad):DS→Out:=(az (aN 1 (bn (pC (ac 0) (pC (kI 0) pN)) (bI K CL Y)))
  (az (aN 2 (aj (aj (ac 1) (kI 0) bG) (aj (bT (pC (kI 3) pN)) (aj (kI 2) (c1 (aj (ac 1) (kI 0) bG) bz) oH) lU) bg))
  (az (aN 3 (bn (pC (ac 2) (pC (aj (ac 1) (kI 1) bG) pN)) (db K CL Y)))
  (az (aN 4 (bT (pC (iC (pC (kI 0) (pC (kI 2) (pC (bn (pC (ac 0) (pC (kI 20) (pC (kI 61) pN))) (aH K CL Y)) pN)))) (pC (iC (pC (kI 2) (pC (kI 0) (pC (bn (pC (ac 0) (pC (kI 21) (pC (kI 61) pN))) (aH K CL Y)) pN)))) pN))))
  (az (aN 5 (bn (pC (ac 0) (pC (kI 22) (pC (kI 8) pN))) (aH K CL Y)))
  (az (aN 6 (bT pN))
  (az (je 7 [Y.BL,Y.BT,Y.BO,Y.BB,Y.ST,Y.TS,Y.TM,Y.BX] (bS (bn (zz (pC (ac 5) (pC (ac 3) (pC (ac 4) (pC (a9 (sR1 (pC (aj (c1 (ac 2) bz) (kI 2) oH) pN)) [none] (b8 0) yes (bT pN)) pN))))) (ce K CL Y))) (aN 6 (bn (pC (ac 7) pN) (bO K CL Y))))
  (cG (aj (ac 6) (a9 (sR1 (pC (kI 9) pN)) [none,some 5] (b8 0) yes (CF (aj (ac 0) (ac 1) js) (aj (ac 0) (kI 8) js))) js)))))))))
noncomputable def vB (K:W.Frag)(CL:Addr)(Y:Ad):List D→Res D:=eh 1 oT (rK K CL Y)
theorem sc_law:FnScope oT ["script"] (af jd):=⟨rfl,rfl,rfl,by decide +kernel,rfl,by decide +kernel,by decide +kernel⟩
theorem BV {f:Addr}{fd:FuncData}(T:Txt K mg CL Y)(Fn:Fun K "law" "law" jd f fd)(gk:Cal P w K mg base "_law_call" 8 ["mode","line","trains","orders"] (freshSp K 0 (ce K CL Y)))(aR:Cal P w K mg base "_law_drawn" 1 ["script","k","many"] (freshSp K 0 (aH K CL Y)))(dF:Cal P w K mg base "_law_line_by" 2 ["script","base"] (freshSp K 0 (bI K CL Y)))(fA:CalH P w K mg base "_law_marks" 1 ["e"] (bO K CL Y))(c_Line:CalI P w K mg base "Line" CL 2 ["self","runs","clear"] (db K CL Y)):FnOk P w K mg base (CXF P w) 9 f fd ["script"] (freshSp K 0 (vB K CL Y)):=by
 refine Fn.freshM (k:=8) (r:=0) (F:=rK K CL Y) sc_law [] (by decide) rfl fun cdv A outer s H E V=>?_;unfold rK;exact(ah (ax (i:=1) sc_law.nd rfl (.inl rfl) (av (PN.of (aD dF V (aa (dv 0) (aa ag ae))))))
   (ah (ax (i:=2) sc_law.nd rfl (.inl rfl) (av (PN.of (aA aI (bj (dv 1) ag) (aA g_ (a_ (aa ag ae)) (aA nn ag (bK T.b_len (bj (dv 1) ag))))))))
   (ah (ax (i:=3) sc_law.nd rfl (.inl rfl) (av (PN.of (vS c_Line V (aa (dv 2) (aa (bj (dv 1) ag) ae))))))
   (ah (ax (i:=4) sc_law.nd rfl (.inl rfl) (av (PN.of (a_ (aa (eQ (aa ag (aa ag (aa (aD aR V (aa (dv 0) (aa ag (aa ag ae)))) ae)))) (aa (eQ (aa ag (aa ag (aa (aD aR V (aa (dv 0) (aa ag (aa ag ae)))) ae)))) ae))))))
   (ah (ax (i:=5) sc_law.nd rfl (.inr rfl) (av (PN.of (aD aR V (aa (dv 0) (aa ag (aa ag ae)))))))
   (ah (ax (i:=6) sc_law.nd rfl (.inl rfl) (av (PN.of (a_ ae))))
   (ah (yQ (i:=7) (cs:=[Y.BL,Y.BT,Y.BO,Y.BB,Y.ST,Y.TS,Y.TM,Y.BX]) sc_law.nd rfl rfl rfl T.gHE rfl rfl T.hs (wz gk V (fun _ _=>(aa (dv 5) (aa (dv 3) (aa (dv 4) (aa (PN.pd (ez (j:=0) rfl (bE (N:=["k"]) (caps:=[none]) (af jd) oT rfl rfl (by decide +kernel)) rfl rfl (.inl rfl) (iz rfl T.b_range (aa (aA nn (bK T.b_len (dv 2)) ag) ae)) (fun _ _ _ _=>cT) (fun _ _ _ _=>(PN.of (a_ ae))))) ae)))))) (fun _ _=>(ak (ax (i:=6) sc_law.nd rfl (.inl rfl) (av (PN.of (A9 fA V (aa (dv 7) ae))))))))
   (ak (bL (av (PN.of (oi (eY V.units) (dv 6) (PN.pd (ez (j:=0) rfl (bE (N:=["k","mode"]) (caps:=[none,some 5]) (af jd) oT rfl rfl (by decide +kernel)) rfl rfl (.inl rfl) (iz rfl T.b_range (aa ag ae)) (fun _ _ _ _=>cT) (fun _ _ _ _=>(PN.of (CH (oi (eY V.units) (dv 0) (dv 1) (aW _)) (vU (oi (eY V.units) (dv 0) ag (aW _)))))))) (aW _)))))))))))))
end
end K14
set_option maxHeartbeats 1000000
namespace K14
open PySem L2
section
variable{K:W.Frag}{CL:Addr}{Y:Ad}
theorem dL {ns:List Int}{k many:Int}(h0:0≤k)(h1:k<100000)(h2:0<many)(h3:many<100000):aH K CL Y [.scr ns,.int k,.int many]= .ok (.int (drawn ns k many)):=by
 unfold aH;refine(aU rfl).trans ?_;have e0:au fq [D.scr ns,.int k,.int many]=[some (.scr ns),some (.int k),some (.int many),none,none]:=rfl;rw[e0];unfold dc;have st1:= @za ns k;by_cases hz:ns.length=0
 ·have hd:decide (0<(ns.length:Int))=false:=decide_eq_false (by omega);have hc7:cellOf ns k=7:=if_pos hz;have e1:(7*48271+(k+1)*7919+(ns.length:Int)) % 2147483647=lD ns k:=by unfold lD;rw[hc7]
  simp (disch:=omega) only[aP,nC,hd,pB,uT,r7,e1];rfl
 ·have hd:decide (0<(ns.length:Int))=true:=decide_eq_true (by omega);have hix:=xB (k:=k) hz;have e1:(cellOf ns k*48271+(k+1)*7919+(ns.length:Int)) % 2147483647=lD ns k:=rfl;simp (disch:=omega) only[aP,nC,hd,pB,uT,r7,Am hix,e1];rfl
theorem CM {k:Int}(h:0≤k∧k<2):∃v:Int,(v=4∨v=20)∧bG (.lst [.int 4,.int 20]) (.int k)= .ok (.int v):=by
 rcases (show k=0∨k=1 by omega) with rfl|rfl
 ·exact⟨4,.inl rfl,uQ⟩
 ·exact⟨20,.inr rfl,uR⟩
structure GoodLine (rs:List Int)(g:Int):Prop where
 one:1≤rs.length
 few:rs.length≤5
 run:∀r∈rs,1≤r∧r≤20
 gap:0≤g∧g≤5
theorem tX {ns:List Int}{base:Int}(h0:0≤base)(h1:base<1000):∃rs g,GoodLine rs g∧bI K CL Y [.scr ns,.int base]= .ok (.tup [.lst (rs.map D.int),.int g]):=by
 have b1:=fH (ns:=ns) (k:=base) (many:=5) (by omega);obtain⟨m,em⟩:∃m:Nat,1+drawn ns base 5=(m:Int):=⟨(1+drawn ns base 5).toNat,by omega⟩;obtain⟨v,hv,ev⟩:=CM (fH (ns:=ns) (k:=base+1) (many:=2) (by omega));refine⟨(List.range m).map fun (i:Nat)=>1+drawn ns (base+2+(i:Int)) v,drawn ns (base+8) 6,⟨by rw[length_map,length_range];omega,by rw[length_map,length_range];omega,fun r hr=>?_,?_⟩,?_⟩
 ·obtain⟨i,_,rfl⟩:=mem_map.mp hr;have:=fH (ns:=ns) (k:=base+2+(i:Int)) (many:=v) (by omega);omega
 ·have:=fH (ns:=ns) (k:=base+8) (many:=6) (by omega);omega
 ·unfold bI;refine(aU rfl).trans ?_;have e0:au cn [D.scr ns,.int base]=[some (.scr ns),some (.int base),none,none]:=rfl;rw[e0];unfold ci;have d1:=dL (K:=K) (CL:=CL) (Y:=Y) (ns:=ns) (k:=base) (many:=5) (by omega) (by omega) (by omega) (by omega);have d2:=dL (K:=K) (CL:=CL) (Y:=Y) (ns:=ns) (k:=base+1) (many:=2) (by omega) (by omega) (by omega) (by omega);have d3:=dL (K:=K) (CL:=CL) (Y:=Y) (ns:=ns) (k:=base+8) (many:=6) (by omega) (by omega) (by omega) (by omega);simp only[aP,d1,em];rw[eZ (xs:=List.range m) (c:=fun (i:Nat)=>D.int (i:Int)) (g:=fun (i:Nat)=>D.int (1+drawn ns (base+2+(i:Int)) v)) (by simp only[aP,nD (show m<1000000 by omega)]) (by rw[length_range];omega) (fun i hi=>⟨_,rfl,?_⟩)]
  ·simp only[aP,d3,map_map];rfl
  ·have hi:=mem_range.mp hi;have d4:=dL (K:=K) (CL:=CL) (Y:=Y) (ns:=ns) (k:=base+2+(i:Int)) (many:=v) (by omega) (by omega) (by omega) (by omega);have ec:cY [none,some 0,some 1] [some (D.scr ns),some (D.int base),some (D.int (m:Int)),none]=[none,some (.scr ns),some (.int base)]:=rfl;rw[ec];simp only[aP,d2,ev,d4]
end
set_option maxHeartbeats 1000000
section
variable{K:W.Frag}{CL:Addr}{Y:Ad}
noncomputable abbrev Tr:=Nat×Nat×Int
noncomputable def bQ (t:Tr):D:=.tup [.int t.1,.int t.2.1,.int t.2.2]
structure Good (n:Nat)(t:Tr):Prop where
 a:t.1≤n
 b:t.2.1≤n
 ne:t.1≠t.2.1
 r:0≤t.2.2∧t.2.2≤60
noncomputable def bb (t:Tr):List Nat:=if t.1<t.2.1 then (List.range (t.2.1-t.1)).map (t.1 + ·) else ((List.range (t.1-t.2.1)).map (t.2.1 + ·)).reverse
noncomputable def aB (l:List Nat):List D:=l.map fun (i:Nat)=>D.int (i:Int)
theorem h_ {n:Nat}{t:Tr}(g:Good n t):∀s∈bb t,s<n:=by
 intro s hs;have:=g.a;have:=g.b;unfold bb at hs;split at hs
 ·obtain⟨i,hi,rfl⟩:=mem_map.mp hs;have:=mem_range.mp hi;omega
 ·obtain⟨i,hi,rfl⟩:=mem_map.mp (List.mem_reverse.mp hs);have:=mem_range.mp hi;omega
theorem lH {t:Tr}:(bb t).Nodup:=by
 have go:∀a n:Nat,((List.range n).map (a + ·)).Nodup:=fun a n=>by
  refine List.Pairwise.map _ (fun x y h=>?_) (List.nodup_range (n:=n));intro z;exact h (by omega)
 unfold bb;split
 ·exact go _ _
 ·exact(List.pairwise_reverse.mpr ((go _ _).imp fun h z=>h z.symm))
theorem jh {n:Nat}{t:Tr}(g:Good n t):(bb t).length≤n:=by
 have:=g.a;have:=g.b;unfold bb;split
 ·rw[length_map,length_range];omega
 ·rw[List.length_reverse,length_map,length_range];omega
theorem wK {a b:Nat}:jF (a:Int) ((b:Int)-(a:Int)).toNat=aB ((List.range (b-a)).map (a + ·)):=by
 unfold jF aB;have e:((b:Int)-(a:Int)).toNat=b-a:=by omega
 rw[e,map_map];refine map_congr_left fun i _=>?_;show D.int ((a:Int)+(i:Int))=D.int (((a+i:Nat)):Int);congr 1
theorem ql {a b:Nat}(h:b<a):oy ((a:Int)-1) (((a:Int)-1)-((b:Int)-1)).toNat=aB ((List.range (a-b)).map (b + ·)).reverse:=by
 have e:(((a:Int)-1)-((b:Int)-1)).toNat=a-b:=by omega
 unfold oy aB;rw[e];apply List.ext_getElem
 ·simp
 ·intro i h1 h2;simp only[length_map,length_range,List.length_reverse]at h1 h2;simp only[List.getElem_map,List.getElem_range,List.getElem_reverse,length_map,length_range];congr 1;omega
end
set_option maxHeartbeats 1000000
section
variable{K:W.Frag}{CL:Addr}{Y:Ad}
noncomputable def aq (CL:Addr)(rs:List Int)(g:Int):D:=.ins CL ["minutes","gap"] [.tup (rs.map D.int),.int g]
theorem fj {rs:List Int}{g:Int}:en CL [aq CL rs g]= .ok (.lst (rs.map D.int)):=by
 unfold en aq iL;dsimp only;rw[if_pos rfl];rfl
theorem kQ {rs:List Int}{g:Int}:ix CL [aq CL rs g]= .ok (.int g):=by
 unfold ix aq iL;dsimp only;rw[if_pos rfl];have:pI ["minutes","gap"] [.tup (rs.map D.int),.int g] "gap" =some (.int g):=by
  unfold pI;rw[if_neg (by decide +kernel)];unfold pI;rw[if_pos rfl]
 rw[this]
theorem vf {rs:List Int}{g:Int}{m:Str}(h:(["minutes","gap"]:List Str).contains m=false):jL CL m (aq CL rs g)=true:=by
 unfold jL aq;dsimp only;rw[h];simp
theorem Cf {rs:List Int}{g:Int}:jL CL "runs" (aq CL rs g)=true:=vf (by decide +kernel)
theorem DN {rs:List Int}{g:Int}:jL CL "clear" (aq CL rs g)=true:=vf (by decide +kernel)
theorem yf {rs:List Int}{g:Int}(h:GoodLine rs g):db K CL Y [.lst (rs.map D.int),.int g]= .ok (aq CL rs g):=by
 have e:aK K CL Y [.lst (rs.map D.int),.int g]= .ok .non:=by
  unfold aK;refine(aU rfl).trans ?_;have e0:au dh [D.lst (rs.map D.int),.int g]=[some (.lst (rs.map D.int)),some (.int g),none]:=rfl;rw[e0];unfold cj;have h1:=h.one;have h2:=h.few;have h3:=h.gap;have q1:decide (1≤(rs.length:Int))=true:=decide_eq_true (by omega);have q2:decide ((rs.length:Int)≤5)=true:=decide_eq_true (by omega);simp only[aP,q1,q2];refine pG (fun rem ρ=>(∀d∈rem,∃r:Int,(1≤r∧r≤20)∧d= .int r)∧∃o,ρ=[some (.lst (rs.map D.int)),some (.int g),o]) ⟨fun d hd=>?_,none,rfl⟩ (fun d ds ρ hZ169=>?_) (fun ρ' hZ170=>?_)
  ·obtain⟨r,hr,rfl⟩:=mem_map.mp hd;exact⟨r,h.run r hr,rfl⟩
  ·obtain⟨hd,o,e⟩:=hZ169;subst e;obtain⟨r,hr,rfl⟩:=hd d (mem_cons_self ..);refine⟨_,_,rfl,?_,fun x hx=>hd x (dQ hx),some (.int r),rfl⟩;have q3:decide (1≤r)=true:=decide_eq_true hr.1;have q4:decide (r≤20)=true:=decide_eq_true hr.2;simp only[aP,q3,q4]
  ·obtain⟨_,o,e⟩:=hZ170;subst e;have q3:decide (0≤g)=true:=decide_eq_true h3.1;have q4:decide (g≤5)=true:=decide_eq_true h3.2;simp only[aP,q3,q4]
 unfold db;dsimp only;rw[e,aw];rfl
theorem lO {rs:List Int}{g:Int}{t:Tr}(h:Good rs.length t):bu K CL Y [aq CL rs g,bQ t]= .ok .non:=by
 obtain⟨a,b,r⟩:=t;have ha:=h.a;have hb:=h.b;have hr:=h.r;have hn:=h.ne;dsimp only at ha hb hr hn;unfold bu;refine(aU rfl).trans ?_;have e0:au eG [aq CL rs g,bQ (a,b,r)]=[some (aq CL rs g),some (.tup [.int a,.int b,.int r]),none,none,none]:=rfl;rw[e0];unfold cK;have e3:((3:Int)==3)=true:=rfl;simp only[aP,Cf,fj,e3];refine pG (fun rem ρ=>(∀d∈rem,∃i:Nat,i≤rs.length∧d= .int i)∧∃o,ρ=[some (aq CL rs g),some (.tup [.int a,.int b,.int r]),some (.int rs.length),o,none]) ⟨fun d hd=>?_,none,rfl⟩ (fun d ds ρ hZ171=>?_) (fun ρ' hZ172=>?_)
 ·rcases mem_cons.mp hd with rfl|hd
  ·exact⟨a,ha,rfl⟩
  ·rw[mem_singleton.mp hd];exact⟨b,hb,rfl⟩
 ·obtain⟨hd,o,e⟩:=hZ171;subst e;obtain⟨i,hi,rfl⟩:=hd d (mem_cons_self ..);refine⟨_,_,rfl,?_,fun x hx=>hd x (dQ hx),some (.int i),rfl⟩;have q3:decide (0≤(i:Int))=true:=decide_eq_true (by omega);have q4:decide ((i:Int)≤(rs.length:Int))=true:=decide_eq_true (by omega);simp only[aP,q3,q4]
 ·obtain⟨_,o,e⟩:=hZ172;subst e;have q2:((a:Int)==(b:Int))=false:=beq_eq_false_iff_ne.mpr (by omega);have q3:decide (0≤r)=true:=decide_eq_true hr.1;have q4:decide (r≤60)=true:=decide_eq_true hr.2;simp only[aP,q2,q3,q4]
theorem BA {rs:List Int}{g:Int}{t:Tr}(h:Good rs.length t)(hn:rs.length≤1000):pS K CL Y [aq CL rs g,bQ t]= .ok (.lst (aB (bb t))):=by
 have e1:=lO (K:=K) (CL:=CL) (Y:=Y) (g:=g) h;obtain⟨a,b,r⟩:=t;have ha:=h.a;have hb:=h.b;have hne:=h.ne;dsimp only at ha hb hne;unfold pS;refine(aU rfl).trans ?_;have e0:au uy [aq CL rs g,bQ (a,b,r)]=[some (aq CL rs g),some (.tup [.int a,.int b,.int r]),none,none]:=rfl;rw[e0];unfold rL;have e1':bu K CL Y [aq CL rs g,.tup [.int a,.int b,.int r]]= .ok .non:=e1;simp only[aP,e1'];by_cases hab:a<b
 ·have q1:decide ((a:Int)<(b:Int))=true:=decide_eq_true (by omega);have q2:mw [.int (a:Int),.int (b:Int)]= .ok (.lst (aB ((List.range (b-a)).map (a + ·)))):=by
   unfold mw;dsimp only;rw[if_pos,wK];unfold fZ;simp only[and_eq_true,decide_eq_true_eq];refine⟨⟨by omega,by omega⟩,dP (by omega)⟩
  simp only[aP,q1,q2];unfold bb;rw[if_pos (show (a,b,r).1<(a,b,r).2.1 from hab)]
 ·have q1:decide ((a:Int)<(b:Int))=false:=decide_eq_false (by omega);have q2:mx [.int ((a:Int)-1),.int ((b:Int)-1),.int (-1)]= .ok (.lst (aB ((List.range (a-b)).map (b + ·)).reverse)):=by
   unfold mx;dsimp only;rw[if_pos,ql (by omega)];unfold fZ;simp only[and_eq_true,decide_eq_true_eq];refine⟨⟨⟨by omega,by omega⟩,dP (by omega)⟩,trivial⟩
  simp only[aP,q1,q2];unfold bb;rw[if_neg (show ¬(a,b,r).1<(a,b,r).2.1 from hab)]
theorem sW {rs:List Int}{g:Int}{ts:List Tr}(h:∀t∈ts,Good rs.length t)(hn:rs.length≤1000)(h1:1≤ts.length)(h2:ts.length≤5):bp K CL Y [aq CL rs g,.lst (ts.map bQ)]= .ok (.lst (ts.map fun t=>.lst (aB (bb t)))):=by
 unfold bp;refine(aU rfl).trans ?_;have e0:au kC [aq CL rs g,.lst (ts.map bQ)]=[some (aq CL rs g),some (.lst (ts.map bQ))]:=rfl;rw[e0];unfold kz;have q1:decide (1≤(ts.length:Int))=true:=decide_eq_true (by omega);have q2:decide ((ts.length:Int)≤5)=true:=decide_eq_true (by omega);simp only[aP,q1,q2];rw[eZ (xs:=ts) (c:=bQ) (g:=fun t=>.lst (aB (bb t))) rfl (by omega) (fun t ht=>⟨_,rfl,?_⟩)]
 ·simp only[aP]
 ·have ec:cY [none,some 0] [some (aq CL rs g),some (.lst (ts.map bQ))]=[none,some (aq CL rs g)]:=rfl;rw[ec];simp only[aP,BA (K:=K) (CL:=CL) (Y:=Y) (g:=g) (h t ht) hn]
end
set_option maxHeartbeats 1000000
noncomputable def uw (b:Int)(l:List Int):Int:=l.foldl max b
theorem gG:∀(l:List Int) (b:Int),(b≤uw b l∧∀e∈l,e≤uw b l)∧(uw b l=b∨uw b l∈l)
 | [],b=>⟨⟨Int.le_refl _,fun _ h=>by cases h⟩,.inl rfl⟩
 |a::l,b=>by
  obtain⟨⟨h1,h2⟩,h3⟩:=gG l (max b a);have e:uw b (a::l)=uw (max b a) l:=rfl;rw[e];refine⟨⟨by omega,fun x hx=>?_⟩,?_⟩
  ·rcases mem_cons.mp hx with rfl|hx
   ·omega
   ·exact h2 x hx
  ·rcases h3 with h|h
   ·rcases (show max b a=b∨max b a=a by omega) with z|z
    ·exact .inl (h.trans z)
    ·exact .inr (by rw[h,z];exact mem_cons_self ..)
   ·exact .inr (dQ h)
theorem AT {b v:Int}{l:List Int}(h1:b≤v)(h2:∀e∈l,e≤v)(h3:v=b∨v∈l):uw b l=v:=by
 obtain⟨⟨a1,a2⟩,a3⟩:=gG l b;have l1:uw b l≤v:=by
  rcases a3 with z|z
  ·omega
  ·exact h2 _ z
 have l2:v≤uw b l:=by
  rcases h3 with z|z
  ·omega
  ·exact a2 _ z
 omega
noncomputable abbrev Q:=Tr×Nat
theorem mem_zip {α:Type}{l:List α}{q:α×Nat}:q∈l.zipIdx↔l[q.2]?=some q.1:=by
 rw[List.mem_zipIdx_iff_getElem?]
theorem getD_mem {α:Type}{l:List α}{i:Nat}{d:α}(h:i<l.length):l.getD i d∈l:=by
 rw[getD_eq_getElem?_getD,se h];exact getElem_mem h
theorem oh {ts:List Tr}{f:Q→Bool}:(ts.zipIdx.filter f).Pairwise fun a b=>a.2≠b.2:=by
 refine List.Pairwise.filter _ ?_;have:(ts.zipIdx.map Prod.snd).Nodup:=by rw[List.zipIdx_map_snd];exact List.nodup_range'
 exact pairwise_map.mp this
set_option maxHeartbeats 1000000
section
variable{K:W.Frag}{CL:Addr}{Y:Ad}
noncomputable def aC (t:Tr):D:=.lst (aB (bb t))
theorem nH {l:List D}:Bw (.lst l)= .ok (!l.isEmpty):=id rfl
structure Ctx (rs:List Int)(g:Int)(ts:List Tr):Prop where
 ln:GoodLine rs g
 tr:∀t∈ts,Good rs.length t
 few:ts.length≤5
 one:1≤ts.length
theorem Ctx.good {rs:List Int}{g:Int}{ts:List Tr}{q:Q}(C:Ctx rs g ts)(hq:q∈ts.zipIdx):Good rs.length q.1:=C.tr _ (mem_of_getElem? (mem_zip.mp hq))
theorem eB {rs:List Int}{g:Int}(h:GoodLine rs g){s:Nat}(hs:s<rs.length):1≤rs.getD s 0∧rs.getD s 0≤20:=h.run _ (getD_mem hs)
theorem ki {α:Type}{l:List α}{i:Nat}{d:α}(h:i<l.length):l[i]?=some (l.getD i d):=by
 rw[getD_eq_getElem?_getD,se h];rfl
end
set_option maxHeartbeats 1000000
section
variable{K:W.Frag}{CL:Addr}{Y:Ad}
end
set_option maxHeartbeats 1000000
noncomputable abbrev Vt:=Nat×Nat
section
variable(vs:List Vt)(W:Vt→List (Vt×Int))(ready:Vt→Int)
noncomputable def bt (turn:List Vt):List Vt:=vs.filter fun v=> !turn.contains v&&((W v).all fun u=>turn.contains u.1)
noncomputable def cZ:Nat→List Vt→List Vt
 |0,t=>t
 |n+1,t=>if bt vs W t=[] then t else cZ n (t ++ bt vs W t)
structure Turn (t:List Vt):Prop where
 nd:t.Nodup
 sub:∀v∈t,v∈vs
 top:∀a v b,t=a ++ v::b→∀u∈W v,u.1∈a
noncomputable def zy (e:Vt→Int)(v:Vt):Vt→Int:=fun x=>if x=v then uw (ready v) ((W v).map fun u=>e u.1+u.2) else e x
noncomputable def fk (t:List Vt):Vt→Int:=t.foldl (zy W ready) (fun _=>0)
structure Sol (τ:Vt→Int):Prop where
 rd:∀v∈vs,ready v≤τ v
 wt:∀v∈vs,∀u∈W v,τ u.1+u.2≤τ v
end
theorem sO {α:Type}{P:List α→Prop}(h0:P [])(h1:∀t x,P t→P (t ++ [x]))(l:List α):P l:=by
 have h:∀r:List α,P r.reverse:=fun r=>by
  induction r with
  |nil=>exact h0
  |cons x r ih=>rw[List.reverse_cons];exact h1 _ _ ih
 have:=h l.reverse;rwa[List.reverse_reverse]at this
theorem cw {α:Type}[DecidableEq α]:∀{t vs:List α},t.Nodup→(∀v∈t,v∈vs)→t.length≤vs.length
 | [],_,_,_=>zero_le _
 |a::t,vs,nd,h=>by
  obtain⟨n1,n2⟩:=nodup_cons.mp nd;have ha:=h a (mem_cons_self ..);have ih:=cw (vs:=vs.erase a) n2 fun v hv=>(List.mem_erase_of_ne (fun (e:v=a)=>n1 (e ▸ hv))).mpr (h v (dQ hv));rw[List.length_erase_of_mem ha]at ih;have:=List.length_pos_of_mem ha;rw[length_cons];omega
section
variable{vs:List Vt}{W:Vt→List (Vt×Int)}{ready:Vt→Int}
theorem mem_freed {t:List Vt}{v:Vt}:v∈bt vs W t↔v∈vs∧v∉t∧∀u∈W v,u.1∈t:=by
 unfold bt;rw[mem_filter,and_eq_true,all_eq_true];simp
theorem qo:Turn vs W [] where
 nd:=nodup_nil
 sub:=fun v h=>nomatch h
 top:=fun a v b e=>by cases a <;> cases e
theorem uo {α:Type}{t f a b:List α}{v:α}(e:t ++ f=a ++ v::b):(∃c,t=a ++ v::c)∨∃c,a=t ++ c∧f=c ++ v::b:=by
 rcases List.append_eq_append_iff.mp e with ⟨c,h1,h2⟩|⟨c,h1,h2⟩
 ·exact .inr ⟨c,h1,h2⟩
 ·cases c with
  |nil=>exact .inr ⟨[],by simpa using h1.symm,by simpa using h2.symm⟩
  |cons x c=>
   simp at h2;obtain⟨rfl,h3⟩:=h2;exact .inl ⟨c,h1⟩
theorem mM {t:List Vt}(hv:vs.Nodup)(h:Turn vs W t):Turn vs W (t ++ bt vs W t):=by
 refine⟨nodup_append.mpr ⟨h.nd,hv.filter _,fun a ha b hb e=>?_⟩,fun v m=>?_,fun a v b e u hu=>?_⟩
 ·subst e;exact(mem_freed.mp hb).2.1 ha
 ·rcases mem_append.mp m with z|z
  ·exact h.sub v z
  ·exact(mem_freed.mp z).1
 ·rcases uo e with ⟨c,z⟩|⟨c,z1,z2⟩
  ·exact h.top a v c z u hu
  ·rw[z1];exact mem_append_left _ ((mem_freed.mp (by rw[z2];exact mem_append_right _ (mem_cons_self ..))).2.2 u hu)
theorem mj (hv:vs.Nodup):∀(n:Nat) (t:List Vt),Turn vs W t→vs.length<n+t.length→Turn vs W (cZ vs W n t)∧bt vs W (cZ vs W n t)=[]
 |0,t,h,hl=>by have:=cw h.nd h.sub;omega
 |n+1,t,h,hl=>by
  unfold cZ;by_cases e:bt vs W t=[]
  ·rw[if_pos e];exact⟨h,e⟩
  ·rw[if_neg e];refine mj hv n _ (mM hv h) ?_;have:=length_pos_iff.mpr e;rw[length_append];omega
theorem Turn.pre {a b:List Vt}(h:Turn vs W (a ++ b)):Turn vs W a:=⟨(nodup_append.mp h.nd).1,fun v m=>h.sub v (mem_append_left _ m),fun x v y e u hu=>h.top x v (y ++ b) (by rw[e];simp) u hu⟩
theorem lb {t:List Vt}{v:Vt}:fk W ready (t ++ [v])=zy W ready (fk W ready t) v:=by unfold fk;rw[List.foldl_append];rfl
theorem nW:∀{t:List Vt},Turn vs W t→∀v∈t,fk W ready t v=uw (ready v) ((W v).map fun u=>fk W ready t u.1+u.2):=by
 intro t
 induction t using sO with
 |h0=>intro _ v m;cases m
 |h1 t x ih=>
  intro h v m;have hx:x∉t:=fun z=>(nodup_append.mp h.nd).2.2 x z x (List.mem_singleton_self x) rfl;have wx:∀u∈W x,u.1∈t:=fun u hu=>h.top t x [] rfl u hu;have same:∀y∈t,zy W ready (fk W ready t) x y=fk W ready t y:=fun y hy=>by unfold zy;rw[if_neg (fun (z:y=x)=>hx (z ▸ hy))]
  rw[lb];have key:∀y,(∀u∈W y,u.1∈t)→((W y).map fun u=>zy W ready (fk W ready t) x u.1+u.2)=(W y).map fun u=>fk W ready t u.1+u.2:=fun y hy=>map_congr_left fun u hu=>by rw[same u.1 (hy u hu)]
  rcases mem_append.mp m with z|z
  ·rw[same v z,ih h.pre v z];obtain⟨a,b,e⟩:=List.append_of_mem z;rw[key v fun u hu=>by rw[e];exact mem_append_left _ (h.pre.top a v b e u hu)]
  ·have e:=mem_singleton.mp z;subst e;rw[key v wx];unfold zy;rw[if_pos rfl]
theorem AN {t:List Vt}(h:Turn vs W t){v:Vt}(m:v∈t):ready v≤fk W ready t v:=by
 rw[nW h v m];exact(gG _ _).1.1
theorem nX {t:List Vt}(h:Turn vs W t){v:Vt}(m:v∈t){u:Vt×Int}(hu:u∈W v):fk W ready t u.1+u.2≤fk W ready t v:=by
 rw[nW h v m];exact(gG _ _).1.2 _ (List.mem_map_of_mem hu)
theorem tT {t:List Vt}(h:Turn vs W t){v:Vt}(m:v∈t):fk W ready t v=ready v∨∃u∈W v,fk W ready t v=fk W ready t u.1+u.2:=by
 rcases (gG ((W v).map fun u=>fk W ready t u.1+u.2) (ready v)).2 with z|z
 ·exact .inl ((nW h v m).trans z)
 ·obtain⟨u,hu,e⟩:=mem_map.mp z;exact .inr ⟨u,hu,(nW h v m).trans e.symm⟩
theorem AM {τ:Vt→Int}(s:Sol vs W ready τ){t:List Vt}(h:Turn vs W t):∀v∈t,fk W ready t v≤τ v:=by
 have go:∀(a b:List Vt),t=a ++ b→∀v∈a,fk W ready t v≤τ v:=by
  intro a
  induction a using sO with
  |h0=>intro b _ v m;cases m
  |h1 a x ih=>
   intro b e v m
   rcases mem_append.mp m with z|z
   ·exact ih ([x] ++ b) (by rw[e];simp) v z
   ·have ex:=mem_singleton.mp z;subst ex;have hv:v∈t:=by rw[e];exact mem_append_left _ m
    have e':t=a ++ v::b:=by rw[e];simp
    rcases tT (ready:=ready) h hv with q|⟨u,hu,q⟩
    ·rw[q];exact s.rd v (h.sub v hv)
    ·have h1:=ih ([v] ++ b) (by rw[e];simp) u.1 (h.top a v b e' u hu);have h2:=s.wt v (h.sub v hv) u hu;omega
 exact fun v m=>go t [] (by simp) v m
theorem pH {τ:Vt→Int}(s:Sol vs W ready τ)(h0:∀v∈vs,0≤ready v)(hw:∀v∈vs,∀u∈W v,1≤u.2∧u.1∈vs){t:List Vt}(he:bt vs W t=[]):∀v∈vs,v∈t:=by
 have go:∀n:Nat,∀v∈vs,(τ v).toNat≤n→v∈t:=by
  intro n
  induction n with
  |zero=>
   intro v X hn;apply Classical.byContradiction;intro nt;have:v∈bt vs W t:=mem_freed.mpr ⟨X,nt,fun u hu=>by
    exfalso;have h1:=s.wt v X u hu;have h2:=hw v X u hu;have h3:=s.rd u.1 h2.2;have h4:=h0 u.1 h2.2;omega⟩
   rw[he]at this;cases this
  |succ n ih=>
   intro v X hn;apply Classical.byContradiction;intro nt;have:v∈bt vs W t:=mem_freed.mpr ⟨X,nt,fun u hu=>by
    have h1:=s.wt v X u hu;have h2:=hw v X u hu;have h3:=s.rd u.1 h2.2;have h4:=h0 u.1 h2.2;exact ih u.1 h2.2 (by omega)⟩
   rw[he]at this;cases this
 exact fun v X=>go _ v X (le_refl _)
end
set_option maxHeartbeats 1000000
noncomputable def ar (ts:List Tr):List Vt:=ts.zipIdx.flatMap fun q=>(bb q.1).map fun s=>(q.2,s)
theorem mem_visits {ts:List Tr}{v:Vt}:v∈ar ts↔∃t,ts[v.1]?=some t∧v.2∈bb t:=by
 unfold ar;rw[mem_flatMap];constructor
 ·intro hZ27;obtain⟨q,hq,h⟩:=hZ27;obtain⟨s,hs,e⟩:=mem_map.mp h;subst e;exact⟨q.1,mem_zip.mp hq,hs⟩
 ·intro hZ28;obtain⟨t,ht,h⟩:=hZ28;exact⟨(t,v.1),mem_zip.mpr ht,mem_map.mpr ⟨v.2,h,rfl⟩⟩
theorem bP {ts:List Tr}:(ar ts).Nodup:=by
 unfold ar;have h1:ts.zipIdx.Pairwise fun a b=>a.2≠b.2:=by
  have:=oh (ts:=ts) (f:=fun _=>true);rwa[List.filter_eq_self.mpr (fun _ _=>rfl)]at this
 rw[List.nodup_iff_pairwise_ne,List.pairwise_flatMap];refine⟨fun q _=>?_,h1.imp fun {a b} hab x hx y hy e=>?_⟩
 ·rw[←List.nodup_iff_pairwise_ne];exact List.Pairwise.map _ (fun a b (h:a≠b) e=>h (Prod.mk.inj e).2) (lH (t:=q.1))
 ·obtain⟨s,_,rfl⟩:=mem_map.mp hx;obtain⟨s',_,rfl⟩:=mem_map.mp hy;exact hab (Prod.mk.inj e).1
noncomputable def wP (rs:List Int)(ts:List Tr)(v:Vt):List (Vt×Int):=match ts[v.1]? with
 |some t=>((bb t).zip (bb t).tail).filterMap fun u=>if u.2=v.2 then some ((v.1,u.1),rs.getD u.1 0) else none
 |none=>[]
noncomputable def wO (rs:List Int)(g:Int)(O:List (List Nat))(v:Vt):List (Vt×Int):=((O.getD v.2 []).zip (O.getD v.2 []).tail).filterMap fun u=>if u.2=v.1 then some ((u.1,v.2),rs.getD v.2 0+g) else none
noncomputable def ik (rs:List Int)(g:Int)(ts:List Tr)(O:List (List Nat))(v:Vt):List (Vt×Int):=wP rs ts v ++ wO rs g O v
noncomputable def iD (ts:List Tr)(v:Vt):Int:=match ts[v.1]? with|some t=>t.2.2|none=>0
theorem qY {rs:List Int}{ts:List Tr}{v:Vt}{t:Tr}(ht:ts[v.1]?=some t){u:Vt×Int}:u∈wP rs ts v↔∃a,(a,v.2)∈(bb t).zip (bb t).tail∧u=((v.1,a),rs.getD a 0):=by
 unfold wP;rw[ht];dsimp only;rw[mem_filterMap];constructor
 ·intro hZ29;obtain⟨x,hx,e⟩:=hZ29;by_cases z:x.2=v.2
  ·rw[if_pos z]at e;cases e;exact⟨x.1,by rw[←z];exact hx,rfl⟩
  ·rw[if_neg z]at e;cases e
 ·intro hZ30;obtain⟨a,ha,e⟩:=hZ30;exact⟨(a,v.2),ha,by rw[if_pos rfl,e]⟩
theorem mem_wO {rs:List Int}{g:Int}{O:List (List Nat)}{v:Vt}{u:Vt×Int}:u∈wO rs g O v↔∃a,(a,v.1)∈(O.getD v.2 []).zip (O.getD v.2 []).tail∧u=((a,v.2),rs.getD v.2 0+g):=by
 unfold wO;rw[mem_filterMap];constructor
 ·intro hZ31;obtain⟨x,hx,e⟩:=hZ31;by_cases z:x.2=v.1
  ·rw[if_pos z]at e;cases e;exact⟨x.1,by rw[←z];exact hx,rfl⟩
  ·rw[if_neg z]at e;cases e
 ·intro hZ32;obtain⟨a,ha,e⟩:=hZ32;exact⟨(a,v.1),ha,by rw[if_pos rfl,e]⟩
structure Ords (n:Nat)(ts:List Tr)(O:List (List Nat)):Prop where
 len:O.length=n
 nd:∀s,(O.getD s []).Nodup
 mem:∀s k,s<n→(k∈O.getD s []↔(k,s)∈ar ts)
theorem dm {α:Type}{l:List α}{u:α×α}(h:u∈l.zip l.tail):u.1∈l∧u.2∈l:=⟨(of_mem_zip h).1,List.mem_of_mem_tail (of_mem_zip h).2⟩
theorem BC {rs:List Int}{g:Int}{ts:List Tr}{O:List (List Nat)}(C:Ctx rs g ts)(H:Ords rs.length ts O):∀v∈ar ts,∀u∈ik rs g ts O v,1≤u.2∧u.1∈ar ts:=by
 intro v hv u hu;obtain⟨t,ht,hs⟩:=mem_visits.mp hv;have hg:Good rs.length t:=C.tr t (mem_of_getElem? ht)
 rcases mem_append.mp hu with z|z
 ·obtain⟨a,ha,e⟩:=(qY ht).mp z;subst e;have ha':=(dm ha).1;exact⟨(eB C.ln (h_ hg a ha')).1,mem_visits.mpr ⟨t,ht,ha'⟩⟩
 ·obtain⟨a,ha,e⟩:=mem_wO.mp z;subst e;have hlt:=h_ hg v.2 hs;have h1:=(eB C.ln hlt).1;have h2:=C.ln.gap.1;exact⟨by show 1≤rs.getD v.2 0+g;omega,(H.mem v.2 a hlt).mp (dm ha).1⟩
theorem DX {w:List Nat}{n:Nat}:plL n (aB w)=true:=ko w fun _ _=>lv
theorem ke {a b:Nat}:br (.int (a:Int)) (.int (b:Int))=decide (a=b):=by
 unfold br;by_cases h:a=b
 ·subst h;simp
 ·rw[decide_eq_false h];simp;omega
theorem DU {w:List Nat}{s:Nat}:qx false (.int (s:Int)) (.lst (aB w))= .ok (.bl (decide (s∈w))):=by
 unfold qx;dsimp only;rw[if_pos ⟨DX,lv⟩];congr 2;unfold aB;rw[if_neg Bool.false_ne_true,any_map];by_cases h:s∈w
 ·rw[decide_eq_true h,List.any_eq_true];exact⟨s,h,by show br _ _=true;rw[ke];simp⟩
 ·rw[decide_eq_false h,List.any_eq_false];intro x hx;show ¬br _ _=true;rw[ke];simp;exact fun z=>h (z ▸ hx)
noncomputable def bo (O:List (List Nat)):D:=.lst (O.map fun o=>.lst (aB o))
theorem pf {l:List D}:iB (some 1) none (.lst l)= .ok (.lst l.tail):=by
 show Res.ok (D.lst ((l.drop (HT.cb l.length 0 (some 1))).take (HT.cb l.length l.length none-HT.cb l.length 0 (some 1))))=_;have e1:HT.cb l.length 0 (some 1)=min 1 l.length:=HT.yZ l.length 0 1;have e2:HT.cb l.length l.length none=l.length:=rfl;rw[e1,e2];cases l with
 |nil=>rfl
 |cons a l=>
  have:min 1 (a::l).length=1:=by rw[length_cons];omega
  rw[this,length_cons];show Res.ok (D.lst (l.take (l.length+1-1)))=_;rw[Nat.add_sub_cancel,List.take_length];rfl
set_option maxHeartbeats 1000000
noncomputable def f9 (v:Vt):List aV:=[.inl (v.1:Int),.inl (v.2:Int)]
noncomputable def vD (v:Vt):D:=.tup [.int (v.1:Int),.int (v.2:Int)]
noncomputable def wD (u:Vt×Int):D:=.tup [vD u.1,.int u.2]
noncomputable def lW (W:Vt→List (Vt×Int))(v:Vt):D:=.lst ((W v).map wD)
noncomputable def dW (vs:List Vt)(W:Vt→List (Vt×Int)):D:=.dct (vs.map f9) (vs.map (lW W))
noncomputable def fW (vs:List Vt)(W:Vt→List (Vt×Int)):D:=.fdc (vs.map f9) (vs.map (lW W))
theorem nR {a b:Vt}(h:f9 a=f9 b):a=b:=by
 unfold f9 at h;injection h with h1 h2
 injection h1 with h1
 injection h2 with h2
 injection h2 with h2
 exact Prod.ext (by omega) (by omega)
theorem jC {v:Vt}:e7 [.int (v.1:Int),.int (v.2:Int)]=some (f9 v):=rfl
theorem vn {vs:List Vt}{v:Vt}(h:v∉vs):bH (vs.map f9) (f9 v)=none:=by
 unfold bH;rw[List.findIdx?_eq_none_iff];intro k hk;obtain⟨u,hu,rfl⟩:=mem_map.mp hk;exact decide_eq_false fun z=>h (nR z ▸ hu)
theorem tP {vs:List Vt}{v:Vt}(h:v∈vs):∃m,bH (vs.map f9) (f9 v)=some m∧vs[m]?=some v:=by
 cases q:bH (vs.map f9) (f9 v) with
 |none=>
  unfold bH at q;rw[List.findIdx?_eq_none_iff]at q;have:=q (f9 v) (List.mem_map_of_mem h);simp at this
 |some m=>
  refine⟨m,rfl,?_⟩;unfold bH at q;obtain⟨h1,h2,_⟩:=List.findIdx?_eq_some_iff_getElem.mp q;rw[List.getElem_map]at h2;rw[length_map]at h1;rw[se h1,nR (of_decide_eq_true h2)]
theorem rG {f:Vt→D}:∀{vs:List Vt} {v:Vt},v∈vs→oM (vs.map f9) (vs.map f) (f9 v)=some (f v)
 |a::vs,v,h=>by
  rw[map_cons,map_cons];unfold oM;by_cases e:a=v
  ·subst e;rw[if_pos rfl]
  ·rw[if_neg (fun z=>e (nR z))]
   rcases mem_cons.mp h with z|z
   ·exact absurd z.symm e
   ·exact rG z
theorem qI {f:Vt→D}{vs:List Vt}{v:Vt}(h:v∈vs):bR (.fdc (vs.map f9) (vs.map f)) (vD v)= .ok (f v):=by
 show iH (vs.map f9) (vs.map f) [.int (v.1:Int),.int (v.2:Int)]=_;unfold iH;rw[jC];dsimp only;rw[rG h]
theorem zV {f:Vt→D}{vs:List Vt}{v:Vt}(h:v∈vs):bR (.dct (vs.map f9) (vs.map f)) (vD v)= .ok (f v):=by
 show iH (vs.map f9) (vs.map f) [.int (v.1:Int),.int (v.2:Int)]=_;unfold iH;rw[jC];dsimp only;rw[rG h]
theorem oo {f:Vt→D}{vs:List Vt}{v:Vt}(h:v∉vs):jW (vs.map f9) (vs.map f) (f9 v) (f v)= .dct ((vs ++ [v]).map f9) ((vs ++ [v]).map f):=by
 unfold jW;rw[vn h];simp only[map_append,map_cons,map_nil]
noncomputable def cf (E:List (Vt×Vt×Int))(v:Vt):List (Vt×Int):=E.filterMap fun e=>if e.1=v then some e.2 else none
theorem kH {E F:List (Vt×Vt×Int)}{v:Vt}:cf (E ++ F) v=cf E v ++ cf F v:=List.filterMap_append ..
theorem rP {E:List (Vt×Vt×Int)}{v:Vt}(h:∀e∈E,e.1≠v):cf E v=[]:=by
 unfold cf;rw[List.filterMap_eq_nil_iff];intro e he;rw[if_neg (h e he)]
theorem oV {E:List (Vt×Vt×Int)}{v:Vt}:(cf E v).length≤E.length:=List.length_filterMap_le ..
theorem zQ {vs:List Vt}{E:List (Vt×Vt×Int)}{v:Vt}{u:Vt×Int}{m:Nat}(nd:vs.Nodup)(h:vs[m]?=some v):gS [m] (dW vs (cf E)) (.lst ((cf E v).map wD ++ [wD u]))=dW vs (cf (E ++ [(v,u)])):=by
 have hk:(vs.map (lW (cf E)))[m]?=some (lW (cf E) v):=by rw[getElem?_map,h];rfl
 unfold gS dW;simp only[e8,hk,qj,gS];congr 1;refine ext_getElem? fun i=>?_;rw[getElem?_set,getElem?_map];by_cases hi:m=i
 ·subst hi;have hl:m<(vs.map (lW (cf E))).length:=(jj hk).1;rw[if_pos rfl,if_pos hl,getElem?_map,h];show some _=some (lW (cf (E ++ [(v,u)])) v);unfold lW;rw[kH];have:cf [(v,u)] v=[u]:=by unfold cf;rw[List.filterMap_cons_some (b:=u) (by rw[if_pos rfl])];rfl
  rw[this,map_append];rfl
 ·rw[if_neg hi,getElem?_map];cases q:vs[i]? with
  |none=>rfl
  |some x=>
   show some (lW _ x)=some (lW _ x);have hx:x≠v:=fun z=>hi ((List.getElem?_inj (jj h).1 nd).mp (by rw[h,q,z]));have:cf [(v,u)] x=[]:=rP fun e he=>by rw[mem_singleton.mp he];exact fun z=>hx z.symm
   unfold lW;rw[kH,this,append_nil]
theorem AC {vs:List Vt}{W:Vt→List (Vt×Int)}{v:Vt}{m:Nat}(h:vs[m]?=some v):eN [m] (dW vs W)=some (.lst ((W v).map wD)):=by
 have hk:(vs.map (lW W))[m]?=some (lW W v):=by rw[getElem?_map,h];rfl
 unfold eN dW;simp only[e8,hk,eN];rfl
noncomputable def nz (rs:List Int)(k:Nat)(us:List (Nat×Nat)):List (Vt×Vt×Int):=us.map fun u=>((k,u.2),(k,u.1),rs.getD u.1 0)
noncomputable def r6 (rs:List Int)(qs:List Q):List (Vt×Vt×Int):=qs.flatMap fun q=>nz rs q.2 ((bb q.1).zip (bb q.1).tail)
noncomputable def nu (rs:List Int)(g:Int)(s:Nat)(us:List (Nat×Nat)):List (Vt×Vt×Int):=us.map fun u=>((u.2,s),(u.1,s),rs.getD s 0+g)
noncomputable def xh (rs:List Int)(g:Int)(os:List (List Nat×Nat)):List (Vt×Vt×Int):=os.flatMap fun o=>nu rs g o.2 (o.1.zip o.1.tail)
noncomputable def gc (qs:List Q):List Vt:=qs.flatMap fun q=>(bb q.1).map fun s=>(q.2,s)
theorem xf {α:Type}{l:List α}:l.zipIdx.Pairwise fun a b=>a.2≠b.2:=by
 have:(l.zipIdx.map Prod.snd).Nodup:=by rw[List.zipIdx_map_snd];exact List.nodup_range'
 rw[List.nodup_iff_pairwise_ne,pairwise_map]at this;exact this
theorem mf {α β:Type}{l:List α}{f:α×Nat→List β}{k:Nat}{x:α}(hx:l[k]?=some x)(h:∀q∈l.zipIdx,q.2≠k→f q=[]):l.zipIdx.flatMap f=f (x,k):=by
 obtain⟨a,b,e⟩:=List.append_of_mem (show (x,k)∈l.zipIdx from mem_zip.mpr hx);have pw:=xf (l:=l);rw[e]at pw h ⊢;obtain⟨_,p2,p3⟩:=List.pairwise_append.mp pw;have ha:a.flatMap f=[]:=List.flatMap_eq_nil_iff.mpr fun q hq=>h q (mem_append_left _ hq) (p3 q hq (x,k) (mem_cons_self ..));have hb:b.flatMap f=[]:=List.flatMap_eq_nil_iff.mpr fun q hq=>h q (mem_append_right _ (dQ hq)) (fun z=>(List.pairwise_cons.mp p2).1 q hq z.symm);rw[flatMap_append,flatMap_cons,ha,hb,List.nil_append,append_nil]
theorem rQ {rs:List Int}{g:Int}{ts:List Tr}{O:List (List Nat)}{v:Vt}(hv:v∈ar ts)(hs:v.2<O.length):cf (r6 rs ts.zipIdx ++ xh rs g O.zipIdx) v=ik rs g ts O v:=by
 obtain⟨t,ht,_⟩:=mem_visits.mp hv;rw[kH];unfold ik;congr 1
 ·unfold cf r6;rw[List.filterMap_flatMap,mf ht]
  ·unfold wP nz;rw[ht];dsimp only;rw[filterMap_map];congr 1;funext u;show (if (v.1,u.2)=v then _ else _)=_
   by_cases z:u.2=v.2
   ·rw[if_pos z,if_pos (show (v.1,u.2)=v from Prod.ext rfl z)]
   ·have hz:¬(v.1,u.2)=v:=fun y=>z (by have:=congrArg (fun x:Vt=>x.2) y;exact this);rw[if_neg z,if_neg hz]
  ·intro q _ hq;unfold nz;rw[filterMap_map,List.filterMap_eq_nil_iff];intro u _;show (if (q.2,u.2)=v then _ else _)=_
   rw[if_neg (show ¬(q.2,u.2)=v from fun y=>hq (congrArg Prod.fst y))]
 ·unfold cf xh;rw[List.filterMap_flatMap,mf (ki (d:=[]) hs)]
  ·unfold wO nu;rw[filterMap_map];congr 1;funext u;show (if (u.2,v.2)=v then _ else _)=_
   by_cases z:u.2=v.1
   ·rw[if_pos z,if_pos (show (u.2,v.2)=v from Prod.ext z rfl)]
   ·rw[if_neg z,if_neg (show ¬(u.2,v.2)=v from fun y=>z (congrArg Prod.fst y))]
  ·intro q _ hq;unfold nu;rw[filterMap_map,List.filterMap_eq_nil_iff];intro u _;show (if (u.2,q.2)=v then _ else _)=_
   rw[if_neg (show ¬(u.2,q.2)=v from fun y=>hq (congrArg Prod.snd y))]
section
variable{K:W.Frag}{CL:Addr}{Y:Ad}
noncomputable def eO (ts:List Tr)(s:Nat):List Nat:=(ts.zipIdx.filter fun q=>decide (s∈bb q.1)).map fun q=>q.2
theorem going_mem {ts:List Tr}{s k:Nat}:k∈eO ts s↔(k,s)∈ar ts:=by
 unfold eO;rw[mem_map,mem_visits];constructor
 ·intro hZ33;obtain⟨q,hq,rfl⟩:=hZ33;obtain⟨h1,h2⟩:=mem_filter.mp hq;exact⟨q.1,mem_zip.mp h1,of_decide_eq_true h2⟩
 ·intro hZ34;obtain⟨t,ht,h⟩:=hZ34;exact⟨(t,k),mem_filter.mpr ⟨mem_zip.mpr ht,decide_eq_true h⟩,rfl⟩
theorem going_lt {ts:List Tr}{s:Nat}:(eO ts s).Pairwise (· < ·):=by
 unfold eO;have h:(ts.zipIdx.map Prod.snd).Pairwise (· < ·):=by rw[List.zipIdx_map_snd];exact List.pairwise_lt_range'
 exact h.sublist (List.filter_sublist.map _)
theorem rz {n:Nat}{ts:List Tr}{O:List (List Nat)}(H:Ords n ts O){s:Nat}(hs:s<n)(h5:ts.length≤5):jI [.lst (aB (O.getD s []))]= .ok (.lst (aB (eO ts s))):=by
 have hl:(O.getD s []).length≤ts.length:=by
  have:=cw (vs:=List.range ts.length) (H.nd s) fun k hk=>by
   obtain⟨t,ht,_⟩:=mem_visits.mp ((H.mem s k hs).mp hk);exact mem_range.mpr (jj ht).1
  rwa[length_range]at this
 have e1:aB (O.getD s [])=((O.getD s []).map fun (k:Nat)=>(k:Int)).map D.int:=by unfold aB;rw[map_map];rfl
 have e2:aB (eO ts s)=((eO ts s).map fun (k:Nat)=>(k:Int)).map D.int:=by unfold aB;rw[map_map];rfl
 unfold jI;dsimp only;rw[e1,d9];dsimp only;rw[if_pos (by rw[length_map];omega),e2];congr 3;refine kJ ((jJ _).trans (List.Perm.map _ ?_)) (qn _) ?_
 ·exact(List.perm_ext_iff_of_nodup (H.nd s) (going_lt.imp fun {a b} h=>by omega)).mpr fun k=>(H.mem s k hs).trans going_mem.symm
 ·rw[pairwise_map];exact going_lt.imp fun {a b} h=>by omega
theorem kN {n:Nat}{ts:List Tr}{O:List (List Nat)}(H:Ords n ts O)(hn:n≤1000)(h5:ts.length≤5)(hw:∀t∈ts,(bb t).length≤1000):aL K CL Y [.int (n:Int),.lst (ts.map aC),bo O]= .ok .non:=by
 unfold aL;refine(aU rfl).trans ?_;have e0:au bB [.int (n:Int),.lst (ts.map aC),bo O]=[some (.int (n:Int)),some (.lst (ts.map aC)),some (bo O),none,none,none]:=rfl;rw[e0];unfold bA bo;simp only[aP,iK,H.len];obtain⟨ρ',h1,_⟩:=on (xs:=O.zipIdx) (c:=fun q:List Nat×Nat=>D.tup [.int (q.2:Int),.lst (aB q.1)]) (asg:=dZ 3 4) (F:=az (aN 5 (a9 (sE (pC (ac 1) pN)) [none,none,some 3] (dZ 0 1) (f7 (aj (ac 2) (ac 1) (qx false))) (ac 0))) (gy (f7 (aj (c1 (ac 4) jI) (ac 5) vG)) bad1 nxt)) (P:=fun _=>True)
  (ρ:=[some (.int (n:Int)),some (.lst (ts.map aC)),some (.lst (O.map fun o=>.lst (aB o))),none,none,none])
  (fun _ ρ=>∃o3 o4 o5,ρ=[some (.int (n:Int)),some (.lst (ts.map aC)),some (.lst (O.map fun o=>.lst (aB o))),o3,o4,o5]) ⟨_,_,_,rfl⟩ (fun pre q post exs ρ hZ173=>by
   obtain⟨o3,o4,o5,e⟩:=hZ173;subst e;refine⟨_,rfl,?_⟩;have hq:q∈O.zipIdx:=by rw[exs];simp
   have hz:=mem_zip.mp hq;have hs:q.2<n:=by rw[←H.len];exact(jj hz).1
   have e1:O.getD q.2 []=q.1:=by rw[getD_eq_getElem?_getD,hz];rfl
   have srt:=rz H hs h5;rw[e1]at srt;have cg:a9 (sE (pC (ac 1) pN)) [none,none,some 3] (dZ 0 1) (f7 (aj (ac 2) (ac 1) (qx false))) (ac 0) [some (.int (n:Int)),some (.lst (ts.map aC)),some (.lst (O.map fun o=>.lst (aB o))),some (.int (q.2:Int)),some (.lst (aB q.1)),o5]= .ok (.lst (aB (eO ts q.2))):=by
    rw[iJ (xs:=ts.zipIdx) (c:=fun u:Q=>D.tup [.int (u.2:Int),aC u.1]) (p:=fun u=>decide (q.2∈bb u.1)) (g:=fun u=>D.int (u.2:Int)) (by simp only[aP,iK]) (by rw[length_zipIdx];omega) (fun u hu=>⟨_,rfl,?_,fun _=>?_⟩)]
    ·unfold eO aB;rw[map_map];rfl
    ·have:=DU (w:=bb u.1) (s:=q.2);show f7 (aj (ac 2) (ac 1) (qx false)) [some (.int (u.2:Int)),some (.lst (aB (bb u.1))),some (.int (q.2:Int))]=_;simp only[aP,this]
    ·rfl
   simp only[aP,cg,srt,yn (d:=.lst (aB (eO ts q.2))) (wj fun _ _=>lv)];exact⟨_,rfl,_,_,_,rfl⟩) (fun _ _=>trivial)
 rw[h1];rfl
end
set_option maxHeartbeats 1000000
section
variable{K:W.Frag}{CL:Addr}{Y:Ad}
theorem oW {vs:List Vt}{E:List (Vt×Vt×Int)}{v:Vt}{u:Vt×Int}{ρ:DS}{fi f:DS→Res D}(nd:vs.Nodup)(hv:v∈vs)(hE:E.length≤100000)(h:ρ[5]?=some (some (dW vs (cf E))))(hi:fi ρ= .ok (vD v))(hf:f ρ= .ok (wD u)):m5 5 1 (xt 5 0 (s0 5) fi) f ρ= .nx (ρ.set 5 (some (dW vs (cf (E ++ [(v,u)]))))):=by
 obtain⟨m,h1,h2⟩:=tP hv;have key:=(xJ (g:=xt 5 0 (s0 5) fi) (f:=f) (j:=5) (n:=1) (p:=[m]) (t:=dW vs (cf E)) (rows:=(cf E v).map wD) (Ac (p:=[]) (n:=0) (kd:=[.int (v.1:Int),.int (v.2:Int)]) (k:=f9 v) (t:=dW vs (cf E)) (m:=m) (ks:=vs.map f9) (l:=vs.map (lW (cf E))) (uO h) rfl hi jC h rfl h1) hf rfl h (AC h2) (by rw[length_map];exact le_trans oV hE));rw[zQ nd h2]at key;exact key
theorem uL {vs:List Vt}{W:Vt→List (Vt×Int)}{v:Vt}{ρ:DS}{fi f:DS→Res D}(hv:v∉vs)(hW:W v=[])(hl:vs.length≤100000)(h:ρ[5]?=some (some (dW vs W)))(hi:fi ρ= .ok (vD v))(hf:f ρ= .ok (.lst [])):ic 5 fi f ρ= .nx (ρ.set 5 (some (dW (vs ++ [v]) W))):=by
 have e:(D.lst []:D)=lW W v:=by unfold lW;rw[hW];rfl
 rw[e]at hf;rw[nA (ks:=vs.map f9) (l:=vs.map (lW W)) (k:=f9 v) (kd:=[.int (v.1:Int),.int (v.2:Int)]) h hf hi jC (by rw[length_map];exact hl),oo hv];rfl
noncomputable abbrev rW (CL:Addr)(rs:List Int)(g:Int)(ts:List Tr)(O:List (List Nat))(d:D)(o6 o7 o8 o9 o10 o11:Option D):DS:=[some (aq CL rs g),some (.lst (ts.map aC)),some (bo O),some (.lst (rs.map D.int)),some (.int g),some d,o6,o7,o8,o9,o10,o11]
theorem kg {rs:List Int}:∀{qs:List Q},(∀q∈qs,(bb q.1).length≤5)→(r6 rs qs).length≤5*qs.length
 | [],_=>le_refl _
 |q::qs,h=>by
  have ih:=kg (rs:=rs) (qs:=qs) fun u hu=>h u (dQ hu);have h1:=h q (mem_cons_self ..);unfold r6 at ih ⊢;rw[flatMap_cons,length_append,length_cons];have:(nz rs q.2 ((bb q.1).zip (bb q.1).tail)).length≤5:=by
   unfold nz;rw[length_map,length_zip];omega
  omega
theorem ny {rs:List Int}{g:Int}:∀{os:List (List Nat×Nat)},(∀o∈os,o.1.length≤5)→(xh rs g os).length≤5*os.length
 | [],_=>le_refl _
 |q::qs,h=>by
  have ih:=ny (rs:=rs) (g:=g) (os:=qs) fun u hu=>h u (dQ hu);have h1:=h q (mem_cons_self ..);unfold xh at ih ⊢;rw[flatMap_cons,length_append,length_cons];have:(nu rs g q.2 (q.1.zip q.1.tail)).length≤5:=by
   unfold nu;rw[length_map,length_zip];omega
  omega
theorem lG:∀{qs:List Q},(∀q∈qs,(bb q.1).length≤5)→(gc qs).length≤5*qs.length
 | [],_=>le_refl _
 |q::qs,h=>by
  have ih:=lG (qs:=qs) fun u hu=>h u (dQ hu);have h1:=h q (mem_cons_self ..);unfold gc at ih ⊢;rw[flatMap_cons,length_append,length_cons,length_map];omega
theorem visQ_mem {qs:List Q}{v:Vt}:v∈gc qs↔∃q∈qs,q.2=v.1∧v.2∈bb q.1:=by
 unfold gc;rw[mem_flatMap];constructor
 ·intro hZ35;obtain⟨q,hq,h⟩:=hZ35;obtain⟨s,hs,rfl⟩:=mem_map.mp h;exact⟨q,hq,rfl,hs⟩
 ·intro hZ36;obtain⟨q,hq,h1,h2⟩:=hZ36;exact⟨q,hq,mem_map.mpr ⟨v.2,h2,by rw[h1]⟩⟩
theorem xa {ts:List Tr}{pre post:List Q}(e:ts.zipIdx=pre ++ post):(gc pre).Nodup:=by
 have:ar ts=gc pre ++ gc post:=by unfold ar gc;rw[e,flatMap_append]
 have h:=bP (ts:=ts);rw[this]at h;exact(nodup_append.mp h).1
theorem sv {n:Nat}{ts:List Tr}{O:List (List Nat)}(H:Ords n ts O){s:Nat}(hs:s<n):(O.getD s []).length≤ts.length:=by
 have:=cw (vs:=List.range ts.length) (H.nd s) fun k hk=>by
  obtain⟨t,ht,_⟩:=mem_visits.mp ((H.mem s k hs).mp hk);exact mem_range.mpr (jj ht).1
 rwa[length_range]at this
theorem rJ {rs:List Int}{g:Int}{ts:List Tr}{O:List (List Nat)}(C:Ctx rs g ts)(H:Ords rs.length ts O):aQ K CL Y [aq CL rs g,.lst (ts.map aC),bo O]= .ok (dW (ar ts) (ik rs g ts O)):=by
 have h5:∀q∈ts.zipIdx,(bb q.1).length≤5:=fun q hq=>by
  have:=jh (C.good hq);have:=C.ln.few;omega
 have hn5:=C.ln.few;have ht5:=C.few;have hck:aL K CL Y [.int (rs.length:Int),.lst (ts.map aC),bo O]= .ok .non:=kN H (by omega) C.few fun t ht=>by
  have:=jh (C.tr t ht);omega
 unfold aQ;refine(aU rfl).trans ?_;have e0:au fw [aq CL rs g,.lst (ts.map aC),bo O]=[some (aq CL rs g),some (.lst (ts.map aC)),some (bo O),none,none,none,none,none,none,none,none,none]:=rfl;rw[e0];unfold dA;simp only[aP,Cf,DN,kQ,fj,hck,iK];refine gM (fun pre k=>∃p m j a X Z,k=rW CL rs g ts O (dW (gc pre) (cf (r6 rs pre))) p m j a X Z) ⟨none,none,none,none,none,none,rfl⟩ (fun pre q post b k hZ174=>?_) (fun P hZ175=>?_)
 ·obtain⟨p,m,j,a,X,Z,e⟩:=hZ174;subst e;refine⟨_,rfl,?_⟩;have hq:q∈ts.zipIdx:=by rw[b];simp
  have hsub:∀u∈pre,u∈ts.zipIdx:=fun u i=>by rw[b];exact mem_append_left _ i
  have hne:∀u∈pre,u.2≠q.2:=fun u i=>by
   have pw:=xf (l:=ts);rw[b]at pw;exact(List.pairwise_append.mp pw).2.2 u i q (mem_cons_self ..)
  have hpl:pre.length≤5:=by
   have:=congrArg List.length b;rw[length_zipIdx,length_append]at this;omega
  have hEl:(r6 rs pre).length≤25:=by
   have:=kg (rs:=rs) (qs:=pre) fun u i=>h5 u (hsub u i);omega
  have hVl:(gc pre).length≤25:=by
   have:=lG (qs:=pre) fun u i=>h5 u (hsub u i);omega
  have hEne:∀e∈r6 rs pre,e.1.1≠q.2:=fun e he=>by
   obtain⟨u,i,h⟩:=mem_flatMap.mp he;obtain⟨x,_,rfl⟩:=mem_map.mp h;exact hne u i
  have hw5:=h5 q hq;have hzp:qu [aC q.1,.lst (aB (bb q.1)).tail]= .ok (((bb q.1).zip (bb q.1).tail).map fun u=>.tup [.int (u.1:Int),.int (u.2:Int)]):=by
   unfold aC aB;rw[←List.map_tail];exact uZ
  have hcut:iB (some 1) none (aC q.1)= .ok (.lst (aB (bb q.1)).tail):=pf;have hseq:y7 (aC q.1)= .ok ((bb q.1).map fun (s:Nat)=>D.int (s:Int)):=rfl;simp only[aP,hseq];refine uj (c:=fun (s:Nat)=>D.int (s:Int)) (xs:=bb q.1) (fun ps k=>∃j a X Z,k=rW CL rs g ts O (dW (gc pre ++ ps.map fun s=>(q.2,s)) (cf (r6 rs pre))) (some (.int (q.2:Int))) (some (aC q.1)) j a X Z) ⟨j,a,X,Z,by rw[map_nil,append_nil]⟩ (fun ps s po f k hZ176=>?_) (fun P hZ177=>?_)
  ·obtain⟨j,a,X,Z,e⟩:=hZ176;subst e;refine⟨_,rfl,?_⟩;have nv:(q.2,s)∉gc pre ++ ps.map fun s=>(q.2,s):=fun z=>by
    rcases mem_append.mp z with y|y
    ·obtain⟨u,i,h1,_⟩:=visQ_mem.mp y;exact hne u i h1
    ·obtain⟨s',hs',e⟩:=mem_map.mp y;have e:=(Prod.mk.inj e).2;subst e;have nd:=lH (t:=q.1);rw[f]at nd;exact(nodup_append.mp nd).2.2 s' hs' s' (mem_cons_self ..) rfl
   have hpsl:ps.length≤5:=by
    have:=congrArg List.length f;rw[length_append]at this;omega
   refine⟨_,uL (v:=(q.2,s)) nv (rP fun e he z=>hEne e he (congrArg Prod.fst z)) (by rw[length_append,length_map];omega) rfl (by simp only[aP];rfl) (by simp only[aP]),some (.int (s:Int)),a,X,Z,?_⟩;rw[map_append,←append_assoc];rfl
  ·obtain⟨j,a,X,Z,e⟩:=hZ177;subst e;simp only[aP,hcut,hzp];have ndv:(gc pre ++ (bb q.1).map fun s=>(q.2,s)).Nodup:=by
    have:=xa (pre:=pre ++ [q]) (post:=post) (by rw[b];simp);unfold gc at this;rw[flatMap_append,flatMap_singleton]at this;exact this
   refine on (fun us k=>∃a X,k=rW CL rs g ts O (dW (gc pre ++ (bb q.1).map fun s=>(q.2,s)) (cf (r6 rs pre ++ nz rs q.2 us))) (some (.int (q.2:Int))) (some (aC q.1)) j a X Z) ⟨a,X,by unfold nz;rw[map_nil,append_nil]⟩ (fun us u po f k hZ178=>?_) (fun P hZ179=>?_)
   ·obtain⟨a,X,e⟩:=hZ178;subst e;refine⟨_,rfl,?_⟩;have i:u∈(bb q.1).zip (bb q.1).tail:=by rw[f];simp
    have n:=dm i;have hlt:u.1<rs.length:=h_ (C.good hq) _ n.1;have y0:=k_ (g:=D.int) (ki (d:=0) hlt);have hul:us.length≤5:=by
     have:=congrArg List.length f;rw[length_append,length_zip]at this;omega
    refine⟨_,oW (v:=(q.2,u.2)) (u:=((q.2,u.1),rs.getD u.1 0)) ndv (mem_append_right _ (mem_map.mpr ⟨u.2,n.2,rfl⟩)) (by unfold nz;rw[length_append,length_map];omega) rfl (by simp only[aP];rfl) (by simp only[aP,y0];rfl),some (.int (u.1:Int)),some (.int (u.2:Int)),?_⟩;unfold nz;rw[map_append,←append_assoc];rfl
   ·obtain⟨a,X,e⟩:=hZ179;refine⟨some (.int (q.2:Int)),some (aC q.1),j,a,X,Z,?_⟩;rw[e];unfold gc r6;rw[flatMap_append,flatMap_singleton,flatMap_append,flatMap_singleton]
 ·obtain⟨p,m,j,a,X,Z,e⟩:=hZ175;subst e;have hv0:gc ts.zipIdx=ar ts:=rfl;rw[hv0];unfold rW bo;simp only[aP,iK];have hEl:(r6 rs ts.zipIdx).length≤25:=by
   have:=kg (rs:=rs) (qs:=ts.zipIdx) h5;rw[length_zipIdx]at this;omega
  have hO5:∀o∈O.zipIdx,o.1.length≤5:=fun o ho=>by
   have n:=mem_zip.mp ho;have hs:o.2<rs.length:=by rw[←H.len];exact(jj n).1
   have:=sv H hs;have e1:O.getD o.2 []=o.1:=by rw[getD_eq_getElem?_getD,n];rfl
   rw[e1]at this;omega
  refine gM (c:=fun o:List Nat×Nat=>D.tup [.int (o.2:Int),.lst (aB o.1)]) (xs:=O.zipIdx) (fun pre k=>∃p m j a X Z,k=rW CL rs g ts O (dW (ar ts) (cf (r6 rs ts.zipIdx ++ xh rs g pre))) p m j a X Z) ⟨p,m,j,a,X,Z,by unfold xh;rw[List.flatMap_nil,append_nil];rfl⟩ (fun pre q post b k hZ180=>?_) (fun P hZ181=>?_)
  ·obtain⟨p,m,j,a,X,Z,e⟩:=hZ180;subst e;refine⟨_,rfl,?_⟩;have hq:q∈O.zipIdx:=by rw[b];simp
   have n:=mem_zip.mp hq;have hs:q.2<rs.length:=by rw[←H.len];exact(jj n).1
   have e1:O.getD q.2 []=q.1:=by rw[getD_eq_getElem?_getD,n];rfl
   have y0:=k_ (g:=D.int) (ki (d:=0) hs);have hpl:pre.length≤5:=by
    have:=congrArg List.length b;rw[length_zipIdx,length_append,H.len]at this;omega
   have hOl:(xh rs g pre).length≤25:=by
    have:=ny (rs:=rs) (g:=g) (os:=pre) fun u i=>hO5 u (by rw[b];exact mem_append_left _ i);omega
   have hzp:qu [.lst (aB q.1),.lst (aB q.1).tail]= .ok ((q.1.zip q.1.tail).map fun u=>.tup [.int (u.1:Int),.int (u.2:Int)]):=by
    unfold aB;rw[←List.map_tail];exact uZ
   simp only[aP,pf,hzp];refine on (fun us k=>∃a X,k=rW CL rs g ts O (dW (ar ts) (cf (r6 rs ts.zipIdx ++ xh rs g pre ++ nu rs g q.2 us))) p m (some (.int (q.2:Int))) a X (some (.lst (aB q.1)))) ⟨a,X,by unfold nu;rw[map_nil,append_nil]⟩ (fun us u po f k hZ182=>?_) (fun P hZ183=>?_)
   ·obtain⟨a,X,e⟩:=hZ182;subst e;refine⟨_,rfl,?_⟩;have i:u∈q.1.zip q.1.tail:=by rw[f];simp
    have n:=dm i;have hul:us.length≤5:=by
     have:=congrArg List.length f;have:=hO5 q hq;rw[length_append,length_zip]at *;omega
    have hv:(u.2,q.2)∈ar ts:=(H.mem q.2 u.2 hs).mp (by rw[e1];exact n.2);refine⟨_,oW (v:=(u.2,q.2)) (u:=((u.1,q.2),rs.getD q.2 0+g)) bP hv (by unfold nu;rw[length_append,length_append,length_map];omega) rfl (by simp only[aP];rfl) (by simp only[aP,y0];rfl),some (.int (u.1:Int)),some (.int (u.2:Int)),?_⟩;unfold nu;rw[map_append,←append_assoc];rfl
   ·obtain⟨a,X,e⟩:=hZ183;refine⟨p,m,some (.int (q.2:Int)),a,X,some (.lst (aB q.1)),?_⟩;rw[e];unfold xh;rw[flatMap_append,flatMap_singleton,←append_assoc]
  ·obtain⟨p,m,j,a,X,Z,e⟩:=hZ181;subst e;simp only[aP];unfold dW;congr 2;refine map_congr_left fun v hv=>?_;obtain⟨t,ht,h2⟩:=mem_visits.mp hv;unfold lW;rw[rQ hv (by rw[H.len];exact h_ (C.tr t (mem_of_getElem? ht)) _ h2)]
end
set_option maxHeartbeats 1000000
theorem B1 {a b:Vt}:br (vD a) (vD b)=decide (a=b):=by
 unfold vD br eqBL;rw[ke];unfold eqBL;rw[ke];unfold eqBL;rw[Bool.and_true];by_cases h:a=b
 ·subst h;simp
 ·rw[decide_eq_false h];cases q:decide (a.1=b.1) with
  |false=>rfl
  |true=>
   rw[Bool.true_and];exact decide_eq_false fun z=>h (Prod.ext (of_decide_eq_true q) z)
theorem CO {v:Vt}:aJ 19 (vD v)=true:=by
 unfold vD aJ plL plL plL;rw[lv,lv];rfl
theorem CN {t:List Vt}:plL 19 (t.map vD)=true:=ko t fun _ _=>CO
theorem n_ {t:List Vt}{v:Vt}:qx true (vD v) (.lst (t.map vD))= .ok (.bl (!t.contains v)):=by
 unfold qx;dsimp only;rw[if_pos ⟨CN,CO⟩,if_pos rfl,any_map];congr 3;rw[List.contains_eq_any_beq];congr 1;funext x;show br (vD x) (vD v)=_;rw[B1];by_cases h:x=v
 ·subst h;simp
 ·rw[decide_eq_false h];exact(beq_eq_false_iff_ne.mpr fun z=>h z.symm).symm
section
variable{K:W.Frag}{CL:Addr}{Y:Ad}{vs:List Vt}{W:Vt→List (Vt×Int)}
theorem vk {u:Vt×Int}:bG (wD u) (.int 0)= .ok (vD u.1):=iu rfl
theorem Cg {u:Vt×Int}:bG (wD u) (.int 1)= .ok (.int u.2):=iu rfl
theorem tM {t:List Vt}{v:Vt}(hv:v∈vs)(hl:(W v).length≤100000):dn K CL Y [fW vs W,.lst (t.map vD),vD v]= .ok (.lst (((W v).filter fun u=> !t.contains u.1).map fun u=>vD u.1)):=by
 unfold dn;refine(aU rfl).trans ?_;have e0:au gY [fW vs W,.lst (t.map vD),vD v]=[some (fW vs W),some (.lst (t.map vD)),some (vD v)]:=rfl;rw[e0];unfold gW;have hg:bR (fW vs W) (vD v)= .ok (lW W v):=qI hv;rw[qM,iJ (xs:=W v) (c:=wD) (p:=fun u=> !t.contains u.1) (g:=fun u=>vD u.1) (by simp only[aP,hg];rfl) hl (fun u hu=>⟨_,rfl,?_,fun _=>?_⟩)]
 ·rfl
 ·show f7 (aj (aj (ac 0) (kI 0) bG) (ac 1) (qx true)) [some (wD u),some (.lst (t.map vD))]=_;simp only[aP,vk,n_]
 ·show aj (ac 0) (kI 0) bG [some (wD u),some (.lst (t.map vD))]=_;simp only[aP,vk]
theorem u8 {t:List Vt}(hl:vs.length≤100000)(hw:∀v∈vs,(W v).length≤100000):et K CL Y [fW vs W,.lst (t.map vD)]= .ok (.lst ((bt vs W t).map vD)):=by
 unfold et;refine(aU rfl).trans ?_;have e0:au j_ [fW vs W,.lst (t.map vD)]=[some (fW vs W),some (.lst (t.map vD))]:=rfl;rw[e0];unfold jZ;have hk:mq (fW vs W)= .ok (vs.map vD):=by
  show Res.ok ((vs.map f9).map vp)=_;rw[map_map];rfl
 rw[qM,iJ (xs:=vs) (c:=vD) (p:=fun v=> !t.contains v&&((W v).all fun u=>t.contains u.1)) (g:=vD) (by show (mq (fW vs W))=_;exact hk) hl (fun v hv=>⟨_,rfl,?_,fun _=>?_⟩)]
 ·rfl
 ·show xq (f7 (aj (ac 0) (ac 1) (qx true))) (jV (tR (bn (pC (ac 2) (pC (ac 1) (pC (ac 0) pN))) (dn K CL Y)))) [some (vD v),some (.lst (t.map vD)),some (fW vs W)]=_;have hh:=tM (K:=K) (CL:=CL) (Y:=Y) (t:=t) hv (hw v hv);cases q:t.contains v with
  |true=>simp only[aP,n_,q]
  |false=>
   simp only[aP,n_,q,hh,nH];congr 1;rw[Bool.not_not];cases y:(W v).all fun u=>t.contains u.1 with
   |true=>
    rw[List.filter_eq_nil_iff.mpr fun u hu=>by rw[all_eq_true]at y;rw[y u hu];exact Bool.false_ne_true];rfl
   |false=>
    cases z:(W v).filter fun u=> !t.contains u.1 with
    |cons a b=>rfl
    |nil=>
     rw[List.filter_eq_nil_iff]at z;have:((W v).all fun u=>t.contains u.1)=true:=all_eq_true.mpr fun u hu=>by simpa using z u hu
     rw[this]at y;cases y
 ·rfl
theorem vy {t:List Vt}:f_ 1 (.lst (t.map vD))=true:=by
 have:=tV (l:=t.map fun v=>[(v.1:Int),(v.2:Int)]);rw[map_map]at this;exact this
theorem vb (hv:vs.Nodup)(hl:vs.length≤39)(hw:∀v∈vs,(W v).length≤100000):dq K CL Y [fW vs W]= .ok (.lst ((cZ vs W 40 []).map vD)):=by
 have ex:∀t:List Vt,et K CL Y [fW vs W,.lst (t.map vD)]= .ok (.lst ((bt vs W t).map vD)):=fun t=>u8 (by omega) hw;unfold dq;refine(aU rfl).trans ?_;have e0:au jm [fW vs W]=[some (fW vs W),none,none]:=rfl;rw[e0];unfold gX;have h0:=ex [];rw[map_nil]at h0;simp only[aP,h0,vy];refine qr (fun n ρ=>∃t,ρ=[some (fW vs W),some (.lst (t.map vD)),some (.lst ((bt vs W t).map vD))]∧Turn vs W t∧vs.length≤n+t.length∧cZ vs W (n+1) t=cZ vs W 40 []) (fun ρ=>ρ=[some (fW vs W),some (.lst ((cZ vs W 40 []).map vD)),some (.lst [])]) 39 (by omega) ⟨[],rfl,qo,by omega,rfl⟩ (fun n ρ hZ184=>?_) (fun ρ' e=>?_)
 ·obtain⟨t,e,T,hn,hr⟩:=hZ184;subst e;by_cases h:bt vs W t=[]
  ·refine .inl ⟨?_,?_⟩
   ·rw[h];simp only[aP,nH];rfl
   ·rw[h];have e3:cZ vs W (n+1) t=t:=by
     unfold cZ;rw[if_pos h]
    rw[←hr,e3];rfl
  ·have T2:=mM hv T;have l2:=cw T2.nd T2.sub;rw[length_append]at l2;have lp:=length_pos_iff.mpr h;cases n with
   |zero=>omega
   |succ m=>
    refine .inr ⟨?_,m,[some (fW vs W),some (.lst ((t ++ bt vs W t).map vD)),some (.lst ((bt vs W (t ++ bt vs W t)).map vD))],rfl,?_,t ++ bt vs W t,rfl,T2,by rw[length_append];omega,?_⟩
    ·cases q:bt vs W t with
     |nil=>exact absurd q h
     |cons a b=>simp only[aP,nH];rfl
    ·show (az (nI 1 0 (s0 1) (k8 dS (ac 2))) (aN 2 (AQ 1 (bn (pC (ac 0) (pC (ac 1) pN)) (et K CL Y))))) _=_;have e1:nI 1 0 (s0 1) (k8 dS (ac 2)) [some (fW vs W),some (.lst (t.map vD)),some (.lst ((bt vs W t).map vD))]= .nx [some (fW vs W),some (.lst ((t ++ bt vs W t).map vD)),some (.lst ((bt vs W t).map vD))]:=by
      rw[xL (j:=1) (n:=0) (p:=[]) (t:=.lst (t.map vD)) (g:=s0 1) (rows:=t.map vD) (l:=(bt vs W t).map vD) (uO rfl) (by simp only[aP]) rfl rfl rfl (by rw[length_map,length_map];omega),map_append];rfl
     rw[qN,e1];simp only[aP,ex (t ++ bt vs W t),vy]
    ·rw[←hr]
     conv=>rhs;unfold cZ
     rw[if_neg h]
 ·subst e;simp only[aP]
theorem AU {a:Int}{ns:List Int}:fM (a::ns)=uw a ns:=by
 have h:=e_ (ns:=a::ns) (by simp);exact(AT (h.2 a (mem_cons_self ..)) (fun e he=>h.2 e (dQ he)) (mem_cons.mp h.1)).symm
noncomputable def dE (t:List Vt)(f:Vt→Int):D:=.dct (t.map f9) (t.map fun v=>.int (f v))
theorem lc {ts:List Tr}{t:List Vt}(T:Turn (ar ts) W t)(hl:(ar ts).length≤39)(hw:∀v∈ar ts,(W v).length≤1000):aZ K CL Y [.lst (ts.map bQ),fW (ar ts) W,.lst (t.map vD)]= .ok (dE t (fk W (iD ts) t)):=by
 unfold aZ;refine(aU rfl).trans ?_;have e0:au cp [.lst (ts.map bQ),fW (ar ts) W,.lst (t.map vD)]=[some (.lst (ts.map bQ)),some (fW (ar ts) W),some (.lst (t.map vD)),none,none,none]:=rfl;rw[e0];unfold cm;simp only[aP];refine gM (fun pre ρ=>∃o4 o5,ρ=[some (.lst (ts.map bQ)),some (fW (ar ts) W),some (.lst (t.map vD)),some (dE pre (fk W (iD ts) pre)),o4,o5]) ⟨none,none,rfl⟩ (fun pre v post a ρ hZ185=>?_) (fun ρ' hZ186=>?_)
 ·obtain⟨o4,o5,e⟩:=hZ185;subst e;have hvt:v∈t:=by rw[a];simp
  have hv:=T.sub v hvt;obtain⟨tr,ht,hs⟩:=mem_visits.mp hv;have nv:v∉pre:=fun z=>by
   have nd:=T.nd;rw[a]at nd;exact(nodup_append.mp nd).2.2 v z v (mem_cons_self ..) rfl
  have hpl:pre.length≤39:=by
   have:=cw T.nd T.sub;have:=congrArg List.length a;rw[length_append]at this;omega
  have hix:=k_ (g:=bQ) ht;have e2:bG (bQ tr) (.int 2)= .ok (.int tr.2.2):=uX;have er:iD ts v=tr.2.2:=by unfold iD;rw[ht]
  have iv0:bG (vD v) (.int 0)= .ok (.int (v.1:Int)):=iu rfl;have hg:bR (fW (ar ts) W) (vD v)= .ok (lW W v):=qI hv;refine⟨_,rfl,?_⟩;simp only[aP,iv0,hix,e2];have cg:a9 (sL (aj (ac 1) (ac 4) bR)) [none,some 3] (b8 0) yes (aj (aj (ac 1) (aj (ac 0) (kI 0) bG) bR) (aj (ac 0) (kI 1) bG) bg) [some (.lst (ts.map bQ)),some (fW (ar ts) W),some (.lst (t.map vD)),some (dE pre (fk W (iD ts) pre)),some (vD v),some (.int tr.2.2)]= .ok (.lst ((W v).map fun u=>D.int (fk W (iD ts) pre u.1+u.2))):=by
   refine eZ (xs:=W v) (c:=wD) (g:=fun u=>D.int (fk W (iD ts) pre u.1+u.2)) (by simp only[aP,hg];rfl) (le_trans (hw v hv) (by decide)) (fun u hu=>⟨_,rfl,?_⟩);have hp:u.1∈pre:=T.top pre v post a u hu;have hgu:bR (dE pre (fk W (iD ts) pre)) (vD u.1)= .ok (.int (fk W (iD ts) pre u.1)):=zV hp;show aj (aj (ac 1) (aj (ac 0) (kI 0) bG) bR) (aj (ac 0) (kI 1) bG) bg [some (wD u),some (dE pre (fk W (iD ts) pre))]=_;simp only[aP,vk,Cg,hgu,pq]
  have val:(AQ 0 (c1 (aj (bT (pC (ac 5) pN)) (a9 (sL (aj (ac 1) (ac 4) bR)) [none,some 3] (b8 0) yes (aj (aj (ac 1) (aj (ac 0) (kI 0) bG) bR) (aj (ac 0) (kI 1) bG) bg)) bg) nZ)) [some (.lst (ts.map bQ)),some (fW (ar ts) W),some (.lst (t.map vD)),some (dE pre (fk W (iD ts) pre)),some (vD v),some (.int tr.2.2)]= .ok (.int (fk W (iD ts) (pre ++ [v]) v)):=by
   have ea:bg (.lst [.int tr.2.2]) (.lst ((W v).map fun u=>D.int (fk W (iD ts) pre u.1+u.2)))= .ok (.lst ((tr.2.2::(W v).map fun u=>fk W (iD ts) pre u.1+u.2).map D.int)):=by
    have:=hw v hv;rw[dM (dP (by rw[length_map,List.length_singleton];omega)),map_cons,map_map];rfl
   simp only[aP,cg,ea,vE,AU,uS];rw[lb];unfold zy;rw[if_pos rfl,er]
  refine⟨_,nA (ks:=pre.map f9) (l:=pre.map fun v=>.int (fk W (iD ts) pre v)) (k:=f9 v) (kd:=[.int (v.1:Int),.int (v.2:Int)]) rfl val (by simp only[aP];rfl) jC (by rw[length_map];omega),some (vD v),some (.int tr.2.2),?_⟩;have ep:jW (pre.map f9) (pre.map fun v=>.int (fk W (iD ts) pre v)) (f9 v) (.int (fk W (iD ts) (pre ++ [v]) v))=dE (pre ++ [v]) (fk W (iD ts) (pre ++ [v])):=by
   have:(pre.map fun v=>D.int (fk W (iD ts) pre v))=pre.map fun x=>D.int (fk W (iD ts) (pre ++ [v]) x):=map_congr_left fun x hx=>by
    rw[lb];unfold zy;rw[if_neg (fun (z:x=v)=>nv (z ▸ hx))]
   rw[this];exact oo (f:=fun x=>D.int (fk W (iD ts) (pre ++ [v]) x)) nv
  rw[ep];rfl
 ·obtain⟨o4,o5,e⟩:=hZ186;subst e;simp only[aP]
noncomputable def fE (t:List Vt)(f:Vt→Int):D:=.fdc (t.map f9) (t.map fun v=>.int (f v))
noncomputable def cX (rs:List Int)(g:Int)(ts:List Tr)(O:List (List Nat)):List Vt:=cZ (ar ts) (ik rs g ts O) 40 []
theorem oO {rs:List Int}{g:Int}{ts:List Tr}(C:Ctx rs g ts):(ar ts).length≤39:=by
 have h5:∀q∈ts.zipIdx,(bb q.1).length≤5:=fun q hq=>by
  have:=jh (C.good hq);have:=C.ln.few;omega
 have:=lG (qs:=ts.zipIdx) h5;rw[length_zipIdx]at this;have e:gc ts.zipIdx=ar ts:=rfl;rw[e]at this;have:=C.few;omega
theorem sS {rs:List Int}{g:Int}{ts:List Tr}{O:List (List Nat)}(C:Ctx rs g ts):Turn (ar ts) (ik rs g ts O) (cX rs g ts O)∧bt (ar ts) (ik rs g ts O) (cX rs g ts O)=[]:=mj bP 40 [] qo (by have:=oO C;rw[length_nil];omega)
theorem yc {t vs:List Vt}(nd:vs.Nodup)(h:¬t.length<vs.length)(nt:t.Nodup)(sub:∀v∈t,v∈vs):∀v∈vs,v∈t:=fun v hv=>by
 apply Classical.byContradiction;intro z;have:=cw (t:=v::t) (vs:=vs) (nodup_cons.mpr ⟨z,nt⟩) fun x hx=>by
  rcases mem_cons.mp hx with e|e
  ·rw[e];exact hv
  ·exact sub x e
 rw[length_cons]at this;omega
end
set_option maxHeartbeats 4000000
section
variable{K:W.Frag}{CL:Addr}{Y:Ad}{rs:List Int}{g:Int}{ts:List Tr}{O:List (List Nat)}
theorem sX (C:Ctx rs g ts)(H:Ords rs.length ts O):∀v∈ar ts,(ik rs g ts O v).length≤1000:=fun v hv=>by
 have hn5:=C.ln.few;have ht5:=C.few;have h5:∀q∈ts.zipIdx,(bb q.1).length≤5:=fun q hq=>by
  have:=jh (C.good hq);omega
 obtain⟨t,ht,hs⟩:=mem_visits.mp hv;have hlt:=h_ (C.tr t (mem_of_getElem? ht)) _ hs;rw[←rQ hv (by rw[H.len];exact hlt)];have h1:=kg (rs:=rs) (qs:=ts.zipIdx) h5;have h2:=ny (rs:=rs) (g:=g) (os:=O.zipIdx) fun o ho=>by
  have hz:=mem_zip.mp ho;have hs:o.2<rs.length:=by rw[←H.len];exact(jj hz).1
  have:=sv H hs;have e1:O.getD o.2 []=o.1:=by rw[getD_eq_getElem?_getD,hz];rfl
  rw[e1]at this;omega
 have h3:=oV (E:=r6 rs ts.zipIdx ++ xh rs g O.zipIdx) (v:=v);rw[length_append]at h3;rw[length_zipIdx]at h1 h2;rw[H.len]at h2;omega
theorem ji (C:Ctx rs g ts)(H:Ords rs.length ts O):bq K CL Y [fW (ar ts) (ik rs g ts O)]=if (cX rs g ts O).length<(ar ts).length then .exc Y.ST else .ok (.lst ((cX rs g ts O).map vD)):=by
 have ht:dq K CL Y [fW (ar ts) (ik rs g ts O)]= .ok (.lst ((cX rs g ts O).map vD)):=vb bP (oO C) fun v hv=>le_trans (sX C H v hv) (by decide);have hlk:vz [fW (ar ts) (ik rs g ts O)]= .ok (.int ((ar ts).length:Int)):=by
  show Res.ok (D.int (((ar ts).map f9).length:Int))=_;rw[length_map]
 have e0:au fx [fW (ar ts) (ik rs g ts O)]=[some (fW (ar ts) (ik rs g ts O)),none]:=rfl;unfold bq;refine(aU rfl).trans ?_;rw[e0];unfold dg;by_cases hlen:(cX rs g ts O).length<(ar ts).length
 ·rw[if_pos hlen];have hlen':((cX rs g ts O).length:Int)<((ar ts).length:Int):=by omega
  simp only[aP,ht,hlk,decide_eq_true hlen']
 ·rw[if_neg hlen];have hlen':¬((cX rs g ts O).length:Int)<((ar ts).length:Int):=by omega
  simp only[aP,ht,hlk,decide_eq_false hlen']
theorem yh {t:List Vt}{f:Vt→Int}:mq (fE t f)= .ok (t.map vD):=by
 show Res.ok ((t.map f9).map vp)=_;rw[map_map];rfl
theorem DV {v:Vt}:bG (vD v) (.int 1)= .ok (.int (v.2:Int)):=iu rfl
theorem wM {s:Nat}(h:s<rs.length):bG (.lst (rs.map D.int)) (.int (s:Int))= .ok (.int (rs.getD s 0)):=k_ (g:=D.int) (ki h)
theorem pQ {t:List Vt}{f:Vt→Int}(nd:t.Nodup)(hl:t.length≤39)(hr:∀v∈t,v.2<rs.length):cQ K CL Y [aq CL rs g,fE t f]= .ok (dE t (fun v=>f v+rs.getD v.2 0)):=by
 unfold cQ;refine(aU rfl).trans ?_;have e0:au gj [aq CL rs g,fE t f]=[some (aq CL rs g),some (fE t f),none,none,none]:=rfl;rw[e0];unfold d7;simp only[aP,Cf,fj,L2.sD,yh];refine gM (fun pre ρ=>∃o4,ρ=[some (aq CL rs g),some (fE t f),some (.lst (rs.map D.int)),some (dE pre (fun v=>f v+rs.getD v.2 0)),o4]) ⟨none,rfl⟩ (fun pre v post exs ρ hZ187=>?_) (fun ρ' hZ188=>?_)
 ·obtain⟨o4,e⟩:=hZ187;subst e;have hvt:v∈t:=by rw[exs];simp
  have nv:v∉pre:=fun z=>by
   rw[exs]at nd;exact(nodup_append.mp nd).2.2 v z v (mem_cons_self ..) rfl
  have hpl:pre.length≤39:=by
   have:=congrArg List.length exs;rw[length_append]at this;omega
  have hg:bR (fE t f) (vD v)= .ok (.int (f v)):=qI hvt;refine⟨_,rfl,?_⟩;refine⟨_,nA (ks:=pre.map f9) (l:=pre.map fun v=>.int (f v+rs.getD v.2 0)) (k:=f9 v) (d:=.int (f v+rs.getD v.2 0)) (kd:=[.int (v.1:Int),.int (v.2:Int)]) rfl (by simp only[aP,hg,DV,wM (hr v hvt)]) (by simp only[aP];rfl) jC (by rw[length_map];omega),some (vD v),?_⟩;rw[oo (f:=fun x=>D.int (f x+rs.getD x.2 0)) nv];rfl
 ·obtain⟨o4,e⟩:=hZ188;subst e;simp only[aP]
end
set_option maxHeartbeats 4000000
section
variable{K:W.Frag}{CL:Addr}{Y:Ad}{rs:List Int}{g:Int}{ts:List Tr}{O:List (List Nat)}{a b:Int}
theorem yk {t:List Vt}{f:Vt→Int}(h:t≠[]):li (fE t f)= .ok (.int (fM (t.map f))):=by
 cases t with
 |nil=>exact absurd rfl h
 |cons v t=>
  unfold fE li;dsimp only;have e:((v::t).map fun v=>D.int (f v))=((v::t).map f).map D.int:=by rw[map_map];rfl
  rw[e,d9];rfl
noncomputable def yj (rs:List Int)(f:Vt→Int)(v:Vt):Int:=f v+rs.getD v.2 0
noncomputable abbrev aT (a b:Int):List Tr:=[(0,2,a),(2,0,b)]
structure Two (rs:List Int)(g a b:Int):Prop where
 ln:GoodLine rs g
 n2:2≤rs.length
 a:0≤a∧a≤60
 b:0≤b∧b≤60
theorem Two.good (h:Two rs g a b):∀t∈aT a b,Good rs.length t:=fun t ht=>by
 have h2:=h.n2
 rcases mem_cons.mp ht with e|e
 ·subst e;exact⟨zero_le _,h2,by show (0:Nat)≠2;decide,h.a⟩
 ·rw[mem_singleton.mp e];exact⟨h2,zero_le _,by show (2:Nat)≠0;decide,h.b⟩
theorem Two.ctx (h:Two rs g a b):Ctx rs g (aT a b):=⟨h.ln,h.good,by show 2≤5;decide,by show 1≤2;decide⟩
theorem rH:ar (aT a b)=[(0,0),(0,1),(1,1),(1,0)]:=rfl
theorem AS {v:Vt}(h:v∈ar (aT a b)):v=(0,0)∨v=(0,1)∨v=(1,1)∨v=(1,0):=by
 rw[rH]at h;simpa using h
noncomputable abbrev gH (n:Nat)(o p:List Nat):List (List Nat):=o::p::replicate (n-2) []
theorem su {n s:Nat}{o p:List Nat}(h:2≤s):(gH n o p).getD s []=[]:=by
 obtain⟨k,rfl⟩:∃k,s=k+2:=⟨s-2,by omega⟩;show (replicate (n-2) ([]:List Nat)).getD k []=[];rw[getD_eq_getElem?_getD,getElem?_replicate];split <;> rfl
theorem vN (h:Two rs g a b){o p:List Nat}(ho:o=[0,1]∨o=[1,0])(hp:p=[0,1]∨p=[1,0]):Ords rs.length (aT a b) (gH rs.length o p):=by
 have h2:=h.n2;have no:∀{x:List Nat},x=[0,1]∨x=[1,0]→x.Nodup∧∀k,k∈x↔k=0∨k=1:=fun {x} hx=>by
  rcases hx with e|e <;> subst e
  ·exact⟨by decide,fun k=>by simp⟩
  ·exact⟨by decide,fun k=>by simp[or_comm]⟩
 refine⟨by show (replicate (rs.length-2) ([]:List Nat)).length+1+1=_;rw[length_replicate];omega,fun s=>?_,fun s k hs=>?_⟩
 ·match s with
  |0=>exact(no ho).1
  |1=>exact(no hp).1
  |s+2=>rw[su (by omega)];exact nodup_nil
 ·rw[rH]
  match s with
  |0=>exact((no ho).2 k).trans (by simp)
  |1=>exact((no hp).2 k).trans (by simp)
  |s+2=>rw[su (by omega)];simp
theorem CT {n:Nat}{o p:List Nat}:bo (gH n o p)= .lst (.lst (aB o)::.lst (aB p)::replicate (n-2) (.lst [])):=by
 show D.lst (D.lst (aB o)::D.lst (aB p)::(replicate (n-2) []).map fun o=>D.lst (aB o))=_;rw[List.map_replicate];rfl
theorem Bs (h:Two rs g a b):(cX rs g (aT a b) (gH rs.length [1,0] [0,1])).length<(ar (aT a b)).length:=by
 apply Classical.byContradiction;intro z;have h2:=h.n2;obtain⟨T,_⟩:=sS (O:=gH rs.length [1,0] [0,1]) h.ctx;have i:=yc bP z T.nd T.sub;have m1:((1,0),rs.getD 0 0+g)∈ik rs g (aT a b) (gH rs.length [1,0] [0,1]) (0,0):=mem_append_right _ (mem_wO.mpr ⟨1,by show (1,0)∈[(1,0)];simp,rfl⟩);have m2:((1,1),rs.getD 1 0)∈ik rs g (aT a b) (gH rs.length [1,0] [0,1]) (1,0):=mem_append_left _ ((qY (t:=(2,0,b)) rfl).mpr ⟨1,by show (1,0)∈[(1,0)];simp,rfl⟩);have m3:((0,1),rs.getD 1 0+g)∈ik rs g (aT a b) (gH rs.length [1,0] [0,1]) (1,1):=mem_append_right _ (mem_wO.mpr ⟨0,by show (0,1)∈[(0,1)];simp,rfl⟩);have m4:((0,0),rs.getD 0 0)∈ik rs g (aT a b) (gH rs.length [1,0] [0,1]) (0,1):=mem_append_left _ ((qY (t:=(0,2,a)) rfl).mpr ⟨0,by show (0,1)∈[(0,1)];simp,rfl⟩);have i1:=nX (ready:=iD (aT a b)) T (i (0,0) (by rw[rH];simp)) m1;have i2:=nX (ready:=iD (aT a b)) T (i (1,0) (by rw[rH];simp)) m2;have i3:=nX (ready:=iD (aT a b)) T (i (1,1) (by rw[rH];simp)) m3;have i4:=nX (ready:=iD (aT a b)) T (i (0,1) (by rw[rH];simp)) m4;have r0:=eB h.ln (s:=0) (by omega);have r1:=eB h.ln (s:=1) (by omega);have hg:=h.ln.gap;dsimp only at i1 i2 i3 i4;omega
theorem oP (h:Two rs g a b){o p:List Nat}(ho:o=[0,1]∨o=[1,0])(hp:p=[0,1]∨p=[1,0]):bp K CL Y [aq CL rs g,.lst ((aT a b).map bQ)]= .ok (.lst ((aT a b).map aC))∧aQ K CL Y [aq CL rs g,.lst ((aT a b).map aC),bo (gH rs.length o p)]= .ok (dW (ar (aT a b)) (ik rs g (aT a b) (gH rs.length o p))):=by
 have C:=h.ctx;have hn5:=C.ln.few;exact⟨sW C.tr (by omega) C.one C.few,rJ C (vN h ho hp)⟩
theorem nk (h:Two rs g a b):iT K CL Y [aq CL rs g,.lst ((aT a b).map bQ),bo (gH rs.length [1,0] [0,1])]= .exc Y.ST:=by
 obtain⟨hwy,hwo⟩:=oP (K:=K) (CL:=CL) (Y:=Y) h (.inr rfl) (.inl rfl);have fz1:tI (dW (ar (aT a b)) (ik rs g (aT a b) (gH rs.length [1,0] [0,1])))= .ok (fW (ar (aT a b)) (ik rs g (aT a b) (gH rs.length [1,0] [0,1]))):=rfl;have hwt:=ji (K:=K) (CL:=CL) (Y:=Y) h.ctx (vN h (.inr rfl) (.inl rfl));rw[if_pos (Bs h)]at hwt;generalize aT a b=ts at *;generalize gH rs.length [1,0] [0,1]=O at *;have e0:au mW [aq CL rs g,.lst (ts.map bQ),bo O]=[some (aq CL rs g),some (.lst (ts.map bQ)),some (bo O),none,none,none,none,none,none,none]:=rfl;unfold iT;refine(aU rfl).trans ?_;rw[e0];unfold jY;simp only[aP,xi,hwy,hwo,fz1,hwt]
noncomputable abbrev O5 (n:Nat):List (List Nat):=gH n [0,1] [0,1]
noncomputable def rC (v:Vt):Int:=if v=(0,0) then 100 else if v=(0,1) then 200 else if v=(1,1) then 300 else 400
theorem Dz (h:Two rs g a b):Sol (ar (aT a b)) (ik rs g (aT a b) (O5 rs.length)) (iD (aT a b)) rC:=by
 have h2:=h.n2;have r0:=eB h.ln (s:=0) (by omega);have r1:=eB h.ln (s:=1) (by omega);have hg:=h.ln.gap;have ha:=h.a;have hb:=h.b;have w00:ik rs g (aT a b) (O5 rs.length) (0,0)=[]:=rfl;have w01:ik rs g (aT a b) (O5 rs.length) (0,1)=[((0,0),rs.getD 0 0)]:=rfl;have w11:ik rs g (aT a b) (O5 rs.length) (1,1)=[((0,1),rs.getD 1 0+g)]:=rfl;have w10:ik rs g (aT a b) (O5 rs.length) (1,0)=[((1,1),rs.getD 1 0),((0,0),rs.getD 0 0+g)]:=rfl;have t0:rC (0,0)=100:=by decide
 have t1:rC (0,1)=200:=by decide
 have t2:rC (1,1)=300:=by decide
 have t3:rC (1,0)=400:=by decide
 refine⟨fun v hv=>?_,fun v hv u hu=>?_⟩
 ·rcases AS hv with e|e|e|e <;> subst e
  ·rw[t0];show a≤100;omega
  ·rw[t1];show a≤200;omega
  ·rw[t2];show b≤300;omega
  ·rw[t3];show b≤400;omega
 ·rcases AS hv with e|e|e|e <;> subst e
  ·rw[w00]at hu;cases hu
  ·rw[w01]at hu;rw[mem_singleton.mp hu];show rC (0,0)+rs.getD 0 0≤rC (0,1);rw[t0,t1];omega
  ·rw[w11]at hu;rw[mem_singleton.mp hu];show rC (0,1)+(rs.getD 1 0+g)≤rC (1,1);rw[t1,t2];omega
  ·rw[w10]at hu
   rcases mem_cons.mp hu with e|e
   ·rw[e];show rC (1,1)+rs.getD 1 0≤rC (1,0);rw[t2,t3];omega
   ·rw[mem_singleton.mp e];show rC (0,0)+(rs.getD 0 0+g)≤rC (1,0);rw[t0,t3];omega
theorem Bv {v:Vt}:rC v≤400:=by
 unfold rC;split
 ·decide
 ·split
  ·decide
  ·split <;> decide
theorem wG (h:Two rs g a b):∀v∈ar (aT a b),0≤iD (aT a b) v:=fun v hv=>by
 have ha:=h.a.1;have hb:=h.b.1
 rcases AS hv with e|e|e|e <;> subst e
 ·exact ha
 ·exact ha
 ·exact hb
 ·exact hb
theorem pP (h:Two rs g a b):gE K CL Y [aq CL rs g,.lst ((aT a b).map bQ),bo (O5 rs.length),.int 0]= .exc Y.TS:=by
 have C:=h.ctx;have H:Ords rs.length (aT a b) (O5 rs.length):=vN h (.inl rfl) (.inl rfl);obtain⟨hwy,hwo⟩:=oP (K:=K) (CL:=CL) (Y:=Y) h (.inl rfl) (.inl rfl);change aQ K CL Y [aq CL rs g,.lst ((aT a b).map aC),bo (O5 rs.length)]= .ok (dW (ar (aT a b)) (ik rs g (aT a b) (O5 rs.length))) at hwo;have fz1:tI (dW (ar (aT a b)) (ik rs g (aT a b) (O5 rs.length)))= .ok (fW (ar (aT a b)) (ik rs g (aT a b) (O5 rs.length))):=rfl;have hwt:=ji (K:=K) (CL:=CL) (Y:=Y) C H;obtain⟨T,hf⟩:=sS (O:=O5 rs.length) C;have S:=Dz h;have i:=pH S (wG h) (BC C H) hf;have hlen:¬(cX rs g (aT a b) (O5 rs.length)).length<(ar (aT a b)).length:=by
  have:=cw bP i;omega
 rw[if_neg hlen]at hwt;have hvl:=oO C;have hle:=lc (K:=K) (CL:=CL) (Y:=Y) T hvl (sX C H);have up:∀v∈cX rs g (aT a b) (O5 rs.length),0≤fk (ik rs g (aT a b) (O5 rs.length)) (iD (aT a b)) (cX rs g (aT a b) (O5 rs.length)) v∧fk (ik rs g (aT a b) (O5 rs.length)) (iD (aT a b)) (cX rs g (aT a b) (O5 rs.length)) v≤400:=fun v hv=>
  ⟨Int.le_trans (wG h v (T.sub v hv)) (AN T hv),Int.le_trans (AM S T v hv) Bv⟩
 have hlt:∀v∈cX rs g (aT a b) (O5 rs.length),v.2<rs.length:=fun v hv=>by
  obtain⟨tr,h1,h2⟩:=mem_visits.mp (T.sub v hv);exact h_ (C.tr tr (mem_of_getElem? h1)) _ h2
 have tl:(cX rs g (aT a b) (O5 rs.length)).length≤39:=le_trans (cw T.nd T.sub) hvl;have tne:cX rs g (aT a b) (O5 rs.length)≠[]:=fun z=>by
  have:=i (0,0) (by rw[rH];simp);rw[z]at this;cases this
 have tnd:=T.nd;have hGL:=h.ln;clear S i hf T hlen;generalize cX rs g (aT a b) (O5 rs.length)=t at *;generalize fk (ik rs g (aT a b) (O5 rs.length)) (iD (aT a b)) t=E at *;generalize ik rs g (aT a b) (O5 rs.length)=W at *;generalize O5 rs.length=O at *;generalize aT a b=ts at *;have fz2:tI (dE t E)= .ok (fE t E):=rfl;have hlv:=pQ (K:=K) (CL:=CL) (Y:=Y) (g:=g) (f:=E) tnd tl hlt;have hEl:(fun v=>E v+rs.getD v.2 0)=yj rs E:=rfl;rw[hEl]at hlv;have fz3:tI (dE t (yj rs E))= .ok (fE t (yj rs E)):=rfl;have hmx:=yk (f:=yj rs E) tne;have mne:t.map (yj rs E)≠[]:=fun z=>tne (List.map_eq_nil_iff.mp z);have hM:=(e_ mne).1;generalize fM (t.map (yj rs E))=M at hmx hM;obtain⟨v,hv,ev⟩:=mem_map.mp hM;have r1:=eB hGL (hlt v hv);have u1:=up v hv;have ev':E v+rs.getD v.2 0=M:=ev;have M1:(0:Int)<M:=by omega
 have okM:decide (M.natAbs.log2<1920)=true:=decide_eq_true (jD (by omega) (by omega));have ok0:decide ((0:Int).natAbs.log2<1920)=true:=by decide +kernel
 have e0:au kA [aq CL rs g,.lst (ts.map bQ),bo O,.int 0]=[some (aq CL rs g),some (.lst (ts.map bQ)),some (bo O),some (.int 0),none,none,none,none,none]:=rfl;unfold gE;refine(aU rfl).trans ?_;rw[e0];unfold iE;refine bM [some (aq CL rs g),some (.lst (ts.map bQ)),some (bo O),some (.int 0),some (.lst (ts.map aC)),none,none,none,none] (by simp only[aP,hwy]) ?_;refine bM [some (aq CL rs g),some (.lst (ts.map bQ)),some (bo O),some (.int 0),some (.lst (ts.map aC)),some (fW (ar ts) W),none,none,none] (by simp only[aP,xi,hwo,fz1]) ?_;refine bM [some (aq CL rs g),some (.lst (ts.map bQ)),some (bo O),some (.int 0),some (.lst (ts.map aC)),some (fW (ar ts) W),some (.lst (t.map vD)),none,none] (by simp only[aP,hwt]) ?_;refine bM [some (aq CL rs g),some (.lst (ts.map bQ)),some (bo O),some (.int 0),some (.lst (ts.map aC)),some (fW (ar ts) W),some (.lst (t.map vD)),some (fE t (yj rs E)),none] (by simp only[aP,xi,hle,fz2,hlv,fz3]) ?_;refine bM [some (aq CL rs g),some (.lst (ts.map bQ)),some (bo O),some (.int 0),some (.lst (ts.map aC)),some (fW (ar ts) W),some (.lst (t.map vD)),some (fE t (yj rs E)),some (.int M)] (by simp only[aP,hmx]) ?_;have er:a7 Y.TS (fun ρ=>pX 8 ρ&&pX 3 ρ) [some (aq CL rs g),some (.lst (ts.map bQ)),some (bo O),some (.int 0),some (.lst (ts.map aC)),some (fW (ar ts) W),some (.lst (t.map vD)),some (fE t (yj rs E)),some (.int M)]= .exc Y.TS:=kY (by
  show (decide (M.natAbs.log2<1920)&&decide ((0:Int).natAbs.log2<1920))=true;rw[okM,ok0];rfl)
 simp only[aP,decide_eq_true M1,er]
end
set_option maxHeartbeats 4000000
section
variable{K:W.Frag}{CL:Addr}{Y:Ad}{rs:List Int}{g:Int}{a b:Int}
theorem rZ {d:D}(h:aJ 20 d=true):js d d= .ok (.bl true):=by
 unfold js;rw[if_pos ⟨h,h⟩,kX h]
theorem kh {asg:D→DS→Option DS}{F:DS→Out}{x:D}{xs:List D}{ρ ρ1:DS}{d:D}(h:asg x ρ=some ρ1)(h2:F ρ1= .rt d):bF asg F (x::xs) ρ= .rt d:=by
 unfold bF;rw[h];dsimp only;rw[h2]
theorem iM {asg:D→DS→Option DS}{F:DS→Out}{x:D}{xs:List D}{ρ ρ1 ρ2:DS}(h:asg x ρ=some ρ1)(h2:F ρ1= .nx ρ2):bF asg F (x::xs) ρ=bF asg F xs ρ2:=by
 conv=>lhs;unfold bF
 rw[h];dsimp only;rw[h2]
theorem vd:db K CL Y [.lst [],.int 0]= .exc Y.BL:=by
 have e:aK K CL Y [.lst [],.int 0]= .exc Y.BL:=by
  unfold aK;refine(aU rfl).trans ?_;have e0:au dh [D.lst [],.int 0]=[some (.lst []),some (.int 0),none]:=rfl;rw[e0];unfold cj;have q1:bz [.lst []]= .ok (.int 0):=rfl;have q2:decide ((1:Int)≤0)=false:=by decide
  simp only[aP,q1,q2]
 unfold db;dsimp only;rw[e];rfl
theorem uu:bp K CL Y [aq CL rs g,.lst []]= .exc Y.BT:=by
 unfold bp;refine(aU rfl).trans ?_;have e0:au kC [aq CL rs g,.lst []]=[some (aq CL rs g),some (.lst [])]:=rfl;rw[e0];unfold kz;have q1:bz [.lst []]= .ok (.int 0):=rfl;have q2:decide ((1:Int)≤0)=false:=by decide
 simp only[aP,q1,q2]
theorem tm:cu K CL Y [aq CL rs g,.lst []]= .exc Y.BT:=by
 unfold cu;refine(aU rfl).trans ?_;have e0:au fv [aq CL rs g,.lst []]=[some (aq CL rs g),some (.lst []),none,none,none,none]:=rfl;rw[e0];unfold df;simp only[aP,uu]
theorem qH {n:Nat}{d:D}(h:1≤n)(hn:n≤1000):aL K CL Y [.int (n:Int),d,.lst []]= .exc Y.BO:=by
 unfold aL;refine(aU rfl).trans ?_;have e0:au bB [.int (n:Int),d,.lst []]=[some (.int (n:Int)),some d,some (.lst []),none,none,none]:=rfl;rw[e0];unfold bA;have q1:bz [.lst []]= .ok (.int 0):=rfl;have q2:((0:Int)==(n:Int))=false:=by
  rw[beq_eq_false_iff_ne];omega
 have q3:((0:Int) != (n:Int))=true:=by
  unfold bne;rw[q2];rfl
 have er:a7 Y.BO (pX 0) [some (.int (n:Int)),some d,some (.lst []),none,none,none]= .exc Y.BO:=kY (by
  show decide ((n:Int).natAbs.log2<1920)=true;exact decide_eq_true (jD (by omega) (by omega)))
 simp only[aP,q1,q2,q3,er]
theorem qV (h:Two rs g a b):bW K CL Y [aq CL rs g,.lst ((aT a b).map bQ),.lst []]= .exc Y.BO:=by
 obtain⟨hwy,_⟩:=oP (K:=K) (CL:=CL) (Y:=Y) h (.inl rfl) (.inl rfl);have h2:=h.n2;have h5:=h.ln.few;generalize aT a b=ts at *;have hw:aQ K CL Y [aq CL rs g,.lst (ts.map aC),.lst []]= .exc Y.BO:=by
  have hck:aL K CL Y [.int (rs.length:Int),.lst (ts.map aC),.lst []]= .exc Y.BO:=qH (by omega) (by omega);unfold aQ;refine(aU rfl).trans ?_;have e0:au fw [aq CL rs g,.lst (ts.map aC),.lst []]=[some (aq CL rs g),some (.lst (ts.map aC)),some (.lst []),none,none,none,none,none,none,none,none,none]:=rfl;rw[e0];unfold dA;simp only[aP,Cf,DN,kQ,fj,hck]
 unfold bW;refine(aU rfl).trans ?_;have e0:au eI [aq CL rs g,.lst (ts.map bQ),.lst []]=[some (aq CL rs g),some (.lst (ts.map bQ)),some (.lst []),none,none,none]:=rfl;rw[e0];unfold cL;simp only[aP,xi,hwy,hw]
theorem s9 (h:Two rs g a b):lg K CL Y [aq CL rs g,.lst ((aT a b ++ aT a b).map bQ)]= .exc Y.TM:=by
 have h5:=h.ln.few;have hwy:bp K CL Y [aq CL rs g,.lst ((aT a b ++ aT a b).map bQ)]= .ok (.lst ((aT a b ++ aT a b).map aC)):=sW (fun t ht=>(mem_append.mp ht).elim (h.good t) (h.good t)) (by omega) (by show 1≤4;decide) (by show 4≤5;decide);have q1:bz [.lst ((aT a b ++ aT a b).map bQ)]= .ok (.int 4):=rfl;have q2:decide ((4:Int)>3)=true:=by decide
 generalize aT a b ++ aT a b=ts at *;unfold lg;refine(aU rfl).trans ?_;have e0:au qz [aq CL rs g,.lst (ts.map bQ)]=[some (aq CL rs g),some (.lst (ts.map bQ)),none,none,none,none,none,none]:=rfl;rw[e0];unfold mU;simp only[aP,hwy,q1,q2]
noncomputable abbrev bX:D:=.lst [.lst [.int 0,.int 0],.lst [.int 0,.int 0]]
theorem qt:dR K CL Y [.lst ((aT a b).map aC),bX]= .ok (.bl true):=by
 unfold dR;refine(aU rfl).trans ?_;have e0:au dB [.lst ((aT a b).map aC),bX]=[some (.lst ((aT a b).map aC)),some bX]:=rfl;rw[e0];unfold fm;have c1:a9 (sL (ac 1)) [none] (b8 0) yes (L2.c1 (ac 0) bz) [some (.lst ((aT a b).map aC)),some bX]= .ok (.lst [.int 2,.int 2]):=rfl;have c2:a9 (sL (ac 0)) [none] (b8 0) yes (L2.c1 (ac 0) bz) [some (.lst ((aT a b).map aC)),some bX]= .ok (.lst [.int 2,.int 2]):=rfl;have q:js (.lst [.int 2,.int 2]) (.lst [.int 2,.int 2])= .ok (.bl true):=rZ (by decide +kernel);simp only[aP,c1,c2,q]
theorem rD (h:Two rs g a b):bU K CL Y [aq CL rs g,.lst ((aT a b).map bQ),.lst ((aT a b).map aC),bX]= .ok (.bl false):=by
 have h2:=h.n2;have r0:=eB h.ln (s:=0) (by omega);have ha:=h.a;have i0:bG (.lst (rs.map D.int)) (.int 0)= .ok (.int (rs.getD 0 0)):=wM (s:=0) (by omega);unfold bU;refine(aU rfl).trans ?_;have e0:au eD [aq CL rs g,.lst ((aT a b).map bQ),.lst ((aT a b).map aC),bX]=[some (aq CL rs g),some (.lst ((aT a b).map bQ)),some (.lst ((aT a b).map aC)),some bX,none,none,none,none,none,none]:=rfl;rw[e0];unfold cI;simp only[aP,Cf,fj,iK];have x1:bG (.lst ((aT a b).map bQ)) (.int ((0:Nat):Int))= .ok (bQ (0,2,a)):=k_ (i:=0) rfl;have x2:bG (bQ (0,2,a)) (.int 2)= .ok (.int a):=uX;have x3:bG bX (.int ((0:Nat):Int))= .ok (.lst [.int 0,.int 0]):=uQ;have key:bF (dZ 5 6) (az (aN 7 (aj (aj (ac 1) (ac 5) bG) (kI 2) bG)) (fJ (sZ (pC (ac 6) (pC (aj (ac 3) (ac 5) bG) pN))) (dZ 8 9) (az (gy (f7 (aj (ac 9) (ac 7) AR)) (cG (kB false)) nxt) (aN 7 (aj (ac 9) (aj (ac 4) (ac 8) bG) bg))))) (List.map (fun q:Tr×Nat=>D.tup [D.int q.2,aC q.1]) (aT a b).zipIdx) [some (aq CL rs g),some (.lst ((aT a b).map bQ)),some (.lst ((aT a b).map aC)),some bX,some (.lst (rs.map D.int)),none,none,none,none,none]= .rt (.bl false):=by
  refine jz (st:=fun ρ=>ρ=[some (aq CL rs g),some (.lst ((aT a b).map bQ)),some (.lst ((aT a b).map aC)),some bX,some (.lst (rs.map D.int)),none,none,none,none,none]) (x:=((0,2,a),0)) (post:=[((2,0,b),1)]) [] _ rfl (fun y hy=>by cases hy) (fun ρ e=>?_);subst e;refine⟨_,rfl,?_⟩;simp only[aP,x1,x2,x3];have z1:qu [aC (0,2,a),.lst [.int 0,.int 0]]= .ok [.tup [.int 0,.int 0],.tup [.int 1,.int 0]]:=rfl;rw[z1,bN];by_cases h0:0<a
  ·exact kh (asg:=dZ 8 9) rfl (by simp only[aP,decide_eq_true h0])
  ·have y0:bG (.lst (rs.map D.int)) (.int 0)= .ok (.int (rs.getD 0 0)):=i0;have r1:(0:Int)<0+rs.getD 0 0:=by omega
   refine(iM (asg:=dZ 8 9) (ρ2:=[some (aq CL rs g),some (.lst ((aT a b).map bQ)),some (.lst ((aT a b).map aC)),some bX,some (.lst (rs.map D.int)),some (.int ((0:Nat):Int)),some (aC (0,2,a)),some (.int (0+rs.getD 0 0)),some (.int 0),some (.int 0)]) rfl (by simp only[aP,decide_eq_false h0,y0])).trans ?_;exact kh (asg:=dZ 8 9) rfl (by simp only[aP,decide_eq_true r1])
 rw[key];rfl
theorem pJ (h:Two rs g a b):iU K CL Y [aq CL rs g,.lst ((aT a b).map bQ),bX]= .ok (.bl false):=by
 obtain⟨hwy,_⟩:=oP (K:=K) (CL:=CL) (Y:=Y) h (.inl rfl) (.inl rfl);have hi:=qt (K:=K) (CL:=CL) (Y:=Y) (a:=a) (b:=b);have ht:=rD (K:=K) (CL:=CL) (Y:=Y) h;generalize aT a b=ts at *;unfold iU;refine(aU rfl).trans ?_;have e0:au mX [aq CL rs g,.lst (ts.map bQ),bX]=[some (aq CL rs g),some (.lst (ts.map bQ)),some bX,none]:=rfl;rw[e0];unfold j9;simp only[aP,hwy,hi,ht]
theorem lM (h:Two rs g a b):bJ K CL Y [aq CL rs g,.lst ((aT a b).map bQ),bX]= .exc Y.BB:=by
 have hk:=pJ (K:=K) (CL:=CL) (Y:=Y) h;generalize aT a b=ts at *;have hc:bV K CL Y [aq CL rs g,.lst (ts.map bQ),bX]= .exc Y.BB:=by
  unfold bV;refine(aU rfl).trans ?_;have e0:au eE [aq CL rs g,.lst (ts.map bQ),bX]=[some (aq CL rs g),some (.lst (ts.map bQ)),some bX]:=rfl;rw[e0];unfold cJ;simp only[aP,hk]
 unfold bJ;refine(aU rfl).trans ?_;have e0:au dC [aq CL rs g,.lst (ts.map bQ),bX]=[some (aq CL rs g),some (.lst (ts.map bQ)),some bX,none]:=rfl;rw[e0];unfold ck;simp only[aP,hc]
theorem uc {k lo hi:Int}(h0:0≤lo)(h1:lo≤k)(h2:k≤hi)(h3:hi<100):aY K CL Y [.str (TX.nS k),.int lo,.int hi]= .ok (.int k):=by
 unfold aY;refine(aU rfl).trans ?_;have e0:au d8 [.str (TX.nS k),.int lo,.int hi]=[some (.str (TX.nS k)),some (.int lo),some (.int hi),none]:=rfl;rw[e0];unfold cO;simp only[aP,r_ (show -1000000≤lo by omega) (show lo<1000000 by omega) (show -1000000≤hi+1 by omega) (show hi+1<1000000 by omega)];have hn:(k-lo).toNat<(hi+1-lo).toNat:=by omega
 have er:List.range (hi+1-lo).toNat=List.range (k-lo).toNat ++ (k-lo).toNat::(List.range (hi+1-lo).toNat).drop ((k-lo).toNat+1):=by
  conv=>lhs;rw[←List.take_append_drop (k-lo).toNat (List.range (hi+1-lo).toNat)]
  rw[List.take_range,Nat.min_eq_left (by omega),List.drop_eq_getElem_cons (by rw[length_range];exact hn),List.getElem_range]
 have ef:bF (b8 3) (gy (f7 (aj (ac 0) (L2.c1 (ac 3) rA) js)) (cG (ac 3)) nxt) (jF lo (hi+1-lo).toNat) [some (.str (TX.nS k)),some (.int lo),some (.int hi),none]= .rt (.int k):=by
  unfold jF;rw[er];refine jz (st:=fun ρ=>∃o,ρ=[some (.str (TX.nS k)),some (.int lo),some (.int hi),o]) _ _ ⟨none,rfl⟩ (fun i hi' ρ hZ189=>?_) (fun ρ hZ190=>?_)
  ·obtain⟨o,e⟩:=hZ189;subst e;have hi':=mem_range.mp hi';have e1:(TX.nS k==TX.nS (lo+(i:Int)))=false:=beq_eq_false_iff_ne.mpr fun z=>by
    have:=TX.AV (by omega) (by omega) (by omega) (by omega) z;omega
   refine⟨_,rfl,_,?_,some (.int (lo+(i:Int))),rfl⟩;simp only[aP,nF (show -(10 ^ 20)<lo+(i:Int) by omega) (show lo+(i:Int)<10 ^ 20 by omega)];rw[show (Str.ofString (toString (lo+(i:Int))))=TX.nS (lo+(i:Int)) from rfl,e1];rfl
  ·obtain⟨o,e⟩:=hZ190;subst e;have e2:lo+(((k-lo).toNat:Nat):Int)=k:=by omega
   refine⟨_,rfl,?_⟩;rw[e2];simp only[aP,nF (show -(10 ^ 20)<k by omega) (show k<10 ^ 20 by omega)]
 rw[ef];rfl
theorem oa:aY K CL Y [.str Str.empty,.int 0,.int 5]= .exc Y.BX:=by
 unfold aY;refine(aU rfl).trans ?_;have e0:au d8 [.str Str.empty,.int 0,.int 5]=[some (.str Str.empty),some (.int 0),some (.int 5),none]:=rfl;rw[e0];unfold cO;simp only[aP,r_ (show (-1000000:Int)≤0 by omega) (show (0:Int)<1000000 by omega) (show (-1000000:Int)≤5+1 by omega) (show (5:Int)+1<1000000 by omega)];refine gM (fun pre ρ=>∃o,ρ=[some (.str Str.empty),some (.int 0),some (.int 5),o]) ⟨none,rfl⟩ (fun pre i post exs ρ hZ191=>?_) (fun ρ' hZ192=>?_)
 ·obtain⟨o,e⟩:=hZ191;subst e;have hi:i<6:=by
   have:=mem_range.mp (show i∈List.range ((5:Int)+1-0).toNat by rw[exs];simp);omega
  have hs:∀j:Fin 6,(Str.empty==TX.nS (j.val:Int))=false:=by decide +kernel
  have e1:=hs ⟨i,hi⟩;dsimp only at e1;refine⟨_,rfl,_,?_,some (.int (i:Int)),rfl⟩;simp only[aP,Int.zero_add,nF (show -(10 ^ 20)<(i:Int) by omega) (show (i:Int)<10 ^ 20 by omega)];rw[show (Str.ofString (toString (i:Int)))=TX.nS (i:Int) from rfl,e1];rfl
 ·obtain⟨o,e⟩:=hZ192;subst e;have er:a7 Y.BX (fun ρ=>Cy 0 ρ&&pX 1 ρ&&pX 2 ρ) [some (.str Str.empty),some (.int 0),some (.int 5),o]= .exc Y.BX:=kY (by
   show (AX Str.empty&&decide ((0:Int).natAbs.log2<1920)&&decide ((5:Int).natAbs.log2<1920))=true;decide +kernel)
  simp only[aP,er]
theorem wH:lh K CL Y [.str (Str.ofString "3-4 clear ")]= .exc Y.BX:=by
 unfold lh;refine(aU rfl).trans ?_;have e0:au mZ [.str (Str.ofString "3-4 clear ")]=[some (.str (Str.ofString "3-4 clear ")),none,none,none]:=rfl;rw[e0];unfold mV;have s1:Txt.split (Str.ofString "3-4 clear ") " clear " =[Str.ofString "3-4",Str.empty]:=by decide +kernel
 have s2:Txt.split (Str.ofString "3-4") "-" =[TX.nS 3,TX.nS 4]:=by decide +kernel
 have d1:C8 (ac 0) (kS " clear ") [some (.str (Str.ofString "3-4 clear ")),none,none,none]= .ok (.lst [.str (Str.ofString "3-4"),.str Str.empty]):=by
  show da (Str.ofString "3-4 clear ") (.str " clear ")=_;unfold da;dsimp only;rw[s1];rfl
 have d2:C8 (aj (ac 1) (kI 0) bG) (kS "-") [some (.str (Str.ofString "3-4 clear ")),some (.lst [.str (Str.ofString "3-4"),.str Str.empty]),none,none]= .ok (.lst [.str (TX.nS 3),.str (TX.nS 4)]):=by
  show da (Str.ofString "3-4") (.str "-")=_;unfold da;dsimp only;rw[s2];rfl
 have q1:bz [.lst [.str (Str.ofString "3-4"),.str Str.empty]]= .ok (.int 2):=rfl;have q2:bz [.lst [.str (TX.nS 3),.str (TX.nS 4)]]= .ok (.int 2):=rfl;have q3:decide ((2:Int)>5)=false:=by decide
 have q4:bG (.lst [.str (Str.ofString "3-4"),.str Str.empty]) (.int 1)= .ok (.str Str.empty):=uR;refine bM [some (.str (Str.ofString "3-4 clear ")),some (.lst [.str (Str.ofString "3-4"),.str Str.empty]),none,none] (by rw[nE,d1];rfl) ?_;refine bM [some (.str (Str.ofString "3-4 clear ")),some (.lst [.str (Str.ofString "3-4"),.str Str.empty]),none,none] (by simp only[aP,q1]) ?_;refine bM [some (.str (Str.ofString "3-4 clear ")),some (.lst [.str (Str.ofString "3-4"),.str Str.empty]),some (.lst [.str (TX.nS 3),.str (TX.nS 4)]),none] (by rw[nE,d2];rfl) ?_;refine bM [some (.str (Str.ofString "3-4 clear ")),some (.lst [.str (Str.ofString "3-4"),.str Str.empty]),some (.lst [.str (TX.nS 3),.str (TX.nS 4)]),none] (by simp only[aP,q2,q3]) ?_;have cg:a9 (sL (ac 2)) [none] (b8 0) yes (bn (pC (ac 0) (pC (kI 1) (pC (kI 20) pN))) (aY K CL Y)) [some (.str (Str.ofString "3-4 clear ")),some (.lst [.str (Str.ofString "3-4"),.str Str.empty]),some (.lst [.str (TX.nS 3),.str (TX.nS 4)]),none]= .ok (.lst ([3,4].map D.int)):=
  eZ (xs:=[3,4]) (c:=fun n=>D.str (TX.nS n)) (g:=D.int) rfl (by decide) (fun n hn=>⟨_,rfl,by
   have h:1≤n∧n≤20:=by
    rcases mem_cons.mp hn with e|e
    ·rw[e];decide
    ·rw[mem_singleton.mp e];decide
   have:=uc (K:=K) (CL:=CL) (Y:=Y) (lo:=1) (hi:=20) (by decide) h.1 h.2 (by decide);show bn (pC (ac 0) (pC (kI 1) (pC (kI 20) pN))) (aY K CL Y) [some (.str (TX.nS n))]=_;simp only[aP,this]⟩)
 refine bM [some (.str (Str.ofString "3-4 clear ")),some (.lst [.str (Str.ofString "3-4"),.str Str.empty]),some (.lst [.str (TX.nS 3),.str (TX.nS 4)]),some (.lst ([3,4].map D.int))] (by rw[nE,cg];rfl) ?_;simp only[aP,q4,oa]
end
set_option maxHeartbeats 4000000
section
variable{K:W.Frag}{CL:Addr}{Y:Ad}{rs:List Int}{g:Int}{a b:Int}
noncomputable def uH (Y:Ad)(m:Int):Addr:=[Y.BL,Y.BT,Y.BO,Y.BB,Y.ST,Y.TS,Y.TM,Y.BX].getD m.toNat Y.BX
theorem ay {m k:Int}{A B:DS→Out}{ρ:DS}:gy (f7 (aj (ac 0) (kI k) js)) A B (some (.int m)::ρ)=if m=k then A (some (.int m)::ρ) else B (some (.int m)::ρ):=by
 by_cases h:m=k
 ·have e:(m==k)=true:=beq_iff_eq.mpr h;rw[if_pos h];simp only[aP,e]
 ·have e:(m==k)=false:=beq_eq_false_iff_ne.mpr h;rw[if_neg h];simp only[aP,e]
theorem o_ {n:Nat}{o p:List Nat}(h:n≤1000):bg (.lst [.lst (aB o),.lst (aB p)]) (.lst (replicate (n-2) (.lst [])))= .ok (bo (gH n o p)):=by
 rw[CT];exact dM (dP (by rw[length_replicate];show 2+(n-2)≤100000;omega))
theorem xz (h:Two rs g a b){m:Int}(h0:0≤m)(h8:m<8):ce K CL Y [.int m,aq CL rs g,.lst ((aT a b).map bQ),.lst (replicate (rs.length-2) (.lst []))]= .exc (uH Y m):=by
 have h5:=h.ln.few;have w0:=vd (K:=K) (CL:=CL) (Y:=Y);have w1:=tm (K:=K) (CL:=CL) (Y:=Y) (rs:=rs) (g:=g);have w2:=qV (K:=K) (CL:=CL) (Y:=Y) h;have w3:=lM (K:=K) (CL:=CL) (Y:=Y) h;have w4:=nk (K:=K) (CL:=CL) (Y:=Y) h;have w5:=pP (K:=K) (CL:=CL) (Y:=Y) h;have w6:=s9 (K:=K) (CL:=CL) (Y:=Y) h;have w7:=wH (K:=K) (CL:=CL) (Y:=Y);have a1:bg (.lst [.lst [.int 1,.int 0]]) (.lst [.lst [.int 0,.int 1]])= .ok (.lst [.lst [.int 1,.int 0],.lst [.int 0,.int 1]]):=dM (by decide +kernel);have a2:=o_ (n:=rs.length) (o:=[1,0]) (p:=[0,1]) (by omega);have a3:=o_ (n:=rs.length) (o:=[0,1]) (p:=[0,1]) (by omega);have n1:aB [1,0]=[.int 1,.int 0]:=rfl;have n2:aB [0,1]=[.int 0,.int 1]:=rfl;rw[n1,n2]at a2;rw[n2]at a3;have a4:bg (.lst ((aT a b).map bQ)) (.lst ((aT a b).map bQ))= .ok (.lst ((aT a b ++ aT a b).map bQ)):=by
  rw[map_append];exact dM (by show aF 4=true;decide +kernel)
 generalize aT a b=ts at *;generalize replicate (rs.length-2) (D.lst [])=os at *;unfold ce;refine(aU rfl).trans ?_;have e0:au gi [.int m,aq CL rs g,.lst (ts.map bQ),.lst os]=[some (.int m),some (aq CL rs g),some (.lst (ts.map bQ)),some (.lst os)]:=rfl;rw[e0];unfold d6;have hm:m=0∨m=1∨m=2∨m=3∨m=4∨m=5∨m=6∨m=7:=by omega
 rcases hm with e|e|e|e|e|e|e|e <;> subst e
 ·rw[ay,if_pos rfl];simp only[aP,w0];rfl
 ·rw[ay,if_neg (by decide),ay,if_pos rfl];simp only[aP,w1];rfl
 ·rw[ay,if_neg (by decide),ay,if_neg (by decide),ay,if_pos rfl];simp only[aP,w2];rfl
 ·rw[ay,if_neg (by decide),ay,if_neg (by decide),ay,if_neg (by decide),ay,if_pos rfl];simp only[aP,w3];rfl
 ·rw[ay,if_neg (by decide),ay,if_neg (by decide),ay,if_neg (by decide),ay,if_neg (by decide),ay,if_pos rfl];simp only[aP,a1,a2,w4];rfl
 ·rw[ay,if_neg (by decide),ay,if_neg (by decide),ay,if_neg (by decide),ay,if_neg (by decide),ay,if_neg (by decide),ay,if_pos rfl];simp only[aP,a3,w5];rfl
 ·rw[ay,if_neg (by decide),ay,if_neg (by decide),ay,if_neg (by decide),ay,if_neg (by decide),ay,if_neg (by decide),ay,if_neg (by decide),ay,if_pos rfl];simp only[aP,a4,w6];rfl
 ·rw[ay,if_neg (by decide),ay,if_neg (by decide),ay,if_neg (by decide),ay,if_neg (by decide),ay,if_neg (by decide),ay,if_neg (by decide),ay,if_neg (by decide)];simp only[aP,w7];rfl
theorem fK {K:W.Frag}{C:Addr}{c:Value}{b:Bool}(h:W.kitOne K (.ref C) c=some b):dk K c (.xc C)= .ok (.bl b):=by
 unfold dk C_;dsimp only;rw[h]
theorem cR {c:Addr}{b0 b1 b2 b3 b4 b5 b6 b7:Bool}(h0:W.kitOne K (.ref c) (.ref Y.BL)=some b0)(h1:W.kitOne K (.ref c) (.ref Y.BT)=some b1)(h2:W.kitOne K (.ref c) (.ref Y.BO)=some b2)(h3:W.kitOne K (.ref c) (.ref Y.BB)=some b3)(h4:W.kitOne K (.ref c) (.ref Y.ST)=some b4)(h5:W.kitOne K (.ref c) (.ref Y.TS)=some b5)(h6:W.kitOne K (.ref c) (.ref Y.TM)=some b6)(h7:W.kitOne K (.ref c) (.ref Y.BX)=some b7)(h8:W.kitOne K (.ref c) (.type "ValueError")=some true):bO K CL Y [.xc c]= .ok (.lst [.bl b0,.bl b1,.bl b2,.bl b3,.bl b4,.bl b5,.bl b6,.bl b7,.bl true]):=by
 have j0:dk K (cV (.ref Y.BL)) (.xc c)= .ok (.bl b0):=fK h0;have j1:dk K (cV (.ref Y.BT)) (.xc c)= .ok (.bl b1):=fK h1;have j2:dk K (cV (.ref Y.BO)) (.xc c)= .ok (.bl b2):=fK h2;have j3:dk K (cV (.ref Y.BB)) (.xc c)= .ok (.bl b3):=fK h3;have j4:dk K (cV (.ref Y.ST)) (.xc c)= .ok (.bl b4):=fK h4;have j5:dk K (cV (.ref Y.TS)) (.xc c)= .ok (.bl b5):=fK h5;have j6:dk K (cV (.ref Y.TM)) (.xc c)= .ok (.bl b6):=fK h6;have j7:dk K (cV (.ref Y.BX)) (.xc c)= .ok (.bl b7):=fK h7;have j8:dk K (cV (.ty "ValueError")) (.xc c)= .ok (.bl true):=fK h8;have a1:bg (.lst [.bl b0,.bl b1,.bl b2,.bl b3]) (.lst [.bl b4,.bl b5,.bl b6,.bl b7])= .ok (.lst [.bl b0,.bl b1,.bl b2,.bl b3,.bl b4,.bl b5,.bl b6,.bl b7]):=dM (by show aF 8=true;decide +kernel);have a2:bg (.lst [.bl b0,.bl b1,.bl b2,.bl b3,.bl b4,.bl b5,.bl b6,.bl b7]) (.lst [.bl true])= .ok (.lst [.bl b0,.bl b1,.bl b2,.bl b3,.bl b4,.bl b5,.bl b6,.bl b7,.bl true]):=dM (by show aF 9=true;decide +kernel);unfold bO;refine(aU rfl).trans ?_;have e0:au fu [.xc c]=[some (.xc c),none]:=rfl;rw[e0];unfold de;simp only[aP,j0,j1,j2,j3,j4,j5,j6,j7,j8,a1,a2]
noncomputable def gF (m:Int):D:=.lst ((List.range 9).map fun (i:Nat)=>.bl ((i:Int)==m||(i:Int)==8))
theorem t9 (Ki:Kit K Y){m:Int}(h0:0≤m)(h8:m<8):bO K CL Y [.xc (uH Y m)]= .ok (gF m)∧[Y.BL,Y.BT,Y.BO,Y.BB,Y.ST,Y.TS,Y.TM,Y.BX].contains (uH Y m)=true:=by
 have hm:m=0∨m=1∨m=2∨m=3∨m=4∨m=5∨m=6∨m=7:=by omega
 rcases hm with e|e|e|e|e|e|e|e <;> subst e
 ·exact⟨cR Ki.i0 Ki.i1 Ki.i2 Ki.i3 Ki.i4 Ki.i5 Ki.i6 Ki.i7 Ki.i64,by show contains _ Y.BL=true;simp⟩
 ·exact⟨cR Ki.i8 Ki.i9 Ki.i10 Ki.i11 Ki.i12 Ki.i13 Ki.i14 Ki.i15 Ki.i65,by show contains _ Y.BT=true;simp⟩
 ·exact⟨cR Ki.i16 Ki.i17 Ki.i18 Ki.i19 Ki.i20 Ki.i21 Ki.i22 Ki.i23 Ki.i66,by show contains _ Y.BO=true;simp⟩
 ·exact⟨cR Ki.i24 Ki.i25 Ki.i26 Ki.i27 Ki.i28 Ki.i29 Ki.i30 Ki.i31 Ki.i67,by show contains _ Y.BB=true;simp⟩
 ·exact⟨cR Ki.i32 Ki.i33 Ki.i34 Ki.i35 Ki.i36 Ki.i37 Ki.i38 Ki.i39 Ki.i68,by show contains _ Y.ST=true;simp⟩
 ·exact⟨cR Ki.i40 Ki.i41 Ki.i42 Ki.i43 Ki.i44 Ki.i45 Ki.i46 Ki.i47 Ki.i69,by show contains _ Y.TS=true;simp⟩
 ·exact⟨cR Ki.i48 Ki.i49 Ki.i50 Ki.i51 Ki.i52 Ki.i53 Ki.i54 Ki.i55 Ki.i70,by show contains _ Y.TM=true;simp⟩
 ·exact⟨cR Ki.i56 Ki.i57 Ki.i58 Ki.i59 Ki.i60 Ki.i61 Ki.i62 Ki.i63 Ki.i71,by show contains _ Y.BX=true;simp⟩
theorem uY {i:Nat}{cs:List Addr}{F Fh:DS→Out}{ρ ρ1:DS}{c:Addr}(h:F ρ= .exc c)(hc:cs.contains c=true)(hh:Fh (ρ.set i (some (.xc c)))= .nx ρ1):je i cs F Fh ρ= .nx (ρ1.set i none):=by
 unfold je;rw[h];dsimp only;rw[if_pos hc,hh]
theorem Dx {n:Nat}(h:n≤1000):lU (.lst [.int 3]) (.int (2-(n:Int)))= .ok (.lst (replicate (2-n) (.int 3))):=by
 show wI (.lst [.int 3]) (.int (2-(n:Int)))=_;unfold wI;dsimp only;rw[if_pos,show (2-(n:Int)).toNat=2-n by omega,List.flatten_replicate_singleton];rw[and_eq_true,and_eq_true,decide_eq_true_eq,decide_eq_true_eq];exact⟨⟨by omega,by omega⟩,dP (by show 1*(2-(n:Int)).toNat≤100000;omega)⟩
noncomputable abbrev lR (CL:Addr)(ns rs0 rs:List Int)(g:Int)(ts:List Tr)(m:Int)(o6 o7:Option D):DS:=[some (.scr ns),some (.tup [.lst (rs0.map D.int),.int g]),some (.lst (rs.map D.int)),some (aq CL rs g),some (.lst (ts.map bQ)),some (.int m),o6,o7]
theorem vw {ns:List Int}(Ki:Kit K Y)(hns:ns.length≤63):vB K CL Y [.scr ns]= .ok (.bl true):=by
 obtain⟨j,g,GL,el⟩:=tX (K:=K) (CL:=CL) (Y:=Y) (ns:=ns) (base:=0) (by omega) (by omega);have h5:=GL.few;have h1:=GL.one;have d20:=fH (ns:=ns) (k:=20) (many:=61) (by omega);have d21:=fH (ns:=ns) (k:=21) (many:=61) (by omega);have d22:=fH (ns:=ns) (k:=22) (many:=8) (by omega);have e20:=dL (K:=K) (CL:=CL) (Y:=Y) (ns:=ns) (k:=20) (many:=61) (by omega) (by omega) (by omega) (by omega);have e21:=dL (K:=K) (CL:=CL) (Y:=Y) (ns:=ns) (k:=21) (many:=61) (by omega) (by omega) (by omega) (by omega);have e22:=dL (K:=K) (CL:=CL) (Y:=Y) (ns:=ns) (k:=22) (many:=8) (by omega) (by omega) (by omega) (by omega);generalize drawn ns 20 61=a at *;generalize drawn ns 21 61=b at *;generalize drawn ns 22 8=m at *;have m0:bG (.tup [.lst (j.map D.int),.int g]) (.int 0)= .ok (.lst (j.map D.int)):=zl;have m1:bG (.tup [.lst (j.map D.int),.int g]) (.int 1)= .ok (.int g):=zm;have hrep:=Dx (n:=j.length) (by omega);obtain⟨l,hrs⟩:∃l,l=j ++ replicate (2-j.length) 3:=⟨_,rfl⟩;have hcat:bg (.lst (j.map D.int)) (.lst (replicate (2-j.length) (.int 3)))= .ok (.lst (l.map D.int)):=by
  rw[hrs,map_append,List.map_replicate];exact dM (dP (by rw[length_map,length_replicate];omega))
 have hl:l.length=j.length+(2-j.length):=by rw[hrs,length_append,length_replicate]
 have G2:GoodLine l g:=⟨by omega,by omega,fun r hr=>by
  rw[hrs]at hr
  rcases mem_append.mp hr with z|z
  ·exact GL.run r z
  ·rw[(List.mem_replicate.mp z).2];decide,GL.gap⟩
 have T:Two l g a b:=⟨G2,by omega,by omega,by omega⟩;have hin:=yf (K:=K) (CL:=CL) (Y:=Y) G2;have hca:=xz (K:=K) (CL:=CL) (Y:=Y) T (m:=m) (by omega) (by omega);obtain⟨hma,hcs⟩:=t9 (K:=K) (CL:=CL) Ki (m:=m) (by omega) (by omega);have hts:D.lst [.tup [.int 0,.int 2,.int a],.tup [.int 2,.int 0,.int b]]= .lst ((aT a b).map bQ):=rfl;have hr5:l.length≤5:=by omega
 have hr2:2≤l.length:=by omega
 unfold vB;refine(aU rfl).trans ?_;have e0:au oT [D.scr ns]=[some (.scr ns),none,none,none,none,none,none,none]:=rfl;rw[e0];unfold rK;refine bM [some (.scr ns),some (.tup [.lst (j.map D.int),.int g]),none,none,none,none,none,none] (by simp only[aP,el]) ?_;refine bM [some (.scr ns),some (.tup [.lst (j.map D.int),.int g]),some (.lst (l.map D.int)),none,none,none,none,none] (by simp only[aP,m0,hrep,hcat]) ?_;refine bM [some (.scr ns),some (.tup [.lst (j.map D.int),.int g]),some (.lst (l.map D.int)),some (aq CL l g),none,none,none,none] (by simp only[aP,m1,hin]) ?_;refine bM [some (.scr ns),some (.tup [.lst (j.map D.int),.int g]),some (.lst (l.map D.int)),some (aq CL l g),some (.lst ((aT a b).map bQ)),none,none,none] (by simp only[aP,e20,e21];rfl) ?_;generalize aT a b=ts at *;refine bM (lR CL ns j l g ts m none none) (by simp only[aP,e22]) ?_;refine bM (lR CL ns j l g ts m (some (.lst [])) none) (by simp only[aP]) ?_;have er:rg [.int ((l.length:Int)-2)]= .ok ((List.range (l.length-2)).map fun (i:Nat)=>D.int (i:Int)):=by
  rw[show (l.length:Int)-2=((l.length-2:Nat):Int) by omega];exact nD (by omega)
 have cg:a9 (sR1 (pC (aj (c1 (ac 2) bz) (kI 2) oH) pN)) [none] (b8 0) yes (bT pN) (lR CL ns j l g ts m (some (.lst [])) none)= .ok (.lst (replicate (l.length-2) (.lst []))):=by
  rw[eZ (xs:=List.range (l.length-2)) (c:=fun (i:Nat)=>D.int (i:Int)) (g:=fun _=>D.lst []) (by simp only[aP,er]) (by rw[length_range];omega) (fun i hi=>⟨_,rfl,rfl⟩)];rw[List.map_const',length_range]
 have hx:bS (bn (zz (pC (ac 5) (pC (ac 3) (pC (ac 4) (pC (a9 (sR1 (pC (aj (c1 (ac 2) bz) (kI 2) oH) pN)) [none] (b8 0) yes (bT pN)) pN))))) (ce K CL Y)) (lR CL ns j l g ts m (some (.lst [])) none)= .exc (uH Y m):=by
  have hf:pC (ac 5) (pC (ac 3) (pC (ac 4) (pC (a9 (sR1 (pC (aj (c1 (ac 2) bz) (kI 2) oH) pN)) [none] (b8 0) yes (bT pN)) pN))) (lR CL ns j l g ts m (some (.lst [])) none)= .ok [.int m,aq CL l g,.lst (ts.map bQ),.lst (replicate (l.length-2) (.lst []))]:=by
   simp only[aP,cg]
  unfold bS bn zz;rw[hf];dsimp only;rw[aw,hca];rfl
 refine bM (lR CL ns j l g ts m (some (gF m)) none) (uY (ρ1:=lR CL ns j l g ts m (some (gF m)) (some (.xc (uH Y m)))) hx hcs (by simp only[aP,hma])) ?_;have er9:rg [.int 9]= .ok ((List.range 9).map fun (i:Nat)=>D.int (i:Int)):=nD (n:=9) (by omega);have cq:a9 (sR1 (pC (kI 9) pN)) [none,some 5] (b8 0) yes (CF (aj (ac 0) (ac 1) js) (aj (ac 0) (kI 8) js)) (lR CL ns j l g ts m (some (gF m)) none)= .ok (gF m):=by
  refine eZ (xs:=List.range 9) (c:=fun (i:Nat)=>D.int (i:Int)) (g:=fun (i:Nat)=>D.bl ((i:Int)==m||(i:Int)==8)) (by simp only[aP,er9]) (by decide) (fun i hi=>⟨_,rfl,?_⟩);show CF (aj (ac 0) (ac 1) js) (aj (ac 0) (kI 8) js) [some (.int (i:Int)),some (.int m)]=_;unfold CF;cases q:((i:Int)==m) with
  |true=>simp only[aP,q]
  |false=>simp only[aP,q]
 have eq1:js (gF m) (gF m)= .ok (.bl true):=by
  have hp:aJ 20 (gF m)=true:=wj (n:=19) fun i _=>by unfold aJ;rfl
  exact rZ hp
 simp only[aP,cq,eq1]
end
set_option maxHeartbeats 4000000
theorem zO {l:W.OpenLaw}{w:World}{K:W.Frag}{h:Heap}{mg:Str→Option Value}{fa CL HE BL BT BO BB ST TS TM BX:Addr}(X:K.In h)(G:h.Ns mainGlobals mg)(hfa:mg "law" =some (.ref fa)){t0 t1 t2 t3 t4 t5 t6 t7:Tok}
  (aCL:W.nsIn K mainGlobals "Line" =some (some (.ref CL)))
  (g1:FT K "check_line" fU)
  (g2:FT K "_law_drawn" fS)
  (g3:FT K "_law_line_by" cA)
  (g4:FT K "check_train" eW)
  (g5:FT K "way" wQ)
  (g6:FT K "ways" oE)
  (g7:FT K "check_orders" cB)
  (g8:FT K "waits_of" iA)
  (g9:FT K "held_by" hZ)
  (g10:FT K "freed" kx)
  (g11:FT K "in_turn" jG)
  (g12:FT K "least_enters" cC)
  (g13:FT K "least_table" eX)
  (g14:FT K "whole_turn" fX)
  (g15:FT K "leaves_of" gQ)
  (g16:FT K "chain" oz)
  (g17:FT K "latest" lA)
  (g18:FT K "number_of" gR)
  (g19:FT K "read" oC)
  (g20:FT K "is_whole" dX)
  (g21:FT K "all_in_time" eS)
  (g22:FT K "keeps" oB)
  (g23:FT K "check_table" eV)
  (g24:FT K "last_arrival" dY)
  (g25:FT K "first_come" fV)
  (g26:FT K "best" rh)
  (g27:FT K "_law_marks" fT)
  (g28:FT K "_law_call" gP)
  (g29:FT K "law" jd)
  (g30:FM K CL "__init__" "Line.__init__" rj)
  (g31:FM K CL "runs" "Line.runs" rm)
  (g32:FM K CL "clear" "Line.clear" oA)
  (pg:W.plainGet K CL Str.empty=true)
  (hd:W.hasDictIn K CL=true)
  (po:W.plainOver K CL=true)
  (sa:W.findIn K (.ref CL) "__setattr__" =some (some (.builtin "object.__setattr__")))
  (mk:W.makesIn K CL=true)
  (kc:W.keepIn K (.ref CL)=true)
  (nM:W.findIn K (.ref CL) "minutes" =some none)
  (nG:W.findIn K (.ref CL) "gap" =some none)
  (z0:W.nsIn K mainGlobals "len" =some none)
  (z1:W.nsIn K mainGlobals "list" =some none)
  (z2:W.nsIn K mainGlobals "range" =some none)
  (z3:W.nsIn K mainGlobals "max" =some none)
  (z4:W.nsIn K mainGlobals "tuple" =some none)
  (z5:W.nsIn K mainGlobals "sorted" =some none)
  (z6:W.nsIn K mainGlobals "enumerate" =some none)
  (z7:W.nsIn K mainGlobals "zip" =some none)
  (z8:W.nsIn K mainGlobals "isinstance" =some none)
  (z9:W.nsIn K mainGlobals "ValueError" =some none)
  (z10:W.nsIn K mainGlobals "str" =some none)
  (w0:W.nsIn K mainGlobals "MOST_STRETCHES" =some (some (.int 5 t0)))
  (w1:W.nsIn K mainGlobals "MOST_RUN" =some (some (.int 20 t1)))
  (w2:W.nsIn K mainGlobals "MOST_CLEAR" =some (some (.int 5 t2)))
  (w3:W.nsIn K mainGlobals "MOST_TRAINS" =some (some (.int 5 t3)))
  (w4:W.nsIn K mainGlobals "MOST_READY" =some (some (.int 60 t4)))
  (w5:W.nsIn K mainGlobals "MOST_FOR_BEST" =some (some (.int 3 t5)))
  (w6:W.nsIn K mainGlobals "BETWEEN_RUNS" =some (some (.str "-" t6)))
  (w7:W.nsIn K mainGlobals "AHEAD_OF_GAP" =some (some (.str " clear " t7)))
  (aHE:W.nsIn K mainGlobals "HaltError" =some (some (.ref HE)))
  (aBL:W.nsIn K mainGlobals "BadLine" =some (some (.ref BL)))
  (aBT:W.nsIn K mainGlobals "BadTrains" =some (some (.ref BT)))
  (aBO:W.nsIn K mainGlobals "BadOrders" =some (some (.ref BO)))
  (aBB:W.nsIn K mainGlobals "BadTable" =some (some (.ref BB)))
  (aST:W.nsIn K mainGlobals "Sticks" =some (some (.ref ST)))
  (aTS:W.nsIn K mainGlobals "TooSoon" =some (some (.ref TS)))
  (aTM:W.nsIn K mainGlobals "TooMany" =some (some (.ref TM)))
  (aBX:W.nsIn K mainGlobals "BadText" =some (some (.ref BX)))
  (eBL:ExIn K BL)
  (gaBL:W.findIn K (.ref BL) "__getattribute__" =some (some (.builtin "BaseException.__getattribute__")))
  (ghBL:W.findIn K (.ref BL) "__getattr__" =some none)
  (haBL:W.findIn K (.ref BL) "__class__" =some (some (.builtin "object.__class__")))
  (hmBL:W.mroIn K BL (.type "object")=some true)
  (hbBL:W.mroIn K BL (.type "BaseException")=some true)
  (rHBL:W.mroIn K BL (.ref HE)=some true)
  (eBT:ExIn K BT)
  (gaBT:W.findIn K (.ref BT) "__getattribute__" =some (some (.builtin "BaseException.__getattribute__")))
  (ghBT:W.findIn K (.ref BT) "__getattr__" =some none)
  (haBT:W.findIn K (.ref BT) "__class__" =some (some (.builtin "object.__class__")))
  (hmBT:W.mroIn K BT (.type "object")=some true)
  (hbBT:W.mroIn K BT (.type "BaseException")=some true)
  (rHBT:W.mroIn K BT (.ref HE)=some true)
  (eBO:ExIn K BO)
  (gaBO:W.findIn K (.ref BO) "__getattribute__" =some (some (.builtin "BaseException.__getattribute__")))
  (ghBO:W.findIn K (.ref BO) "__getattr__" =some none)
  (haBO:W.findIn K (.ref BO) "__class__" =some (some (.builtin "object.__class__")))
  (hmBO:W.mroIn K BO (.type "object")=some true)
  (hbBO:W.mroIn K BO (.type "BaseException")=some true)
  (rHBO:W.mroIn K BO (.ref HE)=some true)
  (eBB:ExIn K BB)
  (gaBB:W.findIn K (.ref BB) "__getattribute__" =some (some (.builtin "BaseException.__getattribute__")))
  (ghBB:W.findIn K (.ref BB) "__getattr__" =some none)
  (haBB:W.findIn K (.ref BB) "__class__" =some (some (.builtin "object.__class__")))
  (hmBB:W.mroIn K BB (.type "object")=some true)
  (hbBB:W.mroIn K BB (.type "BaseException")=some true)
  (rHBB:W.mroIn K BB (.ref HE)=some true)
  (eST:ExIn K ST)
  (gaST:W.findIn K (.ref ST) "__getattribute__" =some (some (.builtin "BaseException.__getattribute__")))
  (ghST:W.findIn K (.ref ST) "__getattr__" =some none)
  (haST:W.findIn K (.ref ST) "__class__" =some (some (.builtin "object.__class__")))
  (hmST:W.mroIn K ST (.type "object")=some true)
  (hbST:W.mroIn K ST (.type "BaseException")=some true)
  (rHST:W.mroIn K ST (.ref HE)=some true)
  (eTS:ExIn K TS)
  (gaTS:W.findIn K (.ref TS) "__getattribute__" =some (some (.builtin "BaseException.__getattribute__")))
  (ghTS:W.findIn K (.ref TS) "__getattr__" =some none)
  (haTS:W.findIn K (.ref TS) "__class__" =some (some (.builtin "object.__class__")))
  (hmTS:W.mroIn K TS (.type "object")=some true)
  (hbTS:W.mroIn K TS (.type "BaseException")=some true)
  (rHTS:W.mroIn K TS (.ref HE)=some true)
  (eTM:ExIn K TM)
  (gaTM:W.findIn K (.ref TM) "__getattribute__" =some (some (.builtin "BaseException.__getattribute__")))
  (ghTM:W.findIn K (.ref TM) "__getattr__" =some none)
  (haTM:W.findIn K (.ref TM) "__class__" =some (some (.builtin "object.__class__")))
  (hmTM:W.mroIn K TM (.type "object")=some true)
  (hbTM:W.mroIn K TM (.type "BaseException")=some true)
  (rHTM:W.mroIn K TM (.ref HE)=some true)
  (eBX:ExIn K BX)
  (gaBX:W.findIn K (.ref BX) "__getattribute__" =some (some (.builtin "BaseException.__getattribute__")))
  (ghBX:W.findIn K (.ref BX) "__getattr__" =some none)
  (haBX:W.findIn K (.ref BX) "__class__" =some (some (.builtin "object.__class__")))
  (hmBX:W.mroIn K BX (.type "object")=some true)
  (hbBX:W.mroIn K BX (.type "BaseException")=some true)
  (rHBX:W.mroIn K BX (.ref HE)=some true)
  (rBH:W.mroIn K HE (.type "BaseException")=some true)
  (sp:W.specialIn K (.builtin "object.__class__") "__get__" =some (some (.builtin "getset_descriptor.__get__")))
  (tk:W.takesIn K (.builtin "object.__class__")=some true)
  (hcHE:(W.clsIn K HE).isSome=true)
  (htHE:W.typeIn K (.ref HE)=some (.type "type"))
  (hcBL:(W.clsIn K BL).isSome=true)
  (htBL:W.typeIn K (.ref BL)=some (.type "type"))
  (hcBT:(W.clsIn K BT).isSome=true)
  (htBT:W.typeIn K (.ref BT)=some (.type "type"))
  (hcBO:(W.clsIn K BO).isSome=true)
  (htBO:W.typeIn K (.ref BO)=some (.type "type"))
  (hcBB:(W.clsIn K BB).isSome=true)
  (htBB:W.typeIn K (.ref BB)=some (.type "type"))
  (hcST:(W.clsIn K ST).isSome=true)
  (htST:W.typeIn K (.ref ST)=some (.type "type"))
  (hcTS:(W.clsIn K TS).isSome=true)
  (htTS:W.typeIn K (.ref TS)=some (.type "type"))
  (hcTM:(W.clsIn K TM).isSome=true)
  (htTM:W.typeIn K (.ref TM)=some (.type "type"))
  (hcBX:(W.clsIn K BX).isSome=true)
  (htBX:W.typeIn K (.ref BX)=some (.type "type"))
  (rBLBT:W.mroIn K BL (.ref BT)=some false)
  (nBLBT:BL≠BT)
  (rBLBO:W.mroIn K BL (.ref BO)=some false)
  (nBLBO:BL≠BO)
  (rBLBB:W.mroIn K BL (.ref BB)=some false)
  (nBLBB:BL≠BB)
  (rBLST:W.mroIn K BL (.ref ST)=some false)
  (nBLST:BL≠ST)
  (rBLTS:W.mroIn K BL (.ref TS)=some false)
  (nBLTS:BL≠TS)
  (rBLTM:W.mroIn K BL (.ref TM)=some false)
  (nBLTM:BL≠TM)
  (rBLBX:W.mroIn K BL (.ref BX)=some false)
  (nBLBX:BL≠BX)
  (rBTBL:W.mroIn K BT (.ref BL)=some false)
  (nBTBL:BT≠BL)
  (rBTBO:W.mroIn K BT (.ref BO)=some false)
  (nBTBO:BT≠BO)
  (rBTBB:W.mroIn K BT (.ref BB)=some false)
  (nBTBB:BT≠BB)
  (rBTST:W.mroIn K BT (.ref ST)=some false)
  (nBTST:BT≠ST)
  (rBTTS:W.mroIn K BT (.ref TS)=some false)
  (nBTTS:BT≠TS)
  (rBTTM:W.mroIn K BT (.ref TM)=some false)
  (nBTTM:BT≠TM)
  (rBTBX:W.mroIn K BT (.ref BX)=some false)
  (nBTBX:BT≠BX)
  (rBOBL:W.mroIn K BO (.ref BL)=some false)
  (nBOBL:BO≠BL)
  (rBOBT:W.mroIn K BO (.ref BT)=some false)
  (nBOBT:BO≠BT)
  (rBOBB:W.mroIn K BO (.ref BB)=some false)
  (nBOBB:BO≠BB)
  (rBOST:W.mroIn K BO (.ref ST)=some false)
  (nBOST:BO≠ST)
  (rBOTS:W.mroIn K BO (.ref TS)=some false)
  (nBOTS:BO≠TS)
  (rBOTM:W.mroIn K BO (.ref TM)=some false)
  (nBOTM:BO≠TM)
  (rBOBX:W.mroIn K BO (.ref BX)=some false)
  (nBOBX:BO≠BX)
  (rBBBL:W.mroIn K BB (.ref BL)=some false)
  (nBBBL:BB≠BL)
  (rBBBT:W.mroIn K BB (.ref BT)=some false)
  (nBBBT:BB≠BT)
  (rBBBO:W.mroIn K BB (.ref BO)=some false)
  (nBBBO:BB≠BO)
  (rBBST:W.mroIn K BB (.ref ST)=some false)
  (nBBST:BB≠ST)
  (rBBTS:W.mroIn K BB (.ref TS)=some false)
  (nBBTS:BB≠TS)
  (rBBTM:W.mroIn K BB (.ref TM)=some false)
  (nBBTM:BB≠TM)
  (rBBBX:W.mroIn K BB (.ref BX)=some false)
  (nBBBX:BB≠BX)
  (rSTBL:W.mroIn K ST (.ref BL)=some false)
  (nSTBL:ST≠BL)
  (rSTBT:W.mroIn K ST (.ref BT)=some false)
  (nSTBT:ST≠BT)
  (rSTBO:W.mroIn K ST (.ref BO)=some false)
  (nSTBO:ST≠BO)
  (rSTBB:W.mroIn K ST (.ref BB)=some false)
  (nSTBB:ST≠BB)
  (rSTTS:W.mroIn K ST (.ref TS)=some false)
  (nSTTS:ST≠TS)
  (rSTTM:W.mroIn K ST (.ref TM)=some false)
  (nSTTM:ST≠TM)
  (rSTBX:W.mroIn K ST (.ref BX)=some false)
  (nSTBX:ST≠BX)
  (rTSBL:W.mroIn K TS (.ref BL)=some false)
  (nTSBL:TS≠BL)
  (rTSBT:W.mroIn K TS (.ref BT)=some false)
  (nTSBT:TS≠BT)
  (rTSBO:W.mroIn K TS (.ref BO)=some false)
  (nTSBO:TS≠BO)
  (rTSBB:W.mroIn K TS (.ref BB)=some false)
  (nTSBB:TS≠BB)
  (rTSST:W.mroIn K TS (.ref ST)=some false)
  (nTSST:TS≠ST)
  (rTSTM:W.mroIn K TS (.ref TM)=some false)
  (nTSTM:TS≠TM)
  (rTSBX:W.mroIn K TS (.ref BX)=some false)
  (nTSBX:TS≠BX)
  (rTMBL:W.mroIn K TM (.ref BL)=some false)
  (nTMBL:TM≠BL)
  (rTMBT:W.mroIn K TM (.ref BT)=some false)
  (nTMBT:TM≠BT)
  (rTMBO:W.mroIn K TM (.ref BO)=some false)
  (nTMBO:TM≠BO)
  (rTMBB:W.mroIn K TM (.ref BB)=some false)
  (nTMBB:TM≠BB)
  (rTMST:W.mroIn K TM (.ref ST)=some false)
  (nTMST:TM≠ST)
  (rTMTS:W.mroIn K TM (.ref TS)=some false)
  (nTMTS:TM≠TS)
  (rTMBX:W.mroIn K TM (.ref BX)=some false)
  (nTMBX:TM≠BX)
  (rBXBL:W.mroIn K BX (.ref BL)=some false)
  (nBXBL:BX≠BL)
  (rBXBT:W.mroIn K BX (.ref BT)=some false)
  (nBXBT:BX≠BT)
  (rBXBO:W.mroIn K BX (.ref BO)=some false)
  (nBXBO:BX≠BO)
  (rBXBB:W.mroIn K BX (.ref BB)=some false)
  (nBXBB:BX≠BB)
  (rBXST:W.mroIn K BX (.ref ST)=some false)
  (nBXST:BX≠ST)
  (rBXTS:W.mroIn K BX (.ref TS)=some false)
  (nBXTS:BX≠TS)
  (rBXTM:W.mroIn K BX (.ref TM)=some false)
  (nBXTM:BX≠TM)
  (rVBL:W.mroIn K BL (.type "ValueError")=some true)
  (rVBT:W.mroIn K BT (.type "ValueError")=some true)
  (rVBO:W.mroIn K BO (.type "ValueError")=some true)
  (rVBB:W.mroIn K BB (.type "ValueError")=some true)
  (rVST:W.mroIn K ST (.type "ValueError")=some true)
  (rVTS:W.mroIn K TS (.type "ValueError")=some true)
  (rVTM:W.mroIn K TM (.type "ValueError")=some true)
  (rVBX:W.mroIn K BX (.type "ValueError")=some true) :
  ∃fd:FuncData,(∀(s:Shared) (v:Value),BindsTo s fd ⟨[v],[]⟩ [("script",v)])∧∀base:Heap,K.In base→base.Ns mainGlobals mg→FnOk l.prog w K mg base (CXF l.prog w) 9 fa fd ["script"] (sP K):=by
 obtain⟨f,e,m,t,c,k,d⟩:=g29;cases hfa.symm.trans (W.mg_of X G e)
 let Y:Ad:=⟨HE,BL,BT,BO,BB,ST,TS,TM,BX⟩
 have T:Txt K mg CL Y:={mgL:=W.mg_of X G aCL,cl:=⟨pg,hd,po,sa⟩,nM:=nM,nG:=nG,b_len:=W.mg_none_of X G z0,b_list:=W.mg_none_of X G z1,b_range:=W.mg_none_of X G z2,b_max:=W.mg_none_of X G z3,b_tuple:=W.mg_none_of X G z4,b_sorted:=W.mg_none_of X G z5,b_enumerate:=W.mg_none_of X G z6,b_zip:=W.mg_none_of X G z7,b_isinstance:=W.mg_none_of X G z8,b_ValueError:=W.mg_none_of X G z9,b_str:=W.mg_none_of X G z10,mS:=⟨_,W.mg_of X G w0⟩,mR:=⟨_,W.mg_of X G w1⟩,mC:=⟨_,W.mg_of X G w2⟩,mT:=⟨_,W.mg_of X G w3⟩,mY:=⟨_,W.mg_of X G w4⟩,mB:=⟨_,W.mg_of X G w5⟩,sB:=⟨_,W.mg_of X G w6⟩,sA:=⟨_,W.mg_of X G w7⟩,gHE:=W.mg_of X G aHE,xBL:=⟨W.mg_of X G aBL,eBL⟩,kBL:=⟨gaBL,ghBL,haBL,sp,tk,hmBL,hbBL,hcBL⟩,gBL:=W.mg_of X G aBL,xBT:=⟨W.mg_of X G aBT,eBT⟩,kBT:=⟨gaBT,ghBT,haBT,sp,tk,hmBT,hbBT,hcBT⟩,gBT:=W.mg_of X G aBT,xBO:=⟨W.mg_of X G aBO,eBO⟩,kBO:=⟨gaBO,ghBO,haBO,sp,tk,hmBO,hbBO,hcBO⟩,gBO:=W.mg_of X G aBO,xBB:=⟨W.mg_of X G aBB,eBB⟩,kBB:=⟨gaBB,ghBB,haBB,sp,tk,hmBB,hbBB,hcBB⟩,gBB:=W.mg_of X G aBB,xST:=⟨W.mg_of X G aST,eST⟩,kST:=⟨gaST,ghST,haST,sp,tk,hmST,hbST,hcST⟩,gST:=W.mg_of X G aST,xTS:=⟨W.mg_of X G aTS,eTS⟩,kTS:=⟨gaTS,ghTS,haTS,sp,tk,hmTS,hbTS,hcTS⟩,gTS:=W.mg_of X G aTS,xTM:=⟨W.mg_of X G aTM,eTM⟩,kTM:=⟨gaTM,ghTM,haTM,sp,tk,hmTM,hbTM,hcTM⟩,gTM:=W.mg_of X G aTM,xBX:=⟨W.mg_of X G aBX,eBX⟩,kBX:=⟨gaBX,ghBX,haBX,sp,tk,hmBX,hbBX,hcBX⟩,gBX:=W.mg_of X G aBX,hs:=fun c p=>(mem_cons.mp p).elim (fun e=>by subst e;exact⟨ee rBH hcHE htHE rHBL,⟨gaBL,ghBL,haBL,sp,tk,hmBL,hbBL,hcBL⟩⟩) fun p=>(mem_cons.mp p).elim (fun e=>by subst e;exact⟨ee rBH hcHE htHE rHBT,⟨gaBT,ghBT,haBT,sp,tk,hmBT,hbBT,hcBT⟩⟩) fun p=>(mem_cons.mp p).elim (fun e=>by subst e;exact⟨ee rBH hcHE htHE rHBO,⟨gaBO,ghBO,haBO,sp,tk,hmBO,hbBO,hcBO⟩⟩) fun p=>(mem_cons.mp p).elim (fun e=>by subst e;exact⟨ee rBH hcHE htHE rHBB,⟨gaBB,ghBB,haBB,sp,tk,hmBB,hbBB,hcBB⟩⟩) fun p=>(mem_cons.mp p).elim (fun e=>by subst e;exact⟨ee rBH hcHE htHE rHST,⟨gaST,ghST,haST,sp,tk,hmST,hbST,hcST⟩⟩) fun p=>(mem_cons.mp p).elim (fun e=>by subst e;exact⟨ee rBH hcHE htHE rHTS,⟨gaTS,ghTS,haTS,sp,tk,hmTS,hbTS,hcTS⟩⟩) fun p=>(mem_cons.mp p).elim (fun e=>by subst e;exact⟨ee rBH hcHE htHE rHTM,⟨gaTM,ghTM,haTM,sp,tk,hmTM,hbTM,hcTM⟩⟩) fun p=>(mem_cons.mp p).elim (fun e=>by subst e;exact⟨ee rBH hcHE htHE rHBX,⟨gaBX,ghBX,haBX,sp,tk,hmBX,hbBX,hcBX⟩⟩) fun p=>absurd p (by simp)};obtain⟨f30,a30,F30⟩:=g30;obtain⟨d30,e30⟩:=F30.mk1;obtain⟨f31,a31,F31⟩:=g31;obtain⟨d31,e31⟩:=F31.mk1;obtain⟨f32,a32,F32⟩:=g32;obtain⟨d32,e32⟩:=F32.mk1;refine⟨W.fnOf "law" "law" (fG jd) (bv jd) (af jd) .none .none .none (.str m t) none (.ref c) .none,fun s v=>.of_eq rfl,fun base _ _=>?_⟩;have C_runs:CalM l.prog w K mg base CL "runs" 1 (en CL):=⟨T.cl,f31,_,⟨a31,F31.fn,F31.kp⟩,yu e31 T,e31.binds fun _ _ _ _ _ _=>tW fun _=>rfl⟩;have C_clear:CalM l.prog w K mg base CL "clear" 1 (ix CL):=⟨T.cl,f32,_,⟨a32,F32.fn,F32.kp⟩,vM e32 T,e32.binds fun _ _ _ _ _ _=>tW fun _=>rfl⟩;have C_check_line:=fB (P:=l.prog) (w:=w) (base:=base) T (jk X G g1 fun _ _ _ _ _ _=>lS fun _ _=>rfl) ;have C_Line:CalI l.prog w K mg base "Line" CL 2 ["self","runs","clear"] (db K CL Y):=⟨vA,T.mgL,f30,_,⟨mk,a30,F30.fn,kc⟩,yr e30 T C_check_line,e30.binds fun _ _ _ _ _ _=>jU fun _ _ _=>rfl⟩;have C__law_drawn:=aR (P:=l.prog) (w:=w) (base:=base) T (jk X G g2 fun _ _ _ _ _ _=>jU fun _ _ _=>rfl) ;have C__law_line_by:=dF (P:=l.prog) (w:=w) (base:=base) T (jk X G g3 fun _ _ _ _ _ _=>lS fun _ _=>rfl) C__law_drawn;have C_check_train:=eL (P:=l.prog) (w:=w) (base:=base) T (jk X G g4 fun _ _ _ _ _ _=>lS fun _ _=>rfl)  C_runs;have C_way:=uG (P:=l.prog) (w:=w) (base:=base) T (jk X G g5 fun _ _ _ _ _ _=>lS fun _ _=>rfl) C_check_train;have C_ways:=cD (P:=l.prog) (w:=w) (base:=base) T (jk X G g6 fun _ _ _ _ _ _=>lS fun _ _=>rfl) C_way;have C_check_orders:=dG (P:=l.prog) (w:=w) (base:=base) T (jk X G g7 fun _ _ _ _ _ _=>jU fun _ _ _=>rfl) ;have C_waits_of:=b9 (P:=l.prog) (w:=w) (base:=base) T (jk X G g8 fun _ _ _ _ _ _=>jU fun _ _ _=>rfl) C_check_orders C_runs C_clear;have C_held_by:=jo (P:=l.prog) (w:=w) (base:=base) T (jk X G g9 fun _ _ _ _ _ _=>jU fun _ _ _=>rfl) ;have C_freed:=ka (P:=l.prog) (w:=w) (base:=base) T (jk X G g10 fun _ _ _ _ _ _=>lS fun _ _=>rfl) C_held_by;have C_in_turn:=jq (P:=l.prog) (w:=w) (base:=base) T (jk X G g11 fun _ _ _ _ _ _=>tW fun _=>rfl) C_freed;have C_least_enters:=bD (P:=l.prog) (w:=w) (base:=base) T (jk X G g12 fun _ _ _ _ _ _=>jU fun _ _ _=>rfl) ;have C_least_table:=eM (P:=l.prog) (w:=w) (base:=base) T (jk X G g13 fun _ _ _ _ _ _=>jU fun _ _ _=>rfl) C_waits_of C_ways;have C_whole_turn:=cr (P:=l.prog) (w:=w) (base:=base) T (jk X G g14 fun _ _ _ _ _ _=>tW fun _=>rfl) C_in_turn;have C_leaves_of:=gl (P:=l.prog) (w:=w) (base:=base) T (jk X G g15 fun _ _ _ _ _ _=>lS fun _ _=>rfl)  C_runs;have C_chain:=m7 (P:=l.prog) (w:=w) (base:=base) T (jk X G g16 fun _ _ _ _ _ _=>jU fun _ _ _=>rfl) C_least_enters C_waits_of C_ways C_whole_turn;have C_latest:=kK (P:=l.prog) (w:=w) (base:=base) T (jk X G g17 fun _ _ _ _ _ _=>AO fun _ _ _ _=>rfl) C_least_enters C_leaves_of C_waits_of C_ways C_whole_turn;have C_number_of:=d_ (P:=l.prog) (w:=w) (base:=base) T (jk X G g18 fun _ _ _ _ _ _=>jU fun _ _ _=>rfl) ;have C_read:=qF (P:=l.prog) (w:=w) (base:=base) T (jk X G g19 fun _ _ _ _ _ _=>tW fun _=>rfl) C_number_of C_Line;have C_is_whole:=im (P:=l.prog) (w:=w) (base:=base) T (jk X G g20 fun _ _ _ _ _ _=>lS fun _ _=>rfl) ;have C_all_in_time:=eJ (P:=l.prog) (w:=w) (base:=base) T (jk X G g21 fun _ _ _ _ _ _=>AO fun _ _ _ _=>rfl)  C_runs;have C_keeps:=m9 (P:=l.prog) (w:=w) (base:=base) T (jk X G g22 fun _ _ _ _ _ _=>jU fun _ _ _=>rfl) C_all_in_time C_is_whole C_ways;have C_check_table:=eK (P:=l.prog) (w:=w) (base:=base) T (jk X G g23 fun _ _ _ _ _ _=>jU fun _ _ _=>rfl) C_keeps;have C_last_arrival:=dH (P:=l.prog) (w:=w) (base:=base) T (jk X G g24 fun _ _ _ _ _ _=>jU fun _ _ _=>rfl) C_check_table C_runs;have C_first_come:=fD (P:=l.prog) (w:=w) (base:=base) T (jk X G g25 fun _ _ _ _ _ _=>lS fun _ _=>rfl) C_ways;have C_best:=qE (P:=l.prog) (w:=w) (base:=base) T (jk X G g26 fun _ _ _ _ _ _=>lS fun _ _=>rfl) C_ways;have C__law_marks:=fA (P:=l.prog) (w:=w) (base:=base) T (jk X G g27 fun _ _ _ _ _ _=>tW fun _=>rfl) ;have C__law_call:=gk (P:=l.prog) (w:=w) (base:=base) T (jk X G g28 fun _ _ _ _ _ _=>AO fun _ _ _ _=>rfl) C_best C_chain C_first_come C_last_arrival C_latest C_least_table C_read C_Line;exact yt (BV (P:=l.prog) (w:=w) (base:=base) T (u9 (st:=jd) k d (nT k)) C__law_call C__law_drawn C__law_line_by C__law_marks C_Line) fun ns hns=>K14.vw (Y:=Y) ⟨cP,(am nBLBT hcBT htBT rBLBT),(am nBLBO hcBO htBO rBLBO),(am nBLBB hcBB htBB rBLBB),(am nBLST hcST htST rBLST),(am nBLTS hcTS htTS rBLTS),(am nBLTM hcTM htTM rBLTM),(am nBLBX hcBX htBX rBLBX),(am nBTBL hcBL htBL rBTBL),cP,(am nBTBO hcBO htBO rBTBO),(am nBTBB hcBB htBB rBTBB),(am nBTST hcST htST rBTST),(am nBTTS hcTS htTS rBTTS),(am nBTTM hcTM htTM rBTTM),(am nBTBX hcBX htBX rBTBX),(am nBOBL hcBL htBL rBOBL),(am nBOBT hcBT htBT rBOBT),cP,(am nBOBB hcBB htBB rBOBB),(am nBOST hcST htST rBOST),(am nBOTS hcTS htTS rBOTS),(am nBOTM hcTM htTM rBOTM),(am nBOBX hcBX htBX rBOBX),(am nBBBL hcBL htBL rBBBL),(am nBBBT hcBT htBT rBBBT),(am nBBBO hcBO htBO rBBBO),cP,(am nBBST hcST htST rBBST),(am nBBTS hcTS htTS rBBTS),(am nBBTM hcTM htTM rBBTM),(am nBBBX hcBX htBX rBBBX),(am nSTBL hcBL htBL rSTBL),(am nSTBT hcBT htBT rSTBT),(am nSTBO hcBO htBO rSTBO),(am nSTBB hcBB htBB rSTBB),cP,(am nSTTS hcTS htTS rSTTS),(am nSTTM hcTM htTM rSTTM),(am nSTBX hcBX htBX rSTBX),(am nTSBL hcBL htBL rTSBL),(am nTSBT hcBT htBT rTSBT),(am nTSBO hcBO htBO rTSBO),(am nTSBB hcBB htBB rTSBB),(am nTSST hcST htST rTSST),cP,(am nTSTM hcTM htTM rTSTM),(am nTSBX hcBX htBX rTSBX),(am nTMBL hcBL htBL rTMBL),(am nTMBT hcBT htBT rTMBT),(am nTMBO hcBO htBO rTMBO),(am nTMBB hcBB htBB rTMBB),(am nTMST hcST htST rTMST),(am nTMTS hcTS htTS rTMTS),cP,(am nTMBX hcBX htBX rTMBX),(am nBXBL hcBL htBL rBXBL),(am nBXBT hcBT htBT rBXBT),(am nBXBO hcBO htBO rBXBO),(am nBXBB hcBB htBB rBXBB),(am nBXST hcST htST rBXST),(am nBXTS hcTS htTS rBXTS),(am nBXTM hcTM htTM rBXTM),cP,(gB (by decide +kernel) rVBL),(gB (by decide +kernel) rVBT),(gB (by decide +kernel) rVBO),(gB (by decide +kernel) rVBB),(gB (by decide +kernel) rVST),(gB (by decide +kernel) rVTS),(gB (by decide +kernel) rVTM),(gB (by decide +kernel) rVBX)⟩ hns
noncomputable def kc (x y:Str)(t:Nat)(l n f:Int)(r:Nat)(w m:Int):Obj:=⟨.type "code",none,.fields #[.str x t,.str y (t+1),.str "/claim/cut.py" (t+2),.int l 0,.int n 0,.int 0 0,.int 0 0,.int f 0,.ref r,.bool true,.int w 0,.ref (r+1),.none,.ref (r+2),.ref (r+3),.ref (r+4),.int m 0,.int l 0,.str "/claim/cut.py" (m.toNat+1)],#[]⟩
noncomputable def kn (x y:Str)(t:Nat)(l n f:Int)(r:Nat)(w m:Int):Obj:=⟨.type "code",none,.fields #[.str x t,.str y (t+1),.str "/claim/cut.py" (t+2),.int l 0,.int n 0,.int 0 0,.int 0 0,.int f 0,.ref r,.bool true,.int w 0,.ref (r+1),.none,.none,.none,.ref (r+2),.int m 0,.int l 0,.str "/claim/cut.py" (m.toNat+1)],#[]⟩
noncomputable def kd (P:Params)(l:List (Str×Nat×Value))(n:Nat):Obj:=⟨.type "dict",none,.dict (l.map fun e=>⟨PyData.keyHash P e.1,.str e.1 e.2.1,e.2.2⟩).toArray n,#[]⟩
noncomputable def Ci (t:List (Str×Nat×Value)):List (Str×Nat×Value):=("__name__",165,.str "law_haltline_k14_refusals_apart" 749)::("__doc__",166,.none)::("__package__",167,.none)::("__loader__",168,.builtin "__main__.__loader__#opaque")::("__spec__",169,.none)::("__annotations__",170,.ref 6)::("__builtins__",171,.ref 4)::t
noncomputable def Cj (t:List (Str×Nat×Value)):List (Str×Nat×Value):=("__file__",173,.str "/claim/cut.py" 172)::("__cached__",174,.none)::("HaltError",206,.ref 24)::("BadLine",222,.ref 37)::("BadTrains",238,.ref 49)::("BadOrders",254,.ref 61)::("BadTable",270,.ref 73)::t
noncomputable def Ck (t:List (Str×Nat×Value)):List (Str×Nat×Value):=("Sticks",286,.ref 85)::("TooSoon",302,.ref 97)::("TooMany",318,.ref 109)::("BadText",334,.ref 121)::("MOST_STRETCHES",338,.int 5 337)::("MOST_RUN",340,.int 20 339)::("MOST_CLEAR",342,.int 5 341)::t
noncomputable def Cl (t:List (Str×Nat×Value)):List (Str×Nat×Value):=("MOST_TRAINS",344,.int 5 343)::("MOST_READY",346,.int 60 345)::("Line",391,.ref 154)::("check_line",400,.ref 165)::("way",410,.ref 172)::("check_train",421,.ref 179)::("ways",427,.ref 184)::t
noncomputable def Cm (t:List (Str×Nat×Value)):List (Str×Nat×Value):=("waits_of",447,.ref 191)::("check_orders",453,.ref 196)::("in_turn",462,.ref 203)::("freed",468,.ref 208)::("held_by",474,.ref 213)::("ring_of",480,.ref 218)::("least_table",494,.ref 225)::t
noncomputable def Cn (t:List (Str×Nat×Value)):List (Str×Nat×Value):=("chain",500,.ref 230)::("latest",515,.ref 237)::("whole_turn",523,.ref 244)::("least_enters",529,.ref 249)::("latest_enters",543,.ref 256)::("tight_waits",549,.ref 261)::("leaves_of",560,.ref 268)::t
noncomputable def Co (t:List (Str×Nat×Value)):List (Str×Nat×Value):=("table_of",566,.ref 273)::("row_of",572,.ref 278)::("BETWEEN_RUNS",576,.str "-" 575)::("AHEAD_OF_GAP",578,.str " clear " 577)::("read",584,.ref 283)::("number_of",594,.ref 290)::("keeps",606,.ref 297)::t
noncomputable def Cp (t:List (Str×Nat×Value)):List (Str×Nat×Value):=("orders_of",612,.ref 302)::("last_arrival",618,.ref 307)::("check_table",627,.ref 314)::("is_whole",633,.ref 319)::("all_in_time",649,.ref 326)::("all_apart",664,.ref 333)::("order_on",670,.ref 338)::t
noncomputable def Cq (t:List (Str×Nat×Value)):List (Str×Nat×Value):=("entries_on",684,.ref 345)::("MOST_FOR_BEST",688,.int 3 687)::("first_come",694,.ref 350)::("best",700,.ref 355)::("longer_plans",706,.ref 360)::("with_entry",712,.ref 365)::("next_entries",718,.ref 370)::t
noncomputable def Cr (t:List (Str×Nat×Value)):List (Str×Nat×Value):=("soonest_enter",724,.ref 375)::("minute_there",736,.ref 382)::("hoped_arrival",742,.ref 387)::("hoped_end",748,.ref 392)::("_law_drawn",761,.ref 399)::("_law_line_by",767,.ref 404)::("_law_trains_by",781,.ref 411)::t
noncomputable def AL (t:List (Str×Nat×Value)):List (Str×Nat×Value):=("_law_way",787,.ref 416)::("_law_users",793,.ref 421)::("_law_marks",801,.ref 428)::("_law_call",811,.ref 435)::("law",817,.ref 440)::t
noncomputable def zo (P:Params) :Obj×Obj×Obj×Obj×Obj×Obj×Obj×Obj:=(kd P (Ci (Cj (Ck (Cl (Cm (Cn (Co (Cp (Cq (Cr (AL []))))))))))) 75,kd P (("__module__",196,.str "haltline.errors" 187)::("__firstlineno__",200,.int 2 199)::("__static_attributes__",201,.ref 22)::("__weakref__",203,.ref 25)::("__doc__",204,.none)::[]) 3,⟨.type "type",none,.cls ⟨"HaltError",[.type "ValueError"],[.ref 24,.type "ValueError",.type "Exception",.type "BaseException",.type "object"],23,"HaltError",true,[],[.ref 37,.ref 49,.ref 61,.ref 73,.ref 85,.ref 97,.ref 109,.ref 121],false,none,false⟩,#[some (.ref 15),none,some (.str "HaltError" 189),some (.str "HaltError" 197),some (.builtin "ValueError.__new__"),some (.bool true)]⟩,kd P (("__module__",214,.str "haltline.errors" 187)::("__firstlineno__",218,.int 4 217)::("__static_attributes__",219,.ref 35)::("__doc__",220,.none)::[]) 2,⟨.type "type",none,.cls ⟨"BadLine",[.ref 24],[.ref 37,.ref 24,.type "ValueError",.type "Exception",.type "BaseException",.type "object"],36,"BadLine",true,[],[],false,none,false⟩,#[some (.ref 28),none,some (.str "BadLine" 207),some (.str "BadLine" 215),some (.builtin "ValueError.__new__"),some (.bool true)]⟩,kd P (("__module__",230,.str "haltline.errors" 187)::("__firstlineno__",234,.int 6 233)::("__static_attributes__",235,.ref 47)::("__doc__",236,.none)::[]) 2,⟨.type "type",none,.cls ⟨"BadTrains",[.ref 24],[.ref 49,.ref 24,.type "ValueError",.type "Exception",.type "BaseException",.type "object"],48,"BadTrains",true,[],[],false,none,false⟩,#[some (.ref 40),none,some (.str "BadTrains" 223),some (.str "BadTrains" 231),some (.builtin "ValueError.__new__"),some (.bool true)]⟩,kd P (("__module__",246,.str "haltline.errors" 187)::("__firstlineno__",250,.int 8 249)::("__static_attributes__",251,.ref 59)::("__doc__",252,.none)::[]) 2)
noncomputable def zp (P:Params) :Obj×Obj×Obj×Obj×Obj×Obj×Obj×Obj:=(⟨.type "type",none,.cls ⟨"BadOrders",[.ref 24],[.ref 61,.ref 24,.type "ValueError",.type "Exception",.type "BaseException",.type "object"],60,"BadOrders",true,[],[],false,none,false⟩,#[some (.ref 52),none,some (.str "BadOrders" 239),some (.str "BadOrders" 247),some (.builtin "ValueError.__new__"),some (.bool true)]⟩,kd P (("__module__",262,.str "haltline.errors" 187)::("__firstlineno__",266,.int 10 265)::("__static_attributes__",267,.ref 71)::("__doc__",268,.none)::[]) 2,⟨.type "type",none,.cls ⟨"BadTable",[.ref 24],[.ref 73,.ref 24,.type "ValueError",.type "Exception",.type "BaseException",.type "object"],72,"BadTable",true,[],[],false,none,false⟩,#[some (.ref 64),none,some (.str "BadTable" 255),some (.str "BadTable" 263),some (.builtin "ValueError.__new__"),some (.bool true)]⟩,kd P (("__module__",278,.str "haltline.errors" 187)::("__firstlineno__",282,.int 12 281)::("__static_attributes__",283,.ref 83)::("__doc__",284,.none)::[]) 2,⟨.type "type",none,.cls ⟨"Sticks",[.ref 24],[.ref 85,.ref 24,.type "ValueError",.type "Exception",.type "BaseException",.type "object"],84,"Sticks",true,[],[],false,none,false⟩,#[some (.ref 76),none,some (.str "Sticks" 271),some (.str "Sticks" 279),some (.builtin "ValueError.__new__"),some (.bool true)]⟩,kd P (("__module__",294,.str "haltline.errors" 187)::("__firstlineno__",298,.int 14 297)::("__static_attributes__",299,.ref 95)::("__doc__",300,.none)::[]) 2,⟨.type "type",none,.cls ⟨"TooSoon",[.ref 24],[.ref 97,.ref 24,.type "ValueError",.type "Exception",.type "BaseException",.type "object"],96,"TooSoon",true,[],[],false,none,false⟩,#[some (.ref 88),none,some (.str "TooSoon" 287),some (.str "TooSoon" 295),some (.builtin "ValueError.__new__"),some (.bool true)]⟩,kd P (("__module__",310,.str "haltline.errors" 187)::("__firstlineno__",314,.int 16 313)::("__static_attributes__",315,.ref 107)::("__doc__",316,.none)::[]) 2)
noncomputable def zq (P:Params) :Obj×Obj×Obj×Obj×Obj×Obj×Obj×Obj:=(⟨.type "type",none,.cls ⟨"TooMany",[.ref 24],[.ref 109,.ref 24,.type "ValueError",.type "Exception",.type "BaseException",.type "object"],108,"TooMany",true,[],[],false,none,false⟩,#[some (.ref 100),none,some (.str "TooMany" 303),some (.str "TooMany" 311),some (.builtin "ValueError.__new__"),some (.bool true)]⟩,kd P (("__module__",326,.str "haltline.errors" 187)::("__firstlineno__",330,.int 18 329)::("__static_attributes__",331,.ref 119)::("__doc__",332,.none)::[]) 2,⟨.type "type",none,.cls ⟨"BadText",[.ref 24],[.ref 121,.ref 24,.type "ValueError",.type "Exception",.type "BaseException",.type "object"],120,"BadText",true,[],[],false,none,false⟩,#[some (.ref 112),none,some (.str "BadText" 319),some (.str "BadText" 327),some (.builtin "ValueError.__new__"),some (.bool true)]⟩,kc "__init__" "Line.__init__" 359 28 3 3 131 181 365,kf "__init__" "Line.__init__" (hG (top 16) 0) "haltline.line" 335 136,kc "runs" "Line.runs" 368 33 1 3 138 181 372,kf "runs" "Line.runs" (hG (top 16) 1) "haltline.line" 335 143,kc "clear" "Line.clear" 375 36 1 3 145 181 379)
noncomputable def zr (P:Params) :Obj×Obj×Obj×Obj×Obj×Obj×Obj×Obj:=(kf "clear" "Line.clear" (hG (top 16) 2) "haltline.line" 335 150,kd P (("__module__",354,.str "haltline.line" 335)::("__firstlineno__",358,.int 26 357)::("__init__",367,.ref 137)::("runs",374,.ref 144)::("clear",381,.ref 151)::("__static_attributes__",384,.ref 152)::("__dict__",386,.ref 155)::("__weakref__",388,.ref 156)::("__doc__",389,.none)::[]) 4,⟨.type "type",none,.cls ⟨"Line",[.type "object"],[.ref 154,.type "object"],153,"Line",true,[],[],false,none,false⟩,#[none,none,some (.str "Line" 347),some (.str "Line" 355),some (.builtin "object.__new__"),some (.bool true)]⟩,kc "check_line" "check_line" 392 38 2 3 159 181 398,kf "check_line" "check_line" (top 17) "haltline.line" 335 164,kc "way" "way" 401 46 2 3 166 181 408,kf "way" "way" (top 18) "haltline.line" 335 171,kc "check_train" "check_train" 411 53 2 3 173 181 419)
noncomputable def zt (P:Params) :Obj×Obj×Obj×Obj×Obj×Obj×Obj×Obj:=(kf "check_train" "check_train" (top 19) "haltline.line" 335 178,kn "ways" "ways" 422 65 2 3 180 181 425,kf "ways" "ways" (top 20) "haltline.line" 335 183,kc "waits_of" "waits_of" 430 70 3 3 185 181 445,kf "waits_of" "waits_of" (top 22) "haltline.waits" 428 190,kn "check_orders" "check_orders" 448 84 3 3 192 181 451,kf "check_orders" "check_orders" (top 23) "haltline.waits" 428 195,kc "in_turn" "in_turn" 454 91 1 3 197 181 460)
noncomputable def zu (P:Params) :Obj×Obj×Obj×Obj×Obj×Obj×Obj×Obj:=(kf "in_turn" "in_turn" (top 24) "haltline.waits" 428 202,kn "freed" "freed" 463 98 2 3 204 181 466,kf "freed" "freed" (top 25) "haltline.waits" 428 207,kn "held_by" "held_by" 469 100 3 3 209 181 472,kf "held_by" "held_by" (top 26) "haltline.waits" 428 212,kn "ring_of" "ring_of" 475 102 2 3 214 181 478,kf "ring_of" "ring_of" (top 27) "haltline.waits" 428 217,kc "least_table" "least_table" 483 110 3 3 219 181 492)
noncomputable def kk6 (P:Params) :Obj×Obj×Obj×Obj×Obj×Obj×Obj×Obj:=(kf "least_table" "least_table" (top 29) "haltline.times" 481 224,kn "chain" "chain" 495 117 3 3 226 181 498,kf "chain" "chain" (top 30) "haltline.times" 481 229,kc "latest" "latest" 501 130 4 3 231 181 513,kf "latest" "latest" (top 31) "haltline.times" 481 236,kc "whole_turn" "whole_turn" 516 139 1 3 238 181 521,kf "whole_turn" "whole_turn" (top 32) "haltline.times" 481 243,kn "least_enters" "least_enters" 524 144 3 3 245 181 527)
noncomputable def zv (P:Params) :Obj×Obj×Obj×Obj×Obj×Obj×Obj×Obj:=(kf "least_enters" "least_enters" (top 33) "haltline.times" 481 248,kc "latest_enters" "latest_enters" 530 150 4 3 250 181 541,kf "latest_enters" "latest_enters" (top 34) "haltline.times" 481 255,kn "tight_waits" "tight_waits" 544 159 3 3 257 181 547,kf "tight_waits" "tight_waits" (top 35) "haltline.times" 481 260,kc "leaves_of" "leaves_of" 550 161 2 3 262 181 558,kf "leaves_of" "leaves_of" (top 36) "haltline.times" 481 267,kn "table_of" "table_of" 561 167 2 3 269 181 564)
noncomputable def zw (P:Params) :Obj×Obj×Obj×Obj×Obj×Obj×Obj×Obj:=(kf "table_of" "table_of" (top 37) "haltline.times" 481 272,kn "row_of" "row_of" 567 169 3 3 274 181 570,kf "row_of" "row_of" (top 38) "haltline.times" 481 277,kn "read" "read" 579 174 1 3 279 181 582,kf "read" "read" (top 42) "haltline.notes" 573 282,kc "number_of" "number_of" 585 183 3 3 284 181 592,kf "number_of" "number_of" (top 43) "haltline.notes" 573 289,kc "keeps" "keeps" 597 189 3 3 291 181 604)
noncomputable def zx (P:Params) :Obj×Obj×Obj×Obj×Obj×Obj×Obj×Obj:=(kf "keeps" "keeps" (top 45) "haltline.tables" 595 296,kn "orders_of" "orders_of" 607 194 3 3 298 181 610,kf "orders_of" "orders_of" (top 46) "haltline.tables" 595 301,kn "last_arrival" "last_arrival" 613 198 3 3 303 181 616,kf "last_arrival" "last_arrival" (top 47) "haltline.tables" 595 306,kc "check_table" "check_table" 619 202 3 3 308 181 625,kf "check_table" "check_table" (top 48) "haltline.tables" 595 313,kn "is_whole" "is_whole" 628 205 2 3 315 181 631)
noncomputable def pK (P:Params) :Obj×Obj×Obj×Obj×Obj×Obj×Obj×Obj:=(kf "is_whole" "is_whole" (top 49) "haltline.tables" 595 318,kc "all_in_time" "all_in_time" 634 207 4 3 320 181 647,kf "all_in_time" "all_in_time" (top 50) "haltline.tables" 595 325,kc "all_apart" "all_apart" 650 216 3 3 327 181 662,kf "all_apart" "all_apart" (top 51) "haltline.tables" 595 332,kn "order_on" "order_on" 665 224 3 3 334 181 668,kf "order_on" "order_on" (top 52) "haltline.tables" 595 337,kc "entries_on" "entries_on" 671 226 3 3 339 181 682)
noncomputable def pL (P:Params) :Obj×Obj×Obj×Obj×Obj×Obj×Obj×Obj:=(kf "entries_on" "entries_on" (top 53) "haltline.tables" 595 344,kn "first_come" "first_come" 689 235 2 3 346 181 692,kf "first_come" "first_come" (top 56) "haltline.plans" 685 349,kn "best" "best" 695 244 2 3 351 181 698,kf "best" "best" (top 57) "haltline.plans" 685 354,kn "longer_plans" "longer_plans" 701 262 4 3 356 181 704,kf "longer_plans" "longer_plans" (top 58) "haltline.plans" 685 359,kn "with_entry" "with_entry" 707 266 2 3 361 181 710)
noncomputable def pM (P:Params) :Obj×Obj×Obj×Obj×Obj×Obj×Obj×Obj:=(kf "with_entry" "with_entry" (top 59) "haltline.plans" 685 364,kn "next_entries" "next_entries" 713 270 4 3 366 181 716,kf "next_entries" "next_entries" (top 60) "haltline.plans" 685 369,kn "soonest_enter" "soonest_enter" 719 273 5 3 371 181 722,kf "soonest_enter" "soonest_enter" (top 61) "haltline.plans" 685 374,kc "minute_there" "minute_there" 725 278 5 3 376 181 734,kf "minute_there" "minute_there" (top 62) "haltline.plans" 685 381,kn "hoped_arrival" "hoped_arrival" 737 283 4 3 383 181 740)
noncomputable def pO (P:Params) :Obj×Obj×Obj×Obj×Obj×Obj×Obj×Obj:=(kf "hoped_arrival" "hoped_arrival" (top 63) "haltline.plans" 685 386,kn "hoped_end" "hoped_end" 743 285 5 3 388 181 746,kf "hoped_end" "hoped_end" (top 64) "haltline.plans" 685 391,kc "_law_drawn" "_law_drawn" 751 292 3 3 393 181 759,kf "_law_drawn" "_law_drawn" (top 66) "law_haltline_k14_refusals_apart" 749 398,kn "_law_line_by" "_law_line_by" 762 299 2 3 400 181 765,kf "_law_line_by" "_law_line_by" (top 67) "law_haltline_k14_refusals_apart" 749 403,kc "_law_marks" "_law_marks" 794 319 1 3 422 181 799)
noncomputable def vt (P:Params) :Obj×Obj×Obj×Obj×Obj:=(kf "_law_marks" "_law_marks" (top 71) "law_haltline_k14_refusals_apart" 749 427,kc "_law_call" "_law_call" 802 323 4 3 429 181 809,kf "_law_call" "_law_call" (top 72) "law_haltline_k14_refusals_apart" 749 434,kn "law" "law" 812 340 1 3 436 181 815,kf "law" "law" (top 73) "law_haltline_k14_refusals_apart" 749 439)
noncomputable def KK (P:Params):W.Frag:=
 (nat_lit 3,(zo P).1) ::
 (nat_lit 23,(zo P).2.1) ::
 (nat_lit 24,(zo P).2.2.1) ::
 (nat_lit 36,(zo P).2.2.2.1) ::
 (nat_lit 37,(zo P).2.2.2.2.1) ::
 (nat_lit 48,(zo P).2.2.2.2.2.1) ::
 (nat_lit 49,(zo P).2.2.2.2.2.2.1) ::
 (nat_lit 60,(zo P).2.2.2.2.2.2.2) ::
 (nat_lit 61,(zp P).1) ::
 (nat_lit 72,(zp P).2.1) ::
 (nat_lit 73,(zp P).2.2.1) ::
 (nat_lit 84,(zp P).2.2.2.1) ::
 (nat_lit 85,(zp P).2.2.2.2.1) ::
 (nat_lit 96,(zp P).2.2.2.2.2.1) ::
 (nat_lit 97,(zp P).2.2.2.2.2.2.1) ::
 (nat_lit 108,(zp P).2.2.2.2.2.2.2) ::
 (nat_lit 109,(zq P).1) ::
 (nat_lit 120,(zq P).2.1) ::
 (nat_lit 121,(zq P).2.2.1) ::
 (nat_lit 136,(zq P).2.2.2.1) ::
 (nat_lit 137,(zq P).2.2.2.2.1) ::
 (nat_lit 143,(zq P).2.2.2.2.2.1) ::
 (nat_lit 144,(zq P).2.2.2.2.2.2.1) ::
 (nat_lit 150,(zq P).2.2.2.2.2.2.2) ::
 (nat_lit 151,(zr P).1) ::
 (nat_lit 153,(zr P).2.1) ::
 (nat_lit 154,(zr P).2.2.1) ::
 (nat_lit 164,(zr P).2.2.2.1) ::
 (nat_lit 165,(zr P).2.2.2.2.1) ::
 (nat_lit 171,(zr P).2.2.2.2.2.1) ::
 (nat_lit 172,(zr P).2.2.2.2.2.2.1) ::
 (nat_lit 178,(zr P).2.2.2.2.2.2.2) ::
 (nat_lit 179,(zt P).1) ::
 (nat_lit 183,(zt P).2.1) ::
 (nat_lit 184,(zt P).2.2.1) ::
 (nat_lit 190,(zt P).2.2.2.1) ::
 (nat_lit 191,(zt P).2.2.2.2.1) ::
 (nat_lit 195,(zt P).2.2.2.2.2.1) ::
 (nat_lit 196,(zt P).2.2.2.2.2.2.1) ::
 (nat_lit 202,(zt P).2.2.2.2.2.2.2) ::
 (nat_lit 203,(zu P).1) ::
 (nat_lit 207,(zu P).2.1) ::
 (nat_lit 208,(zu P).2.2.1) ::
 (nat_lit 212,(zu P).2.2.2.1) ::
 (nat_lit 213,(zu P).2.2.2.2.1) ::
 (nat_lit 217,(zu P).2.2.2.2.2.1) ::
 (nat_lit 218,(zu P).2.2.2.2.2.2.1) ::
 (nat_lit 224,(zu P).2.2.2.2.2.2.2) ::
 (nat_lit 225,(kk6 P).1) ::
 (nat_lit 229,(kk6 P).2.1) ::
 (nat_lit 230,(kk6 P).2.2.1) ::
 (nat_lit 236,(kk6 P).2.2.2.1) ::
 (nat_lit 237,(kk6 P).2.2.2.2.1) ::
 (nat_lit 243,(kk6 P).2.2.2.2.2.1) ::
 (nat_lit 244,(kk6 P).2.2.2.2.2.2.1) ::
 (nat_lit 248,(kk6 P).2.2.2.2.2.2.2) ::
 (nat_lit 249,(zv P).1) ::
 (nat_lit 255,(zv P).2.1) ::
 (nat_lit 256,(zv P).2.2.1) ::
 (nat_lit 260,(zv P).2.2.2.1) ::
 (nat_lit 261,(zv P).2.2.2.2.1) ::
 (nat_lit 267,(zv P).2.2.2.2.2.1) ::
 (nat_lit 268,(zv P).2.2.2.2.2.2.1) ::
 (nat_lit 272,(zv P).2.2.2.2.2.2.2) ::
 (nat_lit 273,(zw P).1) ::
 (nat_lit 277,(zw P).2.1) ::
 (nat_lit 278,(zw P).2.2.1) ::
 (nat_lit 282,(zw P).2.2.2.1) ::
 (nat_lit 283,(zw P).2.2.2.2.1) ::
 (nat_lit 289,(zw P).2.2.2.2.2.1) ::
 (nat_lit 290,(zw P).2.2.2.2.2.2.1) ::
 (nat_lit 296,(zw P).2.2.2.2.2.2.2) ::
 (nat_lit 297,(zx P).1) ::
 (nat_lit 301,(zx P).2.1) ::
 (nat_lit 302,(zx P).2.2.1) ::
 (nat_lit 306,(zx P).2.2.2.1) ::
 (nat_lit 307,(zx P).2.2.2.2.1) ::
 (nat_lit 313,(zx P).2.2.2.2.2.1) ::
 (nat_lit 314,(zx P).2.2.2.2.2.2.1) ::
 (nat_lit 318,(zx P).2.2.2.2.2.2.2) ::
 (nat_lit 319,(pK P).1) ::
 (nat_lit 325,(pK P).2.1) ::
 (nat_lit 326,(pK P).2.2.1) ::
 (nat_lit 332,(pK P).2.2.2.1) ::
 (nat_lit 333,(pK P).2.2.2.2.1) ::
 (nat_lit 337,(pK P).2.2.2.2.2.1) ::
 (nat_lit 338,(pK P).2.2.2.2.2.2.1) ::
 (nat_lit 344,(pK P).2.2.2.2.2.2.2) ::
 (nat_lit 345,(pL P).1) ::
 (nat_lit 349,(pL P).2.1) ::
 (nat_lit 350,(pL P).2.2.1) ::
 (nat_lit 354,(pL P).2.2.2.1) ::
 (nat_lit 355,(pL P).2.2.2.2.1) ::
 (nat_lit 359,(pL P).2.2.2.2.2.1) ::
 (nat_lit 360,(pL P).2.2.2.2.2.2.1) ::
 (nat_lit 364,(pL P).2.2.2.2.2.2.2) ::
 (nat_lit 365,(pM P).1) ::
 (nat_lit 369,(pM P).2.1) ::
 (nat_lit 370,(pM P).2.2.1) ::
 (nat_lit 374,(pM P).2.2.2.1) ::
 (nat_lit 375,(pM P).2.2.2.2.1) ::
 (nat_lit 381,(pM P).2.2.2.2.2.1) ::
 (nat_lit 382,(pM P).2.2.2.2.2.2.1) ::
 (nat_lit 386,(pM P).2.2.2.2.2.2.2) ::
 (nat_lit 387,(pO P).1) ::
 (nat_lit 391,(pO P).2.1) ::
 (nat_lit 392,(pO P).2.2.1) ::
 (nat_lit 398,(pO P).2.2.2.1) ::
 (nat_lit 399,(pO P).2.2.2.2.1) ::
 (nat_lit 403,(pO P).2.2.2.2.2.1) ::
 (nat_lit 404,(pO P).2.2.2.2.2.2.1) ::
 (nat_lit 427,(pO P).2.2.2.2.2.2.2) ::
 (nat_lit 428,(vt P).1) ::
 (nat_lit 434,(vt P).2.1) ::
 (nat_lit 435,(vt P).2.2.1) ::
 (nat_lit 439,(vt P).2.2.2.1) ::
 (nat_lit 440,(vt P).2.2.2.2) ::
 []
end K14
def PySem.W.Fast.tw11036560126256553419 := 0
def PySem.W.Fast.tw4128705832175133239 := 0
def PySem.W.Fast.tw4339070541082552737 := 0
def PySem.W.Fast.tw16947524238720978589 := 0
def PySem.W.Fast.tw4011867325545161292 := 0
def PySem.W.Fast.tw9301204194269638239 := 0
def PySem.W.Fast.tw299704288314186117 := 0
def PySem.W.Fast.tw2818038356384406873 := 0
def PySem.W.Fast.tw16612790311456493190 := 0
def PySem.W.Fast.tw10498796467429032247 := 0
def PySem.W.Fast.tw11576424808271392919 := 0
def PySem.W.Fast.tw11917156794368106263 := 0
def PySem.W.Fast.tw11761502882644758392 := 0
def PySem.W.Fast.tw16826137380499798594 := 0
def PySem.W.Fast.tw16358305445374555801 := 0
def PySem.W.Fast.tw11690507586292495063 := 0
def PySem.W.Fast.tw7991498615123763876 := 0
def PySem.W.Fast.tw11115481605086081835 := 0
def PySem.W.Fast.tw11569017673318897873 := 0
def PySem.W.Fast.tw18015297137682026482 := 0
def PySem.W.Fast.tw8876059995030528819 := 0
def PySem.W.Fast.tw995505593273438194 := 0
def PySem.W.Fast.tw5797316823942699499 := 0
def PySem.W.Fast.tw2568701215343569919 := 0
def PySem.W.Fast.tw11350253216687113734 := 0
def PySem.W.Fast.tw11300856281926429522 := 0
def PySem.W.Fast.tw2684427442820196258 := 0
def PySem.W.Fast.tw15687811565482313360 := 0
def PySem.W.Fast.tw16170234998636194948 := 0
open PySem PySem.W PyProof.Rows
set_option maxRecDepth 100000 in
set_option maxHeartbeats 0 in
theorem PySem.Challenge.cw_haltline_k14_refusals_apart_holds : PySem.Challenge.rw_haltline_k14_refusals_apart.Holds := by
 w_on;o_law;(o_head (kHook K14.KK (3::23::24::36::37::48::49::60::61::72::73::84::85::96::97::108::109::120::121::136::137::143::144::150::151::153::154::164::165::171::172::178::179::183::184::190::191::195::196::202::203::207::208::212::213::217::218::224::225::229::230::236::237::243::244::248::249::255::256::260::261::267::268::272::273::277::278::282::283::289::290::296::297::301::302::306::307::313::314::318::319::325::326::332::333::337::338::344::345::349::350::354::355::359::360::364::365::369::370::374::375::381::382::386::387::391::392::398::399::403::404::427::428::434::435::439::440::[]) (fun _=>by kernel_rfl)));(case hw=>w_witness2)
 k_fill
 refine L2.vx 9 (l:=PySem.Challenge.rw_haltline_k14_refusals_apart) ⟨rfl,by decide,by decide⟩ rfl rfl (fun w h Y=>PySem.W.kIn_of Y) ?F
 case F=>
  intro w mg fa h KX G hmg
  refine' K14.zO KX G hmg ?_ ?_ ?_ ?_ ?_ ?_ ?_ ?_ ?_ ?_ ?_ ?_ ?_ ?_ ?_ ?_ ?_ ?_ ?_ ?_ ?_ ?_ ?_ ?_ ?_ ?_ ?_ ?_ ?_ ?_ ?_ ?_ ?_ ?_ ?_ ?_ ?_ ?_ ?_ ?_ ?_ ?_ ?_ ?_ ?_ ?_ ?_ ?_ ?_ ?_ ?_ ?_ ?_ ?_ ?_ ?_ ?_ ?_ ?_ ?_ ?_ ?_ ?_ ?_ ?_ ?_ ?_ ?_ ?_ ?_ ?_ ?_ ?_ ?_ ?_ ?_ ?_ ?_ ?_ ?_ ?_ ?_ ?_ ?_ ?_ ?_ ?_ ?_ ?_ ?_ ?_ ?_ ?_ ?_ ?_ ?_ ?_ ?_ ?_ ?_ ?_ ?_ ?_ ?_ ?_ ?_ ?_ ?_ ?_ ?_ ?_ ?_ ?_ ?_ ?_ ?_ ?_ ?_ ?_ ?_ ?_ ?_ ?_ ?_ ?_ ?_ ?_ ?_ ?_ ?_ ?_ ?_ ?_ ?_ ?_ ?_ ?_ ?_ ?_ ?_ ?_ ?_ ?_ ?_ ?_ ?_ ?_ ?_ ?_ ?_ ?_ ?_ ?_ ?_ ?_ ?_ ?_ ?_ ?_ ?_ ?_ ?_ ?_ ?_ ?_ ?_ ?_ ?_ ?_ ?_ ?_ ?_ ?_ ?_ ?_ ?_ ?_ ?_ ?_ ?_ ?_ ?_ ?_ ?_ ?_ ?_ ?_ ?_ ?_ ?_ ?_ ?_ ?_ ?_ ?_ ?_ ?_ ?_ ?_ ?_ ?_ ?_ ?_ ?_ ?_ ?_ ?_ ?_ ?_ ?_ ?_ ?_ ?_ ?_ ?_ ?_ ?_ ?_ ?_ ?_ ?_ ?_ ?_ ?_ ?_ ?_ ?_ ?_ ?_ ?_ ?_ ?_ ?_ ?_ ?_ ?_ ?_ ?_ ?_ ?_ ?_ ?_ ?_ ?_ ?_ ?_ ?_ ?_ ?_ ?_ ?_ ?_ ?_ ?_ ?_ ?_ ?_ ?_ ?_ ?_ ?_ ?_ ?_ ?_ ?_ ?_
  all_goals first|k_is|exact⟨_,by k_is,_,_,_,by k_is,by k_is⟩|exact⟨_,_,_,_,_,_,_,_,_,_,_,_,_,_,_,_,by k_is,by kernel_rfl,by k_is,by kernel_rfl⟩|rfl|k_exc|decide|skip
#print axioms PySem.Challenge.cw_haltline_k14_refusals_apart_holds
