import PyProof.Rows.All
import Wide.All
import OpenK.AllK
import Wide.FinOn
import Lean
import PyProof.EqAt
import PyProof.EqKinds
import PyProof.TupleCall
import PyProof.NeKinds
import PyProof.StrLawsTight
import PyProof.Conv_int
import PyProof.StrLawsRepr
import PyProof.ReprStr
import KE.KSortTup
import KE.KRevSl
import PyProof.DictIter
import PyProof.DictValues
import PyProof.DictTruth
import PySem.Challenge.RW_haltline_k06_whole_chains
open List(all_eq_true any_cons any_map any_toArray append_assoc append_nil ext_getElem ext_getElem? filterMap_map filter_eq_nil_iff find?_cons flatMap_append flatMap_cons flatMap_singleton flatten_cons getD_eq_getElem?_getD getElem?_append_left getElem?_append_right getElem?_eq_none getElem?_map getElem?_reverse getElem?_set_ne getElem?_set_self getElem_mem length_append length_cons length_map length_nil length_pos_iff length_range length_reverse length_singleton length_take length_zip length_zipIdx lookup_cons map_append map_congr_left map_cons map_map map_nil mem_append mem_append_left mem_append_right mem_cons mem_cons_of_mem mem_cons_self mem_filter mem_filterMap mem_flatMap mem_map mem_of_getElem? mem_range mem_singleton nil_append nodup_append nodup_cons nodup_nil nodup_range not_mem_nil of_mem_zip pairwise_append pairwise_map replicate replicate_succ reverse_cons size_toArray)
open Nat(le_add_right le_of_lt le_refl le_succ le_trans lt_irrefl lt_of_lt_of_le lt_succ_of_lt lt_succ_self ne_of_gt ne_of_lt sub_self zero_le)
open Bool(and_eq_true false_eq_true or_eq_true)
open Int(toNat_natCast)
open Array(getElem?_eq_getElem getElem?_toList length_toList toList)
open Option(bind_some getD_none isSome_map map_some)
set_option Elab.async false
set_option linter.all false
set_option maxRecDepth 100000
set_option bootstrap.genMatcherCode false
set_option genSizeOf false
set_option compiler.extract_closed false
namespace L2
open PySem PySem.Spec PyProof.Rows
theorem gz {α:Type}{l:List α}{i:Nat}{a:α}(h:l[i]?=some a):∃h:i<l.length,l[i]=a:=List.getElem?_eq_some_iff.mp h
theorem eB {α:Type}{a b:α}{l:List α}(h:a∈l):a∈b::l:=.tail _ h
theorem iN {α:Type}{l:List α}{i:Nat}(h:i<l.length):l[i]?=some l[i]:=List.getElem?_eq_getElem h
noncomputable abbrev bw:=Sum Int Str
noncomputable def pA:bw→Value→Bool
 |.inl k,v=>Value.isInt k v
 |.inr x,v=>Value.isStrOf x v
noncomputable def E2 (w:World):bw→Int
 |.inl k=>hashInt k
 |.inr x=>hashStr w x
theorem bN:∀{k:bw} {v:Value},pA k v=true→(∃i t,k=Sum.inl i∧v=Value.int i t)∨(∃x t,k=Sum.inr x∧v=Value.str x t)
 |.inl i,v,h=>by
  obtain⟨t,e⟩:=Value.isInt_shape (k:=i) (v:=v) h;exact .inl ⟨i,t,rfl,e⟩
 |.inr x,v,h=>by
  obtain⟨t,e⟩:=Value.isStrOf_shape (x:=x) (v:=v) h;exact .inr ⟨x,t,rfl,e⟩
theorem wf (i:Int)(t:Tok):pA (.inl i) (.int i t)=true:=by simp[pA,Value.isInt]
theorem wg (x:Str)(t:Tok):pA (.inr x) (.str x t)=true:=by simp[pA,Value.isStrOf]
theorem CD (a b:Int):decide ((Sum.inl a:bw)=Sum.inl b)=(a==b):=by
 by_cases e:a=b
 ·subst e;simp
 ·have h:¬(Sum.inl a:bw)=Sum.inl b:=fun q=>e (Sum.inl.inj q);rw[decide_eq_false h];exact(beq_eq_false_iff_ne.mpr e).symm
theorem CH (a b:Str):decide ((Sum.inr a:bw)=Sum.inr b)=decide (a=b):=by
 by_cases e:a=b
 ·subst e;simp
 ·have h:¬(Sum.inr a:bw)=Sum.inr b:=fun q=>e (Sum.inr.inj q);rw[decide_eq_false h,decide_eq_false e]
theorem CF (a:Int)(b:Str):decide ((Sum.inl a:bw)=Sum.inr b)=false:=decide_eq_false (fun q=>nomatch q)
theorem CG (a:Str)(b:Int):decide ((Sum.inr a:bw)=Sum.inl b)=false:=decide_eq_false (fun q=>nomatch q)
noncomputable def bG (prog:Program)(w:World):PySem.KeyKind prog w bw where
 is:=pA
 hash:=E2 w
 inj:=fun v a b ha hb=>by
  rcases bN ha with ⟨i,t,rfl,rfl⟩|⟨x,t,rfl,rfl⟩
  ·rcases bN hb with ⟨j,u,rfl,e⟩|⟨y,u,rfl,e⟩
   ·injection e with e1 _;rw[e1]
   ·exact nomatch e
  ·rcases bN hb with ⟨j,u,rfl,e⟩|⟨y,u,rfl,e⟩
   ·exact nomatch e
   ·injection e with e1 _;rw[e1]
 byValue:=fun k v h=>by
  rcases bN h with ⟨i,t,rfl,rfl⟩|⟨x,t,rfl,rfl⟩ <;> rfl
 pyHash:=fun hv h=>by
  rcases bN hv with ⟨i,t,rfl,rfl⟩|⟨x,t,rfl,rfl⟩
  ·exact wpAny_pyHash_int h
  ·exact wpAny_pyHash_str h
 eqBool:=fun hu hv h=>by
  rcases bN hu with ⟨i,t,rfl,rfl⟩|⟨x,t,rfl,rfl⟩
  ·rcases bN hv with ⟨j,u,rfl,rfl⟩|⟨y,u,rfl,rfl⟩
   ·rw[CD]at h;exact wpAny_eqBool_int h
   ·rw[CF]at h;exact SeqAt.EqAt.int_str i t y u _ _ _ _ h
  ·rcases bN hv with ⟨j,u,rfl,rfl⟩|⟨y,u,rfl,rfl⟩
   ·rw[CG]at h;exact SeqAt.EqAt.str_int x t j u _ _ _ _ h
   ·rw[CH]at h;exact wpAny_eqBool_str h
 «strs»:=fun k x t v h=>by
  rcases bN h with ⟨i,u,rfl,e⟩|⟨y,u,rfl,e⟩
  ·exact nomatch e
  ·injection e with e1 _
   subst e1;cases v <;> rfl
theorem sr (prog:Program)(w:World)(i:Int)(t:Tok):(bG prog w).is (.inl i) (.int i t)=true:=wf i t
theorem su (prog:Program)(w:World)(x:Str)(t:Tok):(bG prog w).is (.inr x) (.str x t)=true:=wg x t
inductive V where
 |non|bl (b:Bool)|int (i:Int)|str (x:Str)|byt (b:Array UInt8)|flt (b:UInt64)|ref (a:Addr)|ty (n:String)
 deriving DecidableEq
noncomputable def RelV:V→Value→Prop
 |.non,u=>u=Value.none
 |.bl b,u=>u=Value.bool b
 |.int i,u=>∃t,u=Value.int i t
 |.str x,u=>∃t,u=Value.str x t
 |.byt b,u=>∃t,u=Value.bytes b t
 |.flt b,u=>∃t,u=Value.float b t
 |.ref a,u=>u=Value.ref a
 |.ty n,u=>u=Value.type n
noncomputable abbrev Vals:List V→List Value→Prop:=Paired RelV
theorem Vals.length {xs:List V}{us:List Value}(r:Vals xs us):xs.length=us.length:=Paired.length r
theorem Vals.get:∀{xs:List V} {us:List Value} {i:Nat} {x:V},Vals xs us→xs[i]?=some x→∃u,us[i]?=some u∧RelV x u
 |_,_,_,_,.nil,e=>by simp at e
 |_,_,0,_,.cons r _,e=>by simp at e;subst e;exact⟨_,rfl,r⟩
 |_,_,i+1,x,.cons _ t,e=>by
  obtain⟨u,h1,h2⟩:=Vals.get (i:=i) (x:=x) t (by simpa using e);exact⟨u,by simpa using h1,h2⟩
theorem Vals.append:∀{xs ys:List V} {us ws:List Value},Vals xs us→Vals ys ws→Vals (xs ++ ys) (us ++ ws)
 |_,_,_,_,.nil,s=>s
 |_,_,_,_,.cons r t,s=>.cons r (Vals.append t s)
theorem Vals.take:∀{xs:List V} {us:List Value} (n:Nat),Vals xs us→Vals (xs.take n) (us.take n)
 |_,_,0,_=>.nil
 |_,_,_+1,.nil=>.nil
 |_,_,n+1,.cons r t=>.cons r (Vals.take n t)
theorem Vals.drop:∀{xs:List V} {us:List Value} (n:Nat),Vals xs us→Vals (xs.drop n) (us.drop n)
 |_,_,0,r=>r
 |_,_,_+1,.nil=>.nil
 |_,_,n+1,.cons _ t=>Vals.drop n t
noncomputable def RelO:Option V→Option Value→Prop
 |some v,some u=>RelV v u
 |none,none=>True
 |_,_=>False
noncomputable def KV {κ:Type}:List (κ×V)→List (κ×Value)→Prop:=Paired fun (p:κ×V) (q:κ×Value)=>p.1=q.1∧RelV p.2 q.2
noncomputable def kV:bw→V
 |.inl i=>.int i
 |.inr x=>.str x
inductive HO where
 /-- a list -/
 |lst (xs:List V)
 /-- a tuple (never changes) -/
 |tup (xs:List V)
 /-- a dict whose keys are ints and texts;one whose keys are tuples of ints and texts (the empty one is both) -/
 |dK (kvs:List (bw×V))|dT (kvs:List (List bw×V))
 /-- a set of ints:its members,its size -/
 |set (S:Int→Bool) (n:Nat)
 /-- an instance of the class at C,its dict at dx,its attributes -/
 |ins (C dx:Addr) (fs:List (Str×V))
 /-- the dict of the instance at x -/
 |own (x:Addr)
 /-- the dict of an exception -/
 |xd (fs:List (Str×V))
 /-- a bound method,f of x -/
 |met (f x:Addr)
 /-- a range object lo,lo+1,.. below hi -/
 |rng (lo hi:Int)
 /-- a thing that is known to the object (the script;a dict while a loop walks it):read,never written while it is so -/
 |frz (o:Obj) (u:HO)
 /-- a code object's table -/
 |tbl (ps:Array Value)
 /-- any other thing,by what is true of its one object (a def of one's own:SetO a S n:=HO.ext fun h=> ..) -/
 |ext (φ:Heap→Prop)
noncomputable abbrev Hp:=Addr→Option HO
noncomputable def a9 (H:Hp)(a:Addr)(o:HO):Hp:=fun b=>if b=a then some o else H b
theorem aq {H:Hp}{a:Addr}{o:HO}:a9 H a o a=some o:=by unfold a9;rw[if_pos rfl]
theorem ak {H:Hp}{a b:Addr}{o:HO}(h:b≠a):a9 H a o b=H b:=by unfold a9;rw[if_neg h]
theorem Ee {H:Hp}{a b:Addr}{o u:HO}(h:H a=some o)(h':H b=some u)(d:o≠u):a≠b:=by
 intro e;subst e;rw[h]at h';exact d (Option.some.inj h')
theorem az {H:Hp}{a b:Addr}{o:HO}(h:H a=some o)(h':H b=none):a≠b:=by
 intro e;subst e;rw[h]at h';cases h'
section
variable(P:Program)(w:World)
noncomputable def ObjOk (H:Hp)(h:Heap)(a:Addr):HO→Prop
 |.lst xs=>xs.length≤sizeLine∧∃(its:List Value) (n:Nat),Vals xs its∧h.get? a=some {cls:=.type "list",data:=.seq its.toArray n}
 |.tup xs=>xs.length≤sizeLine∧∃its:List Value,Vals xs its∧IsTup h a its.toArray
 |.dK kvs=>kvs.length≤sizeLine∧(a==sysModules)=false∧∃vs,KV kvs vs∧h.DictOf (bG P w) a vs
 |.dT kvs=>kvs.length≤sizeLine∧(a==sysModules)=false∧∃xs:List (List bw×Addr×Value),
   Paired (fun (p:List bw×V) (q:List bw×Addr×Value)=>p.1=q.1∧H q.2.1=some (.tup (p.1.map kV))∧RelV p.2 q.2.2) kvs xs∧
   ∃o es ep,h.get? a=some o∧o.ExactDict∧o.data= .dict es ep∧es.toList=xs.map (entryOfKey (tupleKind (bG P w)))∧(xs.map (·.1)).Nodup
 |.set S n=>h.SetOf (intKind P w) a S n
 |.ins C dx fs=>H dx=some (.own a)∧fs.length≤1000∧dx≠a∧h.get? a=some (W.instObj C dx)∧
   ∃mA,h.Ns1 dx mA∧(∀f,RelO (fs.lookup f) (mA f))∧PySem.Within mA (fs.map (·.1))
 |.own _=>∃o,h.get? a=some o
 |.xd fs=>∃mA,h.Ns1 a mA∧∀f,RelO (fs.lookup f) (mA f)
 |.rng lo hi=>∃t u v,h.get? a=some {cls:=.type "range",data:=.fields #[.int lo t,.int hi u,.int 1 v]}
 |.frz o u=>h.get? a=some o∧ObjOk H h a u
 |.tbl ps=>h.get? a=some {cls:=.none,data:=.fields ps}
 |.met f x=>h.get? a=some (W.methodObj (.ref f) (.ref x))
 |.ext φ=>φ h∧(∃o,h.get? a=some o)∧∀h1 h2:Heap,φ h1→(∀o,h1.get? a=some o→h2.get? a=some o)→φ h2
noncomputable def HOk (H:Hp)(h:Heap):Prop:=∀a o,H a=some o→ObjOk P w H h a o
end
section
variable{P:Program}{w:World}{H H':Hp}{h h':Heap}{a:Addr}{o:HO}
theorem ObjOk.lt (x:ObjOk P w H h a o):a<h.objs.size:=by
 cases o with
 |lst xs=>obtain⟨_,_,_,_,e⟩:=x;exact Heap.lt_size e
 |tup xs=>obtain⟨_,_,_,p⟩:=x;exact p.lt
 |dK kvs=>obtain⟨_,_,_,_,o,_,_,e,_⟩:=x;exact Heap.lt_size e
 |dT kvs=>obtain⟨_,_,_,_,o,_,_,e,_⟩:=x;exact Heap.lt_size e
 |set S n=>obtain⟨o,_,_,_,e,_⟩:=x;exact Heap.lt_size e
 |ins C dx fs=>obtain⟨_,_,_,e,_⟩:=x;exact Heap.lt_size e
 |own y=>obtain⟨_,e⟩:=x;exact Heap.lt_size e
 |xd fs=>obtain⟨_,⟨_,_,_,e,_⟩,_⟩:=x;exact Heap.lt_size e
 |rng lo hi=>obtain⟨_,_,_,e⟩:=x;exact Heap.lt_size e
 |frz ob u=>obtain⟨e,_⟩:=x;exact Heap.lt_size e
 |tbl ps=>exact Heap.lt_size (show h.get? a=some _ from x)
 |met f y=>exact Heap.lt_size (show h.get? a=some _ from x)
 |ext φ=>obtain⟨_,⟨_,e⟩,_⟩:=x;exact Heap.lt_size e
theorem Paired.mapP {α β:Type}{F G:α→β→Prop}:∀{l₁:List α} {l₂:List β},Paired F l₁ l₂→(∀a b,F a b→G a b)→Paired G l₁ l₂
 |_,_,.nil,_=>.nil
 |_,_,.cons r t,f=>.cons (f _ _ r) (Paired.mapP t f)
theorem ObjOk.stay (x:ObjOk P w H h a o)(k:∀b u,(b=a∨H b=some (.own a))→h.get? b=some u→h'.get? b=some u)
  (ho:∀b,H b=some (.own a)→H' b=some (.own a)) (ht:∀b xs,H b=some (.tup xs)→H' b=some (.tup xs)):ObjOk P w H' h' a o:=by
 induction o with
 |lst xs=>obtain⟨z,its,n,r,e⟩:=x;exact⟨z,its,n,r,k _ _ (.inl rfl) e⟩
 |tup xs=>obtain⟨z,its,r,g,e,c⟩:=x;exact⟨z,its,r,g,k _ _ (.inl rfl) e,c⟩
 |dK kvs=>obtain⟨z,y,vs,r,g,j,i,e,c⟩:=x;exact⟨z,y,vs,r,g,j,i,k _ _ (.inl rfl) e,c⟩
 |dT kvs=>
  obtain⟨z,y,xs,r,g,j,i,e,c⟩:=x;exact⟨z,y,xs,Paired.mapP r fun p q z=>⟨z.1,ht _ _ z.2.1,z.2.2⟩,g,j,i,k _ _ (.inl rfl) e,c⟩
 |set S n=>obtain⟨g,j,i,t,e,c⟩:=x;exact⟨g,j,i,t,k _ _ (.inl rfl) e,c⟩
 |ins C dx fs=>
  obtain⟨d,z,ne,e,mA,⟨od,j,i,e2,c⟩,r⟩:=x;exact⟨ho _ d,z,ne,k _ _ (.inl rfl) e,mA,⟨od,j,i,k _ _ (.inr d) e2,c⟩,r⟩
 |own y=>obtain⟨g,e⟩:=x;exact⟨g,k _ _ (.inl rfl) e⟩
 |xd fs=>obtain⟨mA,⟨od,j,i,e,c⟩,r⟩:=x;exact⟨mA,⟨od,j,i,k _ _ (.inl rfl) e,c⟩,r⟩
 |rng lo hi=>obtain⟨t,u,v,e⟩:=x;exact⟨t,u,v,k _ _ (.inl rfl) e⟩
 |frz g u ih=>obtain⟨e,q⟩:=x;exact⟨k _ _ (.inl rfl) e,ih q⟩
 |tbl ps=>
  have e:h.get? a=some {cls:=.none,data:=.fields ps}:=x;show h'.get? a=some {cls:=.none,data:=.fields ps};exact k a _ (.inl rfl) e
 |met f y=>
  have e:h.get? a=some (W.methodObj (.ref f) (.ref y)):=x;show h'.get? a=some (W.methodObj (.ref f) (.ref y));exact k a _ (.inl rfl) e
 |ext φ=>obtain⟨p,⟨o,e⟩,st⟩:=x;exact⟨st _ _ p fun o q=>k _ _ (.inl rfl) q,⟨o,k _ _ (.inl rfl) e⟩,st⟩
theorem HOk.lt (x:HOk P w H h)(e:H a=some o):a<h.objs.size:=(x a o e).lt
theorem HOk.fresh (x:HOk P w H h)(e:h.objs.size≤a):H a=none:=by
 cases q:H a with
 |none=>rfl
 |some u=>exact absurd (lt_of_lt_of_le (x.lt q) e) (lt_irrefl _)
theorem HOk.kept (x:HOk P w H h)(k:∀b u,h.get? b=some u→h'.get? b=some u):HOk P w H h':=fun a o e=>
 (x a o e).stay (fun b u _ q=>k b u q) (fun _ q=>q) fun _ _ q=>q
theorem HOk.laid (x:HOk P w H h)(k:∀b u,h.get? b=some u→h'.get? b=some u)(hp:h.objs.size≤a)(new:ObjOk P w (a9 H a o) h' a o):HOk P w (a9 H a o) h':=fun b u e=>by
 have hn:=x.fresh hp;by_cases hb:b=a
 ·subst hb;rw[aq]at e;cases e;exact new
 ·rw[ak hb]at e;exact(x b u e).stay (fun c v _ q=>k c v q) (fun c q=>by rw[ak (az q hn)];exact q) fun c xs q=>by rw[ak (az q hn)];exact q
end
noncomputable def Rd (H:Hp)(a:Addr)(u:HO):Prop:=H a=some u∨∃o,H a=some (.frz o u)
theorem Rd.ok {P:Program}{w:World}{H:Hp}{h:Heap}{a:Addr}{u:HO}(r:Rd H a u)(x:HOk P w H h):ObjOk P w H h a u:=by
 rcases r with r|⟨o,r⟩
 ·exact x a u r
 ·obtain⟨_,q⟩:=x a _ r;exact q
noncomputable def DA:Option HO→Prop
 |some (.lst _)=>True
 |some (.dK _)=>True
 |some (.dT _)=>True
 |some (.set _ _)=>True
 |some (.ins _ _ _)=>True
 |some (.ext _)=>True
 |_=>False
section
variable{P:Program}{w:World}{H:Hp}{h h':Heap}{x e:Addr}{o':HO}
theorem HOk.write (ok:HOk P w H h)(mu:DA (H x))(he:e=x∨H e=some (.own x))(k:∀b u,b≠e→h.get? b=some u→h'.get? b=some u)(heo:∃u,h'.get? e=some u)
  (new:ObjOk P w (a9 H x o') h' x o'):HOk P w (a9 H x o') h':=fun b u q=>by
 have nown:∀c y,H c=some (.own y)→c≠x:=fun c y r z=>by subst z;rw[r]at mu;exact mu
 have ntup:∀c xs,H c=some (.tup xs)→c≠x:=fun c xs r z=>by subst z;rw[r]at mu;exact mu
 by_cases hb:b=x
 ·subst hb;rw[aq]at q;cases q;exact new
 ·rw[ak hb]at q;by_cases d:b=e
  ·have q':H b=some (.own x):=by
    rcases he with z|z
    ·exact absurd (d.trans z) hb
    ·rw[d];exact z
   rw[q]at q';cases q';obtain⟨v,hv⟩:=heo;exact⟨v,by rw[d];exact hv⟩
  ·refine(ok b u q).stay (fun c v hc r=>k c v ?_ r) (fun c r=>by rw[ak (nown c b r)];exact r) fun c xs r=>by rw[ak (ntup c xs r)];exact r
   rcases hc with rfl|hc
   ·exact d
   ·rintro rfl
    rcases he with z|z
    ·exact nown c b hc z
    ·rw[hc]at z;cases z;exact hb rfl
end
structure Un (fs ex:List Addr)(H H':Hp)(h h':Heap):Prop where
 keep:∀b o,h.get? b=some o→H b=none→b∉fs→b∉ex→h'.get? b=some o
 slot:∀b o,h.get? b=some o→H b=none→b∈fs→b∉ex→∃sl,h'.get? b=some {o with slots:=sl}
 free:∀b o,h.get? b=some o→H b=none→b∉ex→H' b=none
 there:∀b o,h.get? b=some o→b∉ex→∃o',h'.get? b=some o'
 tups:∀b xs,H b=some (.tup xs)→H' b=some (.tup xs)
 frzs:∀b o u,H b=some (.frz o u)→H' b=some (.frz o u)
 tbls:∀b ps,H b=some (.tbl ps)→∃more,H' b=some (.tbl (ps ++ more))
section
variable{fs fs' ex ex':List Addr}{H H1 H2:Hp}{h h1 h2 h':Heap}{a x e:Addr}{o:HO}
theorem Un.any (u:Un fs ex H H1 h h1){b:Addr}{ob:Obj}(q:h.get? b=some ob)(n:H b=none)(hx:b∉ex):∃sl,h1.get? b=some {ob with slots:=sl}:=by
 by_cases hb:b∈fs
 ·exact u.slot b ob q n hb hx
 ·exact⟨ob.slots,u.keep b ob q n hb hx⟩
theorem Un.kept (k:∀b u,h.get? b=some u→h'.get? b=some u):Un fs ex H H h h':=
 ⟨fun b ob q _ _ _=>k b ob q,fun b ob q _ _ _=>⟨ob.slots,k b ob q⟩,fun _ _ _ n _=>n,fun b ob q _=>⟨ob,k b ob q⟩,fun _ _ q=>q,fun _ _ _ q=>q,fun _ ps q=>⟨#[],by rw[q];simp⟩⟩
theorem Un.refl:Un fs ex H H h h:=Un.kept fun _ _ q=>q
theorem Un.laid (k:∀b u,h.get? b=some u→h'.get? b=some u)(hp:h.objs.size≤a)(hn:H a=none):Un fs ex H (a9 H a o) h h' where
 keep:=fun b u q _ _ _=>k b u q
 slot:=fun b u q _ _ _=>⟨u.slots,k b u q⟩
 free:=fun b u q n _=>by rw[ak (ne_of_lt (lt_of_lt_of_le (Heap.lt_size q) hp))];exact n
 there:=fun b u q _=>⟨u,k b u q⟩
 tups:=fun b xs q=>by rw[ak (az q hn)];exact q
 frzs:=fun b u xs q=>by rw[ak (az q hn)];exact q
 tbls:=fun b ps q=>⟨#[],by rw[ak (az q hn),q];simp⟩
theorem Un.write (mu:DA (H x))(he:e=x∨H e=some (.own x))(k:∀b u,b≠e→h.get? b=some u→h'.get? b=some u)(heo:∃u,h'.get? e=some u):Un fs ex H (a9 H x o) h h':=by
 have hx:∀b,H b=none→b≠x:=fun b n z=>by subst z;rw[n]at mu;exact mu
 have hb:∀b,H b=none→b≠e:=fun b n z=>by
  subst z
  rcases he with r|r
  ·exact hx b n r
  ·rw[n]at r;cases r
 have hm:∀b u,H b=some u→¬DA (some u)→b≠x:=fun b u q nm z=>by subst z;rw[q]at mu;exact nm mu
 refine⟨fun b u q n _ _=>k b u (hb b n) q,fun b u q n _ _=>⟨u.slots,k b u (hb b n) q⟩,fun b u q n _=>by rw[ak (hx b n)];exact n,fun b u q _=>?_,
  fun b xs q=>by rw[ak (hm b _ q fun z=>z)];exact q,fun b u xs q=>by rw[ak (hm b _ q fun z=>z)];exact q,fun b ps q=>⟨#[],by rw[ak (hm b _ q fun z=>z),q];simp⟩⟩
 by_cases hbe:b=e
 ·subst hbe;exact heo
 ·exact⟨u,k b u hbe q⟩
end
noncomputable def EK (h:Heap)(H:Hp):List Addr:=(List.range h.objs.size).filter fun a=>(H a).isSome
noncomputable def qq (h:Heap)(H:Hp):Heap:=W.hideAll h (EK h H)
theorem wc (h:Heap)(H:Hp):(qq h H).objs.size=h.objs.size:=W.hideAll_size _ _
theorem xP {h:Heap}{H:Hp}{b:Addr}{o:Obj}(e:h.get? b=some o)(n:H b=none):(qq h H).get? b=some o:=
 W.hideAll_get _ e fun hm=>by
  have q:(H b).isSome=true:=(mem_filter.mp hm).2;rw[n]at q;simp at q
theorem Ap {h:Heap}{H:Hp}{b:Addr}{o:Obj}(e:(qq h H).get? b=some o):h.get? b=some o∧H b=none:=by
 have e':h.get? b=some o:=W.of_hideAll (EK h H) e;refine⟨e',?_⟩;cases q:H b with
 |none=>rfl
 |some x=>
  have hm:b∈EK h H:=mem_filter.mpr ⟨mem_range.mpr (Heap.lt_size e'),by simp[q]⟩;have z:(qq h H).get? b=none:=W.hideAll_none (EK h H) hm;rw[z]at e;cases e
structure Mod (K:W.Frag)(mg:Str→Option Value)(base:Heap):Prop where
 kin:K.In base
 glob:base.Ns mainGlobals mg
 blt:∃mb,base.Ns builtinsNs mb∧∀x:Str,x≠ "__name__" →mb x=bootBuiltins x
 nolimit:base.NoLimit
structure Cx where
 prog:Program
 w:World
 K:W.Frag
 mg:Str→Option Value
 base:Heap
 A:Around
 N:List Str
 s₀:Shared
 H₀:Hp
 env:Env
 outer:List Env
 stack:List Env
 ex:List Addr
 fn:Str→Bool
 calm:Bool
 pn:List (Addr×Obj)
 xe:Value→Shared→Prop
noncomputable def fx (l:List Env):List Addr:=l.filterMap (·.frame)
noncomputable abbrev Cx.fs (X:Cx):List Addr:=fx X.outer
noncomputable def uJ (sc:Scope)(x:Str):Prop:=sc.names.lookup x=some .local∨sc.names.lookup x=some .cell∨sc.names.lookup x=some .free
noncomputable def tj (sc:Scope)(x:Str):Prop:=sc.names.lookup x=some .local∨sc.names.lookup x=some .cell
noncomputable def EQ (env:Env)(h:Heap)(m:Str→Option Value)(x:Str)(u:Value):Prop:=
 (env.kindOf x=some .local∧m x=some u)∨((env.kindOf x=some .cell∨env.kindOf x=some .free)∧∃c,env.cells.lookup x=some c∧h.IsCell c (some u))
structure Cx.Ok (X:Cx):Prop where
 mod:Mod X.K X.mg X.base
 kind:X.env.scope.kind= .function
 glob:X.env.globals=mainGlobals
 blt:X.env.builtins=builtinsNs
 above:X.s₀.heap.objs.size≤X.env.locals
 inj:∀x y c,X.env.cells.lookup x=some c→X.env.cells.lookup y=some c→x=y
 has:∀x,(X.env.kindOf x=some .cell∨X.env.kindOf x=some .free)→∃c,X.env.cells.lookup x=some c
 cab:∀x c,X.fn x=true→X.env.cells.lookup x=some c→X.s₀.heap.objs.size≤c
 hd:X.calm=true→X.A.handled=none
 frames:X.A.frames=some X.stack
 stk:X.stack=X.outer∨(X.stack=X.env::X.outer∧X.env.frame=some X.env.locals)
 exf:∀b∈X.ex,b≠X.env.locals∧∀x c,X.env.cells.lookup x=some c→c≠b
 bs:∀b o,X.base.get? b=some o→X.s₀.heap.get? b=some o∧X.H₀ b=none
 bsz:X.base.objs.size≤X.s₀.heap.objs.size
 noex:∀b o,X.base.get? b=some o→b∉X.ex
 exfs:∀b∈X.ex,b∉X.fs
 funs:X.s₀.heap.FunFrames X.base X.outer
 frf:∀b∈X.fs,X.H₀ b=none
structure Inv (X:Cx)(pins:List (Addr×Obj))(σ:List (Option V))(H:Hp)(s:Shared):Prop where
 ok:X.Ok
 os:s.os=X.s₀.os
 bare:AllBare s.gens
 base:Un X.fs X.ex X.H₀ H X.s₀.heap s.heap
 loc:∃m,s.heap.Ns X.env.locals m∧∀(i:Nat) (x:Str) (v:V),X.N[i]?=some x→σ[i]?=some (some v)→uJ X.env.scope x→∃u,RelV v u∧EQ X.env s.heap m x u
 cell:∀x c,X.env.cells.lookup x=some c→∃v,s.heap.IsCell c v
 free:H X.env.locals=none
 freeC:∀x c,X.env.cells.lookup x=some c→H c=none
 pin:∀p∈X.pn ++ pins,s.heap.get? p.1=some p.2∧H p.1=none∧p.1≠X.env.locals∧p.1∉X.fs∧∀v,p.2.data≠ .cell v
 hok:HOk X.prog X.w H s.heap
 len:σ.length=X.N.length
section
variable{X:Cx}{pins:List (Addr×Obj)}{σ:List (Option V)}{H H':Hp}{s:Shared}{h':Heap}
theorem Cx.Ok.nofr (ok:X.Ok){b:Addr}{o:Obj}(e:X.base.get? b=some o):b∉X.fs:=fun hb=>by
 have:=(ok.funs.mem hb).1;rw[e]at this;cases this
theorem Inv.bs (I:Inv X pins σ H s):∀b o,X.base.get? b=some o→s.heap.get? b=some o∧H b=none:=fun b o e=>
 ⟨I.base.keep b o (I.ok.bs b o e).1 (I.ok.bs b o e).2 (I.ok.nofr e) (I.ok.noex b o e),I.base.free b o (I.ok.bs b o e).1 (I.ok.bs b o e).2 (I.ok.noex b o e)⟩
theorem Inv.bk (I:Inv X pins σ H s):∀b o,X.base.get? b=some o→s.heap.get? b=some o:=fun b o e=>(I.bs b o e).1
theorem Inv.mod (I:Inv X pins σ H s):Mod X.K X.mg X.base:=I.ok.mod
theorem Inv.kIn (I:Inv X pins σ H s):X.K.In s.heap:=I.ok.mod.kin.keeps I.bk
theorem Inv.lt (I:Inv X pins σ H s):X.env.locals<s.heap.objs.size:=let ⟨_,hn,_⟩:=I.loc;hn.lt
theorem Inv.sz (I:Inv X pins σ H s):X.s₀.heap.objs.size≤s.heap.objs.size:=le_trans I.ok.above (le_of_lt I.lt)
theorem Inv.nofs (I:Inv X pins σ H s){a:Addr}(h:s.heap.objs.size≤a):a∉X.fs:=fun hb=>by
 obtain⟨_,o,ho,_⟩:=I.ok.funs.mem hb;exact absurd (lt_of_lt_of_le (Heap.lt_size ho) (le_trans I.sz h)) (lt_irrefl _)
theorem Inv.cne (I:Inv X pins σ H s):∀x c,X.env.cells.lookup x=some c→c≠X.env.locals:=fun x c e z=>by
 obtain⟨v,o,ho,hd⟩:=I.cell x c e;obtain⟨m,⟨o',es,ep,ho',hd',_⟩,_⟩:=I.loc;rw[z,ho']at ho;cases ho;rw[hd']at hd;cases hd
theorem Inv.funs (I:Inv X pins σ H s):s.heap.FunFrames X.base X.outer:=by
 have all:∀(l:List Env),(∀b∈fx l,b∈X.fs)→X.s₀.heap.FunFrames X.base l→s.heap.FunFrames X.base l:=by
  intro l
  induction l with
  |nil=>intro _ _;trivial
  |cons env r ih=>
   intro hs hl;obtain⟨hk,⟨L,o,hf,hn,ho,hd⟩,hr⟩:=hl;have hL:L∈X.fs:=hs L (by unfold fx;rw[List.filterMap_cons,hf];exact mem_cons_self);obtain⟨sl,e⟩:=I.base.slot L o ho (I.ok.frf L hL) hL fun z=>I.ok.exfs L z hL;exact⟨hk,⟨L,_,hf,hn,e,hd⟩,ih (fun b hb=>hs b (by unfold fx;rw[List.filterMap_cons,hf];exact eB hb)) hr⟩
 exact all X.outer (fun _ hb=>hb) I.ok.funs
theorem Inv.stack (I:Inv X pins σ H s):s.heap.FunFrames X.base X.stack:=by
 rcases I.ok.stk with e|⟨e,hf⟩
 ·rw[e];exact I.funs
 ·rw[e];obtain⟨m,hn,_⟩:=I.loc;refine .cons (by rw[I.ok.kind];decide) hf hn ?_ I.funs;exact Heap.get?_none_of_le (le_trans I.ok.bsz I.ok.above)
theorem Inv.stkSub (I:Inv X pins σ H s):∀b∈fx X.stack,b∈X.env.locals::X.fs:=fun b hb=>by
 rcases I.ok.stk with e|⟨e,hf⟩
 ·rw[e]at hb;exact eB hb
 ·rw[e]at hb;unfold fx at hb;rw[List.filterMap_cons,hf]at hb;exact hb
theorem Inv.stkFree (I:Inv X pins σ H s):∀b∈fx X.stack,H b=none:=fun b hb=>by
 rcases mem_cons.mp (I.stkSub b hb) with e|hb
 ·rw[e];exact I.free
 ·obtain⟨_,o,ho,_⟩:=I.ok.funs.mem hb;exact I.base.free b o ho (I.ok.frf b hb) fun z=>I.ok.exfs b z hb
theorem Inv.step {g':Array GenState}{t':Nat}{d':Drawn}{ch:List Addr}(I:Inv X pins σ H s)
  (hch:∀b∈ch,(b∈X.ex∨X.s₀.heap.objs.size≤b)∧b≠X.env.locals∧(∀x c,X.env.cells.lookup x=some c→c≠b)∧∀p∈X.pn ++ pins,p.1≠b)
  (keep:∀b o,b≠X.env.locals→b∉X.fs→b∉ch→s.heap.get? b=some o→H b=none→h'.get? b=some o)
  (slot:∀b o,b≠X.env.locals→b∈X.fs→b∉ch→s.heap.get? b=some o→H b=none→∃sl,h'.get? b=some {o with slots:=sl}) (free:∀b o,b∉ch→s.heap.get? b=some o→H b=none→H' b=none)
  (there:∀b o,b∉ch→s.heap.get? b=some o→∃o',h'.get? b=some o')
  (tups:∀b xs,H b=some (.tup xs)→H' b=some (.tup xs)) (frzs:∀b o u,H b=some (.frz o u)→H' b=some (.frz o u)) (tbls:∀b ps,H b=some (.tbl ps)→∃more,H' b=some (.tbl (ps ++ more)))
  (ns:∀m,s.heap.Ns X.env.locals m→h'.Ns X.env.locals m) (hok:HOk X.prog X.w H' h') (hg:AllBare g') :
  Inv X pins σ H' {s with heap:=h',gens:=g',drawn:=d',toks:=t'}:=by
 have neL:∀b o,X.s₀.heap.get? b=some o→b≠X.env.locals:=fun b o e=>ne_of_lt (lt_of_lt_of_le (Heap.lt_size e) I.ok.above);have j:∀b o,X.s₀.heap.get? b=some o→b∉X.ex→b∉ch:=fun b o e f hb=>by
  rcases (hch b hb).1 with z|z
  ·exact f z
  ·exact absurd (lt_of_lt_of_le (Heap.lt_size e) z) (lt_irrefl _)
 have g:∀x c,X.env.cells.lookup x=some c→∀v,s.heap.IsCell c v→h'.IsCell c v:=fun x c e v hZ40=>by
  obtain⟨o,ho,hd⟩:=hZ40;have h:c∉ch:=fun z=>(hch c z).2.2.1 x c e rfl;by_cases hc:c∈X.fs
  ·obtain⟨sl,q⟩:=slot c o (I.cne x c e) hc h ho (I.freeC x c e);exact⟨_,q,hd⟩
  ·exact⟨o,keep c o (I.cne x c e) hc h ho (I.freeC x c e),hd⟩
 refine⟨I.ok,I.os,hg,⟨fun b o e n hb f=>?_,fun b o e n hb f=>?_,fun b o e n f=>?_,fun b o e f=>?_,fun b xs e=>tups b xs (I.base.tups b xs e),fun b o xs e=>frzs b o xs (I.base.frzs b o xs e),fun b ps e=>?_⟩,?_,fun x c e=>?_,?_,fun x c e=>?_,fun p hp=>?_,hok,I.len⟩
 ·exact keep b o (neL b o e) hb (j b o e f) (I.base.keep b o e n hb f) (I.base.free b o e n f)
 ·obtain⟨sl,t⟩:=I.base.slot b o e n hb f;obtain⟨sl',e2⟩:=slot b _ (neL b o e) hb (j b o e f) t (I.base.free b o e n f);exact⟨sl',e2⟩
 ·obtain⟨o',t⟩:=I.base.there b o e f;exact free b o' (j b o e f) t (I.base.free b o e n f)
 ·obtain⟨o',t⟩:=I.base.there b o e f;exact there b o' (j b o e f) t
 ·obtain⟨m1,t⟩:=I.base.tbls b ps e;obtain⟨m2,e2⟩:=tbls b _ t;exact⟨m1 ++ m2,by rw[e2,Array.append_assoc]⟩
 ·obtain⟨m,hn,hl⟩:=I.loc;refine⟨m,ns m hn,fun i x v t e2 e3=>?_⟩;obtain⟨u,r,l⟩:=hl i x v t e2 e3;refine⟨u,r,?_⟩
  rcases l with l|⟨k,c,e,z⟩
  ·exact .inl l
  ·exact .inr ⟨k,c,e,g x c e _ z⟩
 ·obtain⟨v,z⟩:=I.cell x c e;exact⟨v,g x c e v z⟩
 ·obtain⟨m,⟨o,_,_,ho,_⟩,_⟩:=I.loc;exact free _ o (fun z=>(hch _ z).2.1 rfl) ho I.free
 ·obtain⟨v,o,ho,hd⟩:=I.cell x c e;exact free c o (fun z=>(hch c z).2.2.1 x c e rfl) ho (I.freeC x c e)
 ·obtain⟨e,n,ne,nf,d⟩:=I.pin p hp;have h:p.1∉ch:=fun z=>(hch p.1 z).2.2.2 p hp rfl;exact⟨keep p.1 p.2 ne nf h e n,free p.1 p.2 h e n,ne,nf,d⟩
theorem Inv.un {t':Nat}(I:Inv X pins σ H s)(u:Un X.fs [] H H' s.heap h')(hok:HOk X.prog X.w H' h'):Inv X pins σ H' {s with heap:=h',toks:=t'}:=by
 obtain⟨m,⟨o,es,ep,ho,r⟩,_⟩:=id I.loc;obtain⟨sl,hL⟩:=u.any ho I.free (by simp);exact I.step (g':=s.gens) (d':=s.drawn) (ch:=[]) (fun _ z=>nomatch z) (fun b o _ hb _ e n=>u.keep b o e n hb (by simp)) (fun b o _ hb _ e n=>u.slot b o e n hb (by simp)) (fun b o _ e n=>u.free b o e n (by simp)) (fun b o _ e=>u.there b o e (by simp)) u.tups u.frzs u.tbls (fun m' hm=>by
  obtain⟨o',es',ep',ho',r'⟩:=hm;rw[ho]at ho';cases ho';exact⟨_,es',ep',hL,r'⟩) hok I.bare
theorem Inv.call {g':Array GenState}{t':Nat}{d':Drawn}{ch:List Addr}(I:Inv X pins σ H s)(u:Un (fx X.stack) ch H H' s.heap h')(hok:HOk X.prog X.w H' h')(hg:AllBare g')
  (hch:∀b∈ch,(b∈X.ex∨X.s₀.heap.objs.size≤b)∧b≠X.env.locals∧(∀x c,X.env.cells.lookup x=some c→c≠b)∧∀p∈X.pn ++ pins,p.1≠b) :
  Inv X pins σ H' {s with heap:=h',gens:=g',drawn:=d',toks:=t'}:=by
 obtain⟨m,⟨o,es,ep,ho,r⟩,_⟩:=id I.loc;obtain⟨sl,hL⟩:=u.any ho I.free fun z=>(hch _ z).2.1 rfl;exact I.step (ch:=ch) hch (fun b o hL hb hc e n=>u.keep b o e n (fun z=>(mem_cons.mp (I.stkSub b z)).elim hL hb) hc) (fun b o _ _ hc e n=>u.any e n hc) (fun b o hc e n=>u.free b o e n hc) (fun b o hc e=>u.there b o e hc) u.tups u.frzs u.tbls (fun m' hm=>by
  obtain⟨o',es',ep',ho',r'⟩:=hm;rw[ho]at ho';cases ho';exact⟨_,es',ep',hL,r'⟩) hok hg
theorem Inv.turned {t':Nat}{it:Addr}(I:Inv X pins σ H s)(k:∀b o,b≠it→s.heap.get? b=some o→h'.get? b=some o)(hn:H it=none)(hL:it≠X.env.locals)
  (h1:it∈X.ex∨X.s₀.heap.objs.size≤it) (h2:∀x c,X.env.cells.lookup x=some c→c≠it) (h3:∀p∈X.pn ++ pins,p.1≠it):Inv X pins σ H {s with heap:=h',toks:=t'}:=by
 have nit:∀b u,H b=some u→b≠it:=fun b u e z=>by rw[z,hn]at e;cases e
 refine I.step (g':=s.gens) (d':=s.drawn) (ch:=[it]) (fun b hb=>?_) (fun b o _ _ hc e _=>k b o (fun z=>hc (by simp[z])) e) (fun b o _ _ hc e _=>⟨o.slots,k b o (fun z=>hc (by simp[z])) e⟩) (fun _ _ _ _ n=>n)
  (fun b o hc e=>⟨o,k b o (fun z=>hc (by simp[z])) e⟩) (fun _ _ e=>e) (fun _ _ _ e=>e) (fun b ps e=>⟨#[],by rw[e];simp⟩) (fun m hm=>?_) (fun b u e=>?_) I.bare
 ·have e:b=it:=by simpa using hb
  subst e;exact⟨h1,hL,h2,h3⟩
 ·obtain⟨o,es,ep,ho,r⟩:=hm;exact⟨o,es,ep,k _ o (Ne.symm hL) ho,r⟩
 ·refine(I.hok b u e).stay (fun c v hc q=>k c v ?_ q) (fun _ q=>q) fun _ _ q=>q
  rcases hc with z|z
  ·rw[z];exact nit b u e
  ·exact nit c _ z
theorem Inv.tok (I:Inv X pins σ H s)(t:Nat):Inv X pins σ H {s with toks:=t}:=I.un (h':=s.heap) (t':=t) Un.refl I.hok
theorem Inv.kept {t':Nat}(I:Inv X pins σ H s)(k:∀b u,s.heap.get? b=some u→h'.get? b=some u):Inv X pins σ H {s with heap:=h',toks:=t'}:=I.un (Un.kept k) (I.hok.kept k)
theorem Inv.laid {a:Addr}{o:HO}{t':Nat}(I:Inv X pins σ H s)(k:∀b u,s.heap.get? b=some u→h'.get? b=some u)(hp:s.heap.objs.size≤a)(new:ObjOk X.prog X.w (a9 H a o) h' a o) :
  Inv X pins σ (a9 H a o) {s with heap:=h',toks:=t'}:=I.un (Un.laid k hp (I.hok.fresh hp)) (I.hok.laid k hp new)
theorem Inv.write {x e:Addr}{o:HO}{t':Nat}(I:Inv X pins σ H s)(mu:DA (H x))(he:e=x∨H e=some (.own x))(k:∀b u,b≠e→s.heap.get? b=some u→h'.get? b=some u)(heo:∃u,h'.get? e=some u)
  (new:ObjOk X.prog X.w (a9 H x o) h' x o):Inv X pins σ (a9 H x o) {s with heap:=h',toks:=t'}:=I.un (Un.write mu he k heo) (I.hok.write mu he k heo new)
theorem Inv.weak {σ':List (Option V)}(I:Inv X pins σ H s)(hl:σ'.length=σ.length)(w:∀(i:Nat) v,σ'[i]?=some (some v)→σ[i]?=some (some v)):Inv X pins σ' H s:=
 ⟨I.ok,I.os,I.bare,I.base,let ⟨m,hn,hl'⟩:=I.loc;⟨m,hn,fun i x v e1 e2 e3=>hl' i x v e1 (w i v e2) e3⟩,I.cell,I.free,I.freeC,I.pin,I.hok,hl.trans I.len⟩
theorem Inv.pins_of {pins':List (Addr×Obj)}(I:Inv X pins σ H s)(h:∀p∈pins',s.heap.get? p.1=some p.2∧H p.1=none∧p.1≠X.env.locals∧p.1∉X.fs∧∀v,p.2.data≠ .cell v):Inv X pins' σ H s:=
 ⟨I.ok,I.os,I.bare,I.base,I.loc,I.cell,I.free,I.freeC,fun p hp=>(mem_append.mp hp).elim (fun z=>I.pin p (mem_append_left _ z)) (h p),I.hok,I.len⟩
theorem sv {N:List Str}(hN:N.Nodup){i j:Nat}{x:Str}(a:N[i]?=some x)(b:N[j]?=some x):i=j:=by
 obtain⟨h1,e1⟩:=gz a;obtain⟨h2,e2⟩:=gz b;exact(List.getElem_inj hN).mp (e1.trans e2.symm)
theorem pS {M:Model}{A:Around}{E:Value→Shared→Prop}{i:Nat}{x:Str}{v:V}{u:Value}{Q:Unit→Shared→Prop}(I:Inv X pins σ H s)(hN:X.N.Nodup)(hi:X.N[i]?=some x)(hx:tj X.env.scope x)(r:RelV v u)
  (h:∀s',Inv X pins (σ.set i (some v)) H s'→(∃a,Heap.SameBut a s.heap s'.heap∧(a=X.env.locals∨X.env.cells.lookup x=some a))→Q () s') (hf:X.fn x=true∨X.env.scope.names.lookup x=some .local:=by first|exact .inl rfl|exact .inr rfl|assumption):wpAny M A (storeName X.env x u) Q E s:=by
 obtain⟨m,hn,hl⟩:=id I.loc;have hcls:(X.env.scope.kind==.class||(X.env.scope.kind==.module&&X.env.locals != X.env.globals))=false:=by rw[I.ok.kind];rfl
 have hiσ:i<σ.length:=by rw[I.len];exact(gz hi).1
 have cne:=I.cne;have t:∀{a:Addr} {h':Heap},(∃o,s.heap.get? a=some o∧H a=none)→Heap.SameBut a s.heap h'→HOk X.prog X.w H h':=fun {a h'} ha l b ob e=>by
  obtain⟨_,_,C⟩:=ha;refine(I.hok b ob e).stay (fun c w' hc q=>(l.2 c ?_).trans q) (fun _ q=>q) fun _ _ q=>q;rintro rfl
  rcases hc with rfl|hc
  ·rw[C]at e;cases e
  ·rw[C]at hc;cases hc
 rcases hx with hk|hk
 ·refine wpAny_storeName_local hk hn (fun h' hn' l=>?_) hcls;obtain⟨oL,_,_,hoL,_⟩:=id hn;refine h _ ⟨I.ok,I.os,I.bare,⟨fun b o e n hb hx=>?_,fun b o e n hb hx=>?_,I.base.free,fun b o e hx=>?_,I.base.tups,I.base.frzs,I.base.tbls⟩,⟨_,hn',fun j y v' B D e3=>?_⟩,fun y c e=>?_,I.free,I.freeC,fun p hp=>?_,t ⟨oL,hoL,I.free⟩ l,by simpa using I.len⟩ ⟨_,l,.inl rfl⟩
  ·exact(l.2 b (ne_of_lt (lt_of_lt_of_le (Heap.lt_size e) I.ok.above))).trans (I.base.keep b o e n hb hx)
  ·obtain⟨sl,B⟩:=I.base.slot b o e n hb hx;exact⟨sl,(l.2 b (ne_of_lt (lt_of_lt_of_le (Heap.lt_size e) I.ok.above))).trans B⟩
  ·obtain⟨o',B⟩:=I.base.there b o e hx;exact⟨o',(l.2 b (ne_of_lt (lt_of_lt_of_le (Heap.lt_size e) I.ok.above))).trans B⟩
  ·by_cases hj:j=i
   ·subst hj;rw[hi]at B;cases B;rw[getElem?_set_self hiσ]at D;cases D;exact⟨u,r,.inl ⟨hk,by simp⟩⟩
   ·rw[getElem?_set_ne (Ne.symm hj)]at D;obtain⟨u',r',q⟩:=hl j y v' B D e3;refine⟨u',r',?_⟩
    rcases q with ⟨k,e⟩|⟨k,c,e,z⟩
    ·refine .inl ⟨k,?_⟩;have:y≠x:=fun e=>hj (sv hN B (e ▸ hi));simp[this,e]
    ·exact .inr ⟨k,c,e,z.sameBut l (cne y c e)⟩
  ·obtain⟨w',z⟩:=I.cell y c e;exact⟨w',z.sameBut l (cne y c e)⟩
  ·obtain⟨e,n,ne,nf,d⟩:=I.pin p hp;exact⟨(l.2 p.1 ne).trans e,n,ne,nf,d⟩
 ·have hfn:X.fn x=true:=by
   rcases hf with z|z
   ·exact z
   ·rw[z]at hk;cases hk
  obtain⟨c,hc⟩:=I.ok.has x (.inl hk);obtain⟨w',z⟩:=I.cell x c hc;refine wpAny_storeName_cell I.ok.kind hk hc z (fun h' hc' l=>?_);obtain⟨oc,hoc,hocd⟩:=id z;refine h {s with heap:=h'} ⟨I.ok,I.os,I.bare,⟨fun b o e n hb hx=>?_,fun b o e n hb hx=>?_,I.base.free,fun b o e hx=>?_,I.base.tups,I.base.frzs,I.base.tbls⟩,⟨m,hn.sameBut l (Ne.symm (cne x c hc)),fun j y v' B D e3=>?_⟩,fun y c' e=>?_,I.free,I.freeC,fun p hp=>?_,t ⟨oc,hoc,I.freeC x c hc⟩ l,by simpa using I.len⟩ ⟨c,l,.inr hc⟩
  ·exact(l.2 b (ne_of_lt (lt_of_lt_of_le (Heap.lt_size e) (I.ok.cab x c hfn hc)))).trans (I.base.keep b o e n hb hx)
  ·obtain⟨sl,B⟩:=I.base.slot b o e n hb hx;exact⟨sl,(l.2 b (ne_of_lt (lt_of_lt_of_le (Heap.lt_size e) (I.ok.cab x c hfn hc)))).trans B⟩
  ·obtain⟨o',B⟩:=I.base.there b o e hx;exact⟨o',(l.2 b (ne_of_lt (lt_of_lt_of_le (Heap.lt_size e) (I.ok.cab x c hfn hc)))).trans B⟩
  ·by_cases hj:j=i
   ·subst hj;rw[hi]at B;cases B;rw[getElem?_set_self hiσ]at D;cases D;exact⟨u,r,.inr ⟨.inl hk,c,hc,hc'⟩⟩
   ·rw[getElem?_set_ne (Ne.symm hj)]at D;obtain⟨u',r',q⟩:=hl j y v' B D e3;refine⟨u',r',?_⟩
    rcases q with q|⟨k,c',e,z'⟩
    ·exact .inl q
    ·refine .inr ⟨k,c',e,z'.sameBut l ?_⟩;rintro rfl;exact hj (sv hN B (I.ok.inj _ _ _ e hc ▸ hi))
  ·by_cases hcc:c'=c
   ·subst hcc;exact⟨_,hc'⟩
   ·obtain⟨w2,z2⟩:=I.cell y c' e;exact⟨w2,z2.sameBut l hcc⟩
  ·obtain⟨e,n,ne,nf,d⟩:=I.pin p hp;refine⟨(l.2 p.1 ?_).trans e,n,ne,nf,d⟩;intro q;rw[q,hoc]at e;have q':oc=p.2:=Option.some.inj e;exact d w' (by rw[←q'];exact hocd)
theorem k8 {M:Model}{A:Around}{E:Value→Shared→Prop}{i:Nat}{x:Str}{v:V}{u:Value}{Q:Unit→Shared→Prop}(I:Inv X pins σ H s)(hN:X.N.Nodup)(hi:X.N[i]?=some x)(hx:tj X.env.scope x)(r:RelV v u)
  (h:∀s',Inv X pins (σ.set i (some v)) H s'→Q () s') (hf:X.fn x=true∨X.env.scope.names.lookup x=some .local:=by first|exact .inl rfl|exact .inr rfl|assumption):wpAny M A (storeName X.env x u) Q E s:=
 pS I hN hi hx r (fun s' I' _=>h s' I') hf
theorem Inv.call' {s':Shared}{ch:List Addr}(I:Inv X pins σ H s)(ho:s'.os=s.os)(u:Un (fx X.stack) ch H H' s.heap s'.heap)(hok:HOk X.prog X.w H' s'.heap)(hg:AllBare s'.gens)
  (hch:∀b∈ch,(b∈X.ex∨X.s₀.heap.objs.size≤b)∧b≠X.env.locals∧(∀x c,X.env.cells.lookup x=some c→c≠b)∧∀p∈X.pn ++ pins,p.1≠b):Inv X pins σ H' s':=by
 obtain⟨h',g',d',t',o'⟩:=s';have e:o'=s.os:=ho;subst e;exact I.call (g':=g') (t':=t') (d':=d') u hok hg hch
end
noncomputable abbrev XK:=Value→Option Addr→Hp→Prop
noncomputable abbrev St:=List (Option V)
noncomputable abbrev VK:=V→Hp→Prop
noncomputable abbrev TE:=St→Hp→VK→Prop
noncomputable abbrev TT:=St→Hp→(Bool→Hp→Prop)→Prop
noncomputable abbrev TA:=St→Hp→(List V→Hp→Prop)→Prop
structure Ends where
 nx:St→Hp→Prop
 rt:VK
 bk:St→Hp→Prop:=fun _ _=>False
 ct:St→Hp→Prop:=fun _ _=>False
noncomputable abbrev TS:=Ends→St→Hp→Prop
inductive EP (X:Cx)(pins:List (Addr×Obj))(σ:St)(Q:VK)(u:Value)(s':Shared):Prop
 |mk (v:V) (H':Hp) (i:Inv X pins σ H' s') (r:RelV v u) (q:Q v H')
inductive TP (X:Cx)(pins:List (Addr×Obj))(σ:St)(Q:Bool→Hp→Prop)(b:Bool)(s':Shared):Prop
 |mk (H':Hp) (i:Inv X pins σ H' s') (q:Q b H')
inductive AP (X:Cx)(pins:List (Addr×Obj))(σ:St)(Q:List V→Hp→Prop)(us:List Value)(s':Shared):Prop
 |mk (vs:List V) (H':Hp) (i:Inv X pins σ H' s') (r:Vals vs us) (q:Q vs H')
inductive SN (X:Cx)(pins:List (Addr×Obj))(P:St→Hp→Prop)(s':Shared):Prop
 |mk (σ':St) (H':Hp) (i:Inv X pins σ' H' s') (q:P σ' H')
inductive SRt (X:Cx)(pins:List (Addr×Obj))(P:VK)(u:Value)(s':Shared):Prop
 |mk (v:V) (σ':St) (H':Hp) (i:Inv X pins σ' H' s') (r:RelV v u) (q:P v H')
noncomputable def SP (X:Cx)(pins:List (Addr×Obj))(D:Ends)(f:Flow)(s':Shared):Prop:=
 match f with
 |.next=>SN X pins D.nx s'
 |.brk=>SN X pins D.bk s'
 |.cont=>SN X pins D.ct s'
 |.ret u=>SRt X pins D.rt u s'
noncomputable def PE (X:Cx)(e:Expr)(t:TE):Prop:=
 ∀(pins:List (Addr×Obj)) (s:Shared) (σ:St) (H:Hp) (Q:VK),Inv X pins σ H s→t σ H Q→wpAny (model X.prog X.w) X.A (eval e X.env) (EP X pins σ Q) X.xe s
noncomputable def PT (X:Cx)(e:Expr)(t:TT):Prop:=
 ∀(pins:List (Addr×Obj)) (s:Shared) (σ:St) (H:Hp) (Q:Bool→Hp→Prop),Inv X pins σ H s→t σ H Q→wpAny (model X.prog X.w) X.A (isTrue e X.env (eval e X.env)) (TP X pins σ Q) X.xe s
noncomputable def PA (X:Cx)(es:List Expr)(t:TA):Prop:=
 ∀(pos:Pos) (pins:List (Addr×Obj)) (s:Shared) (σ:St) (H:Hp) (Q:List V→Hp→Prop),Inv X pins σ H s→t σ H Q→wpAny (model X.prog X.w) X.A (spliced (backTo pos (starEach es X.env))) (AP X pins σ Q) X.xe s
noncomputable def PS (X:Cx)(st:Stmt)(t:TS):Prop:=
 ∀(pins:List (Addr×Obj)) (s:Shared) (σ:St) (H:Hp) (D:Ends),Inv X pins σ H s→t D σ H→wpAny (model X.prog X.w) X.A (exec st X.env) (SP X pins D) X.xe s
noncomputable def DC (X:Cx)(st:List Stmt)(t:TS):Prop:=
 ∀(pins:List (Addr×Obj)) (s:Shared) (σ:St) (H:Hp) (D:Ends),Inv X pins σ H s→t D σ H→wpAny (model X.prog X.w) X.A (execs st X.env) (SP X pins D) X.xe s
theorem aW {α:Type}{t:Sem α}{Q Q':α→Shared→Prop}{M:Model}{A:Around}{E:Value→Shared→Prop}{s:Shared}(h:wpAny M A t Q E s)(hQ:∀a s,Q a s→Q' a s):wpAny M A t Q' E s:=wpAny_mono h hQ fun _ _ x=>x
section
variable{X:Cx}
noncomputable def ED (i:Nat):TE:=fun σ H Q=>∃v,σ[i]?=some (some v)∧Q v H
noncomputable def tC (v:V):TE:=fun _ H Q=>Q v H
theorem fH {i:Nat}{x:Str}{pos:Pos}(hN:X.N[i]?=some x)(hv:uJ X.env.scope x)(hd:(x==("__debug__" :Str))=false:=by decide)(hcd:(x==("__classdict__" :Str))=false:=by decide):PE X (.Name x pos) (ED i):=by
 intro pins s σ H Q I h;obtain⟨v,e,h⟩:=h;obtain⟨m,hn,hl⟩:=I.loc;obtain⟨u,r,l⟩:=hl i x v hN e hv;have fin:EP X pins σ Q u s:=⟨v,H,I,r,h⟩
 rcases l with ⟨hk,hm⟩|⟨hk,c,hc,n⟩
 ·exact wpAny_Name (wpAny_loadName_local I.ok.kind hk hn hm fin) hd
 ·rcases hk with hk|hk
  ·exact wpAny_Name (wpAny_loadName_cell I.ok.kind hk hc n fin) hd
  ·exact wpAny_Name (wpAny_loadName_free I.ok.kind hk hc n fin hcd) hd
theorem C7 {i j pos}:PE X (.Constant (.int i) j pos) (tC (.int i)):=fun _ _ _ H _ I h=>wpAny_Constant_int ⟨.int i,H,I.tok _,⟨_,rfl⟩,h⟩
theorem En {b j pos}:PE X (.Constant (.bool b) j pos) (tC (.bl b)):=fun _ _ _ H _ I h=>Constant_bool ⟨.bl b,H,I,rfl,h⟩
theorem C8 {j pos}:PE X (.Constant .none j pos) (tC .non):=fun _ _ _ H _ I h=>Constant_none ⟨.non,H,I,rfl,h⟩
theorem yw {x j pos}:PE X (.Constant (.str x) j pos) (tC (.str x)):=fun _ _ _ H _ I h=>Calls.Constant_str ⟨.str x,H,I.tok _,⟨_,rfl⟩,h⟩
noncomputable def Gl (X:Cx)(x:Str):Prop:=X.env.kindOf x=some .globalImplicit
theorem jB {E:Value→Shared→Prop}{pins:List (Addr×Obj)}{s:Shared}{σ:St}{H:Hp}{x:Str}{u:Value}{pos:Pos}{Q:Value→Shared→Prop}(I:Inv X pins σ H s)(hg:Gl X x)(hm:X.mg x=some u)(h:Q u s)
  (hd:(x==("__debug__" :Str))=false:=by decide):wpAny (model X.prog X.w) X.A (eval (.Name x pos) X.env) Q E s:=
 Calls.Name_function_global I.ok.kind hg (Calls.loadGlobal_global (by rw[I.ok.glob];exact I.mod.glob.keeps I.bk) hm h) hd
theorem i_ {E:Value→Shared→Prop}{pins:List (Addr×Obj)}{s:Shared}{σ:St}{H:Hp}{x:Str}{u:Value}{pos:Pos}{Q:Value→Shared→Prop}(I:Inv X pins σ H s)(hg:Gl X x)(hm:X.mg x=none)(hv:bootBuiltins x=some u)(h:Q u s)
  (hn:x≠ "__name__" :=by decide) (hd:(x==("__debug__" :Str))=false:=by decide):wpAny (model X.prog X.w) X.A (eval (.Name x pos) X.env) Q E s:=by
 obtain⟨mb,h1,h2⟩:=I.mod.blt;exact Calls.Name_function_global I.ok.kind hg (Calls.loadGlobal_builtin (by rw[I.ok.glob];exact I.mod.glob.keeps I.bk) hm (by rw[I.ok.blt];exact h1.keeps I.bk) ((h2 x hn).trans hv) h) hd
theorem vp {x:Str}{v:V}{u:Value}{pos:Pos}(hg:Gl X x)(hm:X.mg x=some u)(r:RelV v u)(hd:(x==("__debug__" :Str))=false:=by decide):PE X (.Name x pos) (tC v):=
 fun _ _ _ H _ I h=>jB I hg hm ⟨v,H,I,r,h⟩ hd
theorem qL {x:Str}{v:V}{u:Value}{pos:Pos}(hg:Gl X x)(hm:X.mg x=none)(hv:bootBuiltins x=some u)(r:RelV v u)(hn:x≠ "__name__" :=by decide)(hd:(x==("__debug__" :Str))=false:=by decide):PE X (.Name x pos) (tC v):=
 fun _ _ _ H _ I h=>i_ I hg hm hv ⟨v,H,I,r,h⟩ hn hd
variable{a b:Expr}{ta tb:TE}{pos:Pos}
variable{tA tB':TT}{rest:List Expr}
end
noncomputable def gB (K:W.Frag)(H:Hp)(a:Addr)(xs:List V):Prop:=
 Rd H a (.lst xs)∨
  ∃(o:Obj) (its:Array Value) (n:Nat),K.lookup a=some o∧o.cls= .type "list" ∧o.dict=none∧o.data= .seq its n∧its.size≤sizeLine∧Vals xs its.toList
noncomputable def mj (K:W.Frag)(H:Hp)(a:Addr)(xs:List V):Prop:=
 Rd H a (.tup xs)∨
  ∃(o:Obj) (its:Array Value) (n:Nat),K.lookup a=some o∧o.cls= .type "tuple" ∧o.data= .seq its n∧its.size≤sizeLine∧Vals xs its.toList
noncomputable def ET:Value→Option V
 |.none=>some .non
 |.bool b=>some (.bl b)
 |.int i _=>some (.int i)
 |.str x _=>some (.str x)
 |.bytes b _=>some (.byt b)
 |.float b _=>some (.flt b)
 |.ref a=>some (.ref a)
 |.type n=>some (.ty n)
 |_=>none
theorem RelV.abs {x:V}{u:Value}(r:RelV x u):ET u=some x:=by
 cases x with
 |non=>cases r;rfl
 |bl _=>cases r;rfl
 |int _=>obtain⟨t,rfl⟩:=r;rfl
 |str _=>obtain⟨t,rfl⟩:=r;rfl
 |byt _=>obtain⟨t,rfl⟩:=r;rfl
 |flt _=>obtain⟨t,rfl⟩:=r;rfl
 |ref _=>cases r;rfl
 |ty _=>cases r;rfl
theorem RelV.inj {x y:V}{u:Value}(r:RelV x u)(q:RelV y u):x=y:=Option.some.inj (r.abs.symm.trans q.abs)
theorem Vals.inj:∀{xs ys:List V} {us:List Value},Vals xs us→Vals ys us→xs=ys
 |_,_,_,.nil,.nil=>rfl
 |_,_,_,.cons r t,.cons r' t'=>by rw[r.inj r',Vals.inj t t']
section
variable{X:Cx}{pins:List (Addr×Obj)}{σ:St}{H:Hp}{s:Shared}{a:Addr}{xs ys:List V}
theorem Inv.list (I:Inv X pins σ H s)(h:gB X.K H a xs):∃its:List Value,Vals xs its∧PlainL s.heap a its.toArray∧xs.length≤sizeLine:=by
 rcases h with h|⟨o,its,n,hk,hc,hd,hs,hz,r⟩
 ·obtain⟨z,its,n,r,e⟩:=h.ok I.hok;exact⟨its,r,⟨_,n,e,rfl,rfl,rfl⟩,z⟩
 ·refine⟨its.toList,r,⟨o,n,I.kIn a o hk,hc,hd,by simpa using hs⟩,?_⟩;have e:=r.length;simp only[length_toList]at e;omega
theorem Inv.tuple (I:Inv X pins σ H s)(h:mj X.K H a xs):∃its:List Value,Vals xs its∧IsTup s.heap a its.toArray∧xs.length≤sizeLine:=by
 rcases h with h|⟨o,its,n,hk,hc,hs,hz,r⟩
 ·obtain⟨z,its,r,p⟩:=h.ok I.hok;exact⟨its,r,p,z⟩
 ·refine⟨its.toList,r,⟨o,I.kIn a o hk,hc,n,by simpa using hs⟩,?_⟩;have e:=r.length;simp only[length_toList]at e;omega
theorem Inv.list_inj (I:Inv X pins σ H s)(h:gB X.K H a xs)(h':gB X.K H a ys):xs=ys:=by
 obtain⟨its,r,⟨o,n,e,_,_,d⟩,_⟩:=I.list h;obtain⟨its',r',⟨o',n',e',_,_,d'⟩,_⟩:=I.list h';rw[e]at e';cases e';rw[d]at d';injection d' with d1 _
 have:its=its':=by simpa using congrArg toList d1
 subst this;exact r.inj r'
theorem Inv.tuple_inj (I:Inv X pins σ H s)(h:mj X.K H a xs)(h':mj X.K H a ys):xs=ys:=by
 obtain⟨its,r,⟨o,e,_,n,d⟩,_⟩:=I.tuple h;obtain⟨its',r',⟨o',e',_,n',d'⟩,_⟩:=I.tuple h';rw[e]at e';cases e';rw[d]at d';injection d' with d1 _
 have:its=its':=by simpa using congrArg toList d1
 subst this;exact r.inj r'
end
section
variable{X:Cx}{pins:List (Addr×Obj)}{σ:St}{H:Hp}{s:Shared}{E:Value→Shared→Prop}
end
section
variable{X:Cx}{st:Stmt}{rest:List Stmt}{t u:TS}{e:Expr}{te:TE}{pos:Pos}
noncomputable def Fp (t u:TS):TS:=fun D σ H=>t {D with nx:=u D} σ H
theorem sG (h1:PS X st t)(h2:DC X rest u):DC X (st::rest) (Fp t u):=by
 intro pins s σ H D I h;refine wpAny_execs_cons (aW (h1 pins s σ H {D with nx:=u D} I h) fun f s1 q=>?_)
 cases f with
 |next=>
  obtain⟨σ',H',I',q⟩:=q;exact h2 pins s1 σ' H' D I' q
 |ret v=>exact q
 |brk=>exact q
 |cont=>exact q
theorem AU (h1:PS X st t):DC X [st] t:=by
 intro pins s σ H D I h;refine wpAny_execs_cons (aW (h1 pins s σ H D I h) fun f s1 q=>?_);cases f with
 |next=>exact wpAny_execs_nil q
 |ret v=>exact q
 |brk=>exact q
 |cont=>exact q
theorem Inv.quiet {pins:List (Addr×Obj)}{σ:St}{H:Hp}{s:Shared}(I:Inv X pins σ H s):interactive X.env=false:=by simp[interactive,I.ok.kind]
noncomputable def EB (te:TE):TS:=fun D σ H=>te σ H fun _ H1=>D.nx σ H1
theorem iu (he:PE X e te)(hs:swapsWith e none pos.line X.env=pure false:=by rfl):PS X (.Expr e pos) (EB te):=by
 intro pins s σ H D I h;exact wpAny_Expr_any (aW (he pins s σ H _ I h) fun v s1 hZ41=>(by obtain⟨x,H1,I1,r1,q1⟩:=hZ41;exact⟨σ,H1,I1,q1⟩)) I.quiet hs
noncomputable def Fm (te:TE):TS:=fun D σ H=>te σ H D.rt
theorem qP (he:PE X e te):PS X (.Return (some e) pos) (Fm te):=by
 intro pins s σ H D I h;exact wpAny_Return_some (aW (he pins s σ H _ I h) fun v s1 hZ42=>(by obtain⟨x,H1,I1,r1,q1⟩:=hZ42;exact⟨x,σ,H1,I1,r1,q1⟩))
end
noncomputable abbrev TG:=V→St→Hp→(St→Hp→Prop)→Prop
noncomputable abbrev BU:=List V→St→Hp→(St→Hp→Prop)→Prop
noncomputable def PG (X:Cx)(target:Expr)(t:TG):Prop:=
 ∀(pins:List (Addr×Obj)) (s:Shared) (σ:St) (H:Hp) (v:V) (u:Value) (Q:St→Hp→Prop),Inv X pins σ H s→RelV v u→t v σ H Q→
  wpAny (model X.prog X.w) X.A (assign target X.env u) (fun _ s'=>SN X pins Q s') X.xe s
noncomputable def EI (X:Cx)(ts:List Expr)(t:BU):Prop:=
 ∀(pins:List (Addr×Obj)) (s:Shared) (σ:St) (H:Hp) (vs:List V) (us:List Value) (Q:St→Hp→Prop),Inv X pins σ H s→Vals vs us→t vs σ H Q→
  wpAny (model X.prog X.w) X.A (assignInOrder ((assignEach ts X.env).map (·.2)) us) (fun _ s'=>SN X pins Q s') X.xe s
section
variable{X:Cx}{pos:Pos}
noncomputable def ck (i:Nat):TG:=fun v σ H Q=>Q (σ.set i (some v)) H
theorem eV {i:Nat}{x:Str}(hN:X.N.Nodup)(hi:X.N[i]?=some x)(hx:tj X.env.scope x)(hf:X.fn x=true∨X.env.scope.names.lookup x=some .local:=by first|exact .inl rfl|exact .inr rfl|assumption):PG X (.Name x pos) (ck i):=by
 intro pins s σ H v u Q I r h;exact wpAny_assign_Name (k8 I hN hi hx r (fun s' I'=>⟨_,H,I',h⟩) hf)
noncomputable def v8:BU:=fun vs σ H Q=>vs=[]∧Q σ H
noncomputable def i7 (t:TG)(u:BU):BU:=fun vs σ H Q=>∃v r,vs=v::r∧t v σ H fun σ' H'=>u r σ' H' Q
theorem qM:EI X [] v8:=by
 intro pins s σ H vs us Q I r h;obtain⟨e,h⟩:=h;subst e;cases r;exact assignInOrder_nil ⟨σ,H,I,h⟩
theorem gM {e:Expr}{es:List Expr}{t:TG}{u:BU}(h1:PG X e t)(h2:EI X es u)
  (hs:(assignEach (e::es) X.env).map (·.2)=assign e X.env::(assignEach es X.env).map (·.2):=by rfl):EI X (e::es) (i7 t u):=by
 intro pins s σ H vs us Q I r h;obtain⟨v,vr,e1,h⟩:=h;subst e1;cases r with
 |cons r rr=>
  rw[hs];refine assignInOrder_cons (aW (h1 pins s σ H _ _ _ I r h) fun _ s1 hZ43=>?_);obtain⟨σ1,H1,I1,q1⟩:=hZ43;exact h2 pins s1 σ1 H1 _ _ Q I1 rr q1
noncomputable def v9 (K:W.Frag)(n:Nat)(t:BU):TG:=fun v σ H Q=>∃a xs,v= .ref a∧mj K H a xs∧xs.length=n∧t xs σ H Q
theorem um {es:List Expr}{k:Nat}{t:BU}{n:Nat}(hc:X.calm=true)(h:EI X es t)
  (hn:(assignEach es X.env).length=n:=by rfl) (hst:(assignEach es X.env).findIdx? (·.1)=none:=by rfl):PG X (.Tuple es k pos) (v9 X.K n t):=by
 intro pins s σ H v u Q I r hw;obtain⟨a,xs,e1,hq,hl,hw⟩:=hw;subst e1;cases r;obtain⟨its,rv,ht,hz⟩:=I.tuple hq;refine assign_Tuple_tuple (I.ok.hd hc) ht (by simp[hn,←hl,rv.length]) hst fun h' hx=>?_;have I1:Inv X pins σ H {s with heap:=h'}:=I.kept (t':=s.toks) fun b o e=>hx b o (ne_of_lt (Heap.lt_size e)) e
 exact h pins _ σ H xs _ Q I1 (by simpa using rv) hw
noncomputable def uz (te:TE)(g:TG):TS:=fun D σ H=>te σ H fun x H1=>g x σ H1 D.nx
theorem Dh {i:Nat}{x:Str}{e:Expr}{te:TE}{pos':Pos}(hN:X.N.Nodup)(hi:X.N[i]?=some x)(hx:tj X.env.scope x)(he:PE X e te)(hs:swapsWith e (some (.Name x pos')) pos.line X.env=pure false:=by rfl)(hf:X.fn x=true∨X.env.scope.names.lookup x=some .local:=by first|exact .inl rfl|exact .inr rfl|assumption) :
  PS X (.Assign [.Name x pos'] e pos) (uz te (ck i)):=by
 intro pins s σ H D I h;refine wpAny_Assign_Name (aW (he pins s σ H _ I h) fun v s1 hZ44=>?_) hs;obtain⟨y,H1,I1,r1,q1⟩:=hZ44;exact k8 I1 hN hi hx r1 (fun s2 I2=>⟨_,H1,I2,q1⟩) hf
end
structure It where
 go:Nat→Hp→Prop
 yld:Nat→Hp→V→Hp→Prop
 stop:Nat→Hp→Prop
noncomputable def iR (X:Cx)(pins:List (Addr×Obj))(H:Hp)(b:Addr):Prop:=
 H b=none∧b≠X.env.locals∧b∉X.fs∧(b∈X.ex∨X.s₀.heap.objs.size≤b)∧(∀x c,X.env.cells.lookup x=some c→c≠b)∧∀p∈X.pn ++ pins,p.1≠b
theorem Inv.fpOk {X:Cx}{pins:List (Addr×Obj)}{σ:St}{H H':Hp}{s:Shared}{b:Addr}(I:Inv X pins σ H s)(hb:s.heap.objs.size≤b)(hn:H' b=none):iR X pins H' b:=by
 refine⟨hn,ne_of_gt (lt_of_lt_of_le I.lt hb),I.nofs hb,.inr (le_trans I.sz hb),fun x c e z=>?_,fun p hp z=>?_⟩
 ·obtain⟨v,q⟩:=I.cell x c e;exact absurd (lt_of_lt_of_le q.lt (by rw[z];exact hb)) (lt_irrefl _)
 ·exact absurd (lt_of_lt_of_le (Heap.lt_size (I.pin p hp).1) (by rw[z];exact hb)) (lt_irrefl _)
structure Turn (P:Program)(w:World)(K:W.Frag)(tg:Expr)(J:It)(fp:List Addr)(it:Addr)(tn:Nat→Heap→Prop):Prop where
 mem:it∈fp
 obj:∀i h,tn i h→∀b∈fp,∃o,h.get? b=some o∧∀v,o.data≠ .cell v
 keep:∀i h h',tn i h→(∀b∈fp,∀o,h.get? b=some o→h'.get? b=some o)→tn i h'
 item:∀(X:Cx),X.prog=P→X.w=w→X.K=K→X.calm=true→∀(i:Nat) (pins:List (Addr×Obj)) (s:Shared) (σ:St) (H:Hp) (E:Value→Shared→Prop),Inv X pins σ H s→(∀b∈fp,iR X pins H b)→tn i s.heap→J.go i H→
  wpAny (model P w) X.A (pyNext (.ref it)) (fun r s1=>∃u,r=some u∧
   wpAny (model P w) X.A (letOwnedTupleGo tg (.ref it) u) (fun _ s2=>∃x H',Inv X pins σ H' s2∧RelV x u∧J.yld i H x H'∧tn (i+1) s2.heap∧∀b∈fp,H' b=none) E s1) E s
 done:∀(X:Cx),X.prog=P→X.w=w→X.K=K→X.calm=true→∀(i:Nat) (pins:List (Addr×Obj)) (s:Shared) (σ:St) (H:Hp) (E:Value→Shared→Prop),Inv X pins σ H s→(∀b∈fp,iR X pins H b)→tn i s.heap→J.stop i H→
  wpAny (model P w) X.A (pyNext (.ref it)) (fun r s1=>r=none∧Inv X pins σ H s1) E s
 self:∀(A:Around) (i:Nat) (s:Shared) (Q:Value→Shared→Prop) (E:Value→Shared→Prop),tn i s.heap→Q (.ref it) s→wpAny (model P w) A (pyIter (.ref it)) Q E s
noncomputable abbrev TI:=St→Hp→(It→Hp→Prop)→Prop
inductive PIE (X:Cx)(pins:List (Addr×Obj))(σ:St)(tg:Expr)(R:It→Hp→Prop)(itv:Value)(s2:Shared):Prop
 |mk (it:Addr) (fp:List Addr) (tn:Nat→Heap→Prop) (J:It) (H':Hp) (e:itv= .ref it) (i:Inv X pins σ H' s2) (T:Turn X.prog X.w X.K tg J fp it tn) (st:tn 0 s2.heap) (f:∀b∈fp,iR X pins H' b) (q:R J H')
noncomputable def PI (X:Cx)(tg iter:Expr)(wi:TI):Prop:=
 ∀(pins:List (Addr×Obj)) (s:Shared) (σ:St) (H:Hp) (R:It→Hp→Prop),Inv X pins σ H s→wi σ H R→
  wpAny (model X.prog X.w) X.A (eval iter X.env) (fun v s1=>wpAny (model X.prog X.w) X.A (pyIter v) (PIE X pins σ tg R) X.xe s1) X.xe s
theorem u7 {M:Model}{A:Around}{E:Value→Shared→Prop}{s:Shared}{tg:Expr}{it:Addr}{u:Value}{o:Obj}{n:String}{vs:Array Value}{Q:Unit→Shared→Prop}(ho:s.heap.get? it=some o)(hc:o.cls= .type n)(hd:o.data= .fields vs)
    (hn:["enumerate","zip","dict_itemiterator","dict_reverseitemiterator","odict_iterator","itertools.zip_longest","itertools.pairwise"].contains n=false) (hQ:Q () s):wpAny M A (letOwnedTupleGo tg (.ref it) u) Q E s:=by
  unfold letOwnedTupleGo;cases tg <;> first
    |exact wpAny_pure hQ
    | (cases u <;> first
        |exact wpAny_pure hQ
        | (refine wpAny_bind (wpAny_load ho ?_)
           rw[hc,hd];show wpAny M A (if (["enumerate","zip","dict_itemiterator","dict_reverseitemiterator","odict_iterator","itertools.zip_longest","itertools.pairwise"].contains n&&vs[0]?==some (rawInt _))=true then _ else _) Q E s
           rw[if_neg (by intro h;rw[hn,Bool.false_and]at h;cases h)];exact wpAny_pure hQ))
noncomputable def EG (K:W.Frag)(a:Addr):It:=
 ⟨fun i H=>∃xs x,gB K H a xs∧xs[i]?=some x,fun i H x H'=>H'=H∧∀xs,gB K H a xs→xs[i]?=some x,fun i H=>∃xs,gB K H a xs∧xs.length≤i⟩
noncomputable def EH (K:W.Frag)(a:Addr):It:=
 ⟨fun i H=>∃xs x,mj K H a xs∧xs[i]?=some x,fun i H x H'=>H'=H∧∀xs,mj K H a xs→xs[i]?=some x,fun i H=>∃xs,mj K H a xs∧xs.length≤i⟩
noncomputable def Dz (lo:Int)(n:Nat):It:=⟨fun i _=>i<n,fun i H x H'=>H'=H∧x= .int (lo+i),fun i _=>n≤i⟩
theorem wW {P:Program}{w:World}{K:W.Frag}{tg:Expr}(a it:Addr):Turn P w K tg (EG K a) [it] it (fun i h=>h.IsListIter it a i) where
 mem:=by simp
 obj:=fun i h q b hb=>by
  have e:b=it:=by simpa using hb
  subst e;obtain⟨o,e,c,d⟩:=q;exact⟨o,e,fun v z=>by rw[d]at z;cases z⟩
 keep:=fun i h h' q k=>q.at fun o e=>k it (by simp) o e
 item:=by
  intro X hP hw hK hc i pins s σ H E I hf q hg;subst hP hw hK;obtain⟨xs,x,hq,hx⟩:=hg;obtain⟨its,rv,p,hz⟩:=I.list hq;obtain⟨u,hu,ru⟩:=rv.get hx;obtain⟨f0,f1,f2,f3,f4,f5⟩:=hf it (by simp);refine wpAny_pyNext_list_item q p.isList (x:=u) (by simpa using hu) fun h' st' sb=>?_;have I1:Inv X pins σ H {s with heap:=h'}:=I.turned (t':=s.toks) (fun b o hb e=>(sb.2 b hb).trans e) f0 f1 f3 f4 f5
  obtain⟨o,e,c,d⟩:=id st';exact⟨u,rfl,u7 (s:={s with heap:=h'}) e c d (by decide) ⟨x,H,I1,ru,⟨rfl,fun ys hy=>by rw[I.list_inj hy hq];exact hx⟩,st',fun b hb=>(hf b hb).1⟩⟩
 done:=by
  intro X hP hw hK hc i pins s σ H E I hf q hg;subst hP hw hK;obtain⟨xs,hq,hx⟩:=hg;obtain⟨its,rv,p,hz⟩:=I.list hq;obtain⟨f0,f1,f2,f3,f4,f5⟩:=hf it (by simp);have hl:=rv.length;exact wpAny_pyNext_list_end (I.ok.hd hc) q p.isList (by simp;omega) fun h' eb=>⟨rfl,I.turned (t':=s.toks) (fun b o hb e=>eb b o hb e) f0 f1 f3 f4 f5⟩
 self:=fun _ _ _ _ _ q h=>wpAny_pyIter_listiter q h
theorem uC {P:Program}{w:World}{K:W.Frag}{tg:Expr}(a it:Addr):Turn P w K tg (EH K a) [it] it (fun i h=>h.IsTupleIter it a i) where
 mem:=by simp
 obj:=fun i h q b hb=>by
  have e:b=it:=by simpa using hb
  subst e;obtain⟨o,e,c,d⟩:=q;exact⟨o,e,fun v z=>by rw[d]at z;cases z⟩
 keep:=fun i h h' q k=>q.at fun o e=>k it (by simp) o e
 item:=by
  intro X hP hw hK hc i pins s σ H E I hf q hg;subst hP hw hK;obtain⟨xs,x,hq,hx⟩:=hg;obtain⟨its,rv,p,hz⟩:=I.tuple hq;obtain⟨u,hu,ru⟩:=rv.get hx;obtain⟨f0,f1,f2,f3,f4,f5⟩:=hf it (by simp);refine wpAny_pyNext_tuple_item q (show s.heap.IsTuple a its.toArray from p) (x:=u) (by simpa using hu) fun h' st' sb=>?_;have I1:Inv X pins σ H {s with heap:=h'}:=I.turned (t':=s.toks) (fun b o hb e=>(sb.2 b hb).trans e) f0 f1 f3 f4 f5
  obtain⟨o,e,c,d⟩:=id st';exact⟨u,rfl,u7 (s:={s with heap:=h'}) e c d (by decide) ⟨x,H,I1,ru,⟨rfl,fun ys hy=>by rw[I.tuple_inj hy hq];exact hx⟩,st',fun b hb=>(hf b hb).1⟩⟩
 done:=by
  intro X hP hw hK hc i pins s σ H E I hf q hg;subst hP hw hK;obtain⟨xs,hq,hx⟩:=hg;obtain⟨its,rv,p,hz⟩:=I.tuple hq;obtain⟨f0,f1,f2,f3,f4,f5⟩:=hf it (by simp);have hl:=rv.length;exact wpAny_pyNext_tuple_end (I.ok.hd hc) q (show s.heap.IsTuple a its.toArray from p) (by simp;omega) fun h' eb=>⟨rfl,I.turned (t':=s.toks) (fun b o hb e=>eb b o hb e) f0 f1 f3 f4 f5⟩
 self:=fun _ _ _ _ _ q h=>wpAny_pyIter_tupleiter q h
theorem uB {P:Program}{w:World}{K:W.Frag}{tg:Expr}(it:Addr)(lo:Int)(n:Nat):Turn P w K tg (Dz lo n) [it] it (fun i h=>IsRangeIter h it (lo+(i:Nat)*1) ((n:Int)-(i:Nat)) 1) where
 mem:=by simp
 obj:=fun i h p b hb=>by
  have e:b=it:=by simpa using hb
  subst e;exact⟨_,p,fun v z=>by
   have z':Data.fields _=Data.cell v:=z;cases z'⟩
 keep:=fun i h h' p k=>k it (by simp) _ p
 item:=by
  intro X hP hw hK hc i pins s σ H E I hf p hg;subst hP hw hK;obtain⟨f0,f1,f2,f3,f4,f5⟩:=hf it (by simp);have W:=Walks.range (prog:=X.prog) (w:=X.w) (I.ok.hd hc) it lo 1 n;refine W.item i s _ _ hg p fun v h' tk hv st' kk=>?_;obtain⟨t,rfl⟩:=hv;have I1:Inv X pins σ H {s with heap:=h',toks:=tk}:=I.turned (fun b o hb e=>kk b o (by simpa using hb) e) f0 f1 f3 f4 f5
  refine⟨_,rfl,u7 (s:={s with heap:=h',toks:=tk}) (n:= "range_iterator") st' rfl rfl (by decide) ⟨.int (lo+i),H,I1,⟨t,?_⟩,⟨rfl,rfl⟩,st',fun b hb=>(hf b hb).1⟩⟩
  rw[Int.mul_one]
 done:=by
  intro X hP hw hK hc i pins s σ H E I hf p hg;subst hP hw hK;obtain⟨f0,f1,f2,f3,f4,f5⟩:=hf it (by simp);exact wpAny_pyNext_range_end (I.ok.hd hc) p (by have:n≤i:=hg;omega) fun h' eb=>⟨rfl,I.turned (t':=s.toks) (fun b o hb e=>eb b o hb e) f0 f1 f3 f4 f5⟩
 self:=fun _ _ _ _ _ p h=>wpAny_pyIter_rangeiter p h
section
variable{X:Cx}{tg:Expr}
noncomputable def DZ (K:W.Frag)(tl:TE):TI:=fun σ H R=>tl σ H fun x H1=>∃a,x= .ref a∧(∃xs,gB K H1 a xs)∧R (EG K a) H1
noncomputable def EW (K:W.Frag)(tl:TE):TI:=fun σ H R=>tl σ H fun x H1=>∃a,x= .ref a∧(∃xs,mj K H1 a xs)∧R (EH K a) H1
theorem AF {l:Expr}{tl:TE}(hl:PE X l tl):PI X tg l (DZ X.K tl):=by
 intro pins s σ H R I h;refine aW (hl pins s σ H _ I h) fun v s1 hZ45=>?_;obtain⟨x,H1,I1,r1,q1⟩:=hZ45;obtain⟨a,e,⟨xs,hq⟩,q⟩:=q1;subst e;cases r1;obtain⟨its,rv,p,hz⟩:=I1.list hq;refine wpAny_pyIter_list p.isList ?_;refine⟨s1.heap.objs.size,[s1.heap.objs.size],_,_,H1,rfl,I1.kept (t':=s1.toks) fun b o e=>Heap.get?_push_of_some _ e,wW a _,⟨_,Heap.get?_push_size _ rfl,rfl,rfl⟩,fun b hb=>?_,q⟩;have e:b=s1.heap.objs.size:=by simpa using hb
 subst e;exact I1.fpOk (le_refl _) (I1.hok.fresh (le_refl _))
theorem C_ {l:Expr}{tl:TE}(hl:PE X l tl):PI X tg l (EW X.K tl):=by
 intro pins s σ H R I h;refine aW (hl pins s σ H _ I h) fun v s1 hZ46=>?_;obtain⟨x,H1,I1,r1,q1⟩:=hZ46;obtain⟨a,e,⟨xs,hq⟩,q⟩:=q1;subst e;cases r1;obtain⟨its,rv,p,hz⟩:=I1.tuple hq;refine wpAny_pyIter_tuple (show s1.heap.IsTuple a its.toArray from p) ?_;refine⟨s1.heap.objs.size,[s1.heap.objs.size],_,_,H1,rfl,I1.kept (t':=s1.toks) fun b o e=>Heap.get?_push_of_some _ e,uC a _,⟨_,Heap.get?_push_size _ rfl,rfl,rfl⟩,fun b hb=>?_,q⟩;have e:b=s1.heap.objs.size:=by simpa using hb
 subst e;exact I1.fpOk (le_refl _) (I1.hok.fresh (le_refl _))
theorem sI {pins:List (Addr×Obj)}{σ:St}{H:Hp}{s:Shared}{R:It→Hp→Prop}{E:Value→Shared→Prop}{lo hi:Int}{t u v:Tok}{tk:Nat}(I:Inv X pins σ H s)(h1: -(2 ^ 62)≤lo)(h2:lo<2 ^ 62)(h3: -(2 ^ 62)≤hi)(h4:hi<2 ^ 62)
  (q:R (Dz lo (hi-lo).toNat) H):wpAny (model X.prog X.w) X.A (pyIter (.ref s.heap.objs.size)) (PIE X pins σ tg R) E {s with heap:=s.heap.push {cls:=.type "range",data:=.fields #[.int lo t,.int hi u,.int 1 v]},toks:=tk}:=by
 refine wpAny_pyIter_range (IsRange.new ..) (small_one h1 h2 h3 h4) ?_;have I1:Inv X pins σ H {s with heap:=s.heap.push {cls:=.type "range",data:=.fields #[.int lo t,.int hi u,.int 1 v]},toks:=tk}:=I.kept fun b o e=>Heap.get?_push_of_some _ e
 refine⟨(s.heap.push {cls:=.type "range",data:=.fields #[.int lo t,.int hi u,.int 1 v]}).objs.size,[(s.heap.push {cls:=.type "range",data:=.fields #[.int lo t,.int hi u,.int 1 v]}).objs.size],_,_,H,rfl,
  I1.kept (t':=tk) fun b o e=>Heap.get?_push_of_some _ e,uB _ lo (hi-lo).toNat,?_,fun b hb=>?_,q⟩
 ·have e1:lo+((0:Nat):Int)*1=lo:=by simp
  have e2:(((hi-lo).toNat:Nat):Int)-((0:Nat):Int)=Builtin.Range.rangeSize lo hi 1:=by rw[rangeSize_one];split <;> omega
  show IsRangeIter _ _ (lo+((0:Nat):Int)*1) ((((hi-lo).toNat:Nat):Int)-((0:Nat):Int)) 1;rw[e1,e2];exact Heap.get?_push_size _ rfl
 ·have e:b=(s.heap.push {cls:=.type "range",data:=.fields #[.int lo t,.int hi u,.int 1 v]}).objs.size:=by simpa using hb
  subst e;exact I1.fpOk (le_refl _) (I1.hok.fresh (le_refl _))
noncomputable def D0 (ta:TA):TI:=fun σ H R=>ta σ H fun vs H1=>∃j:Int,vs=[.int j]∧ -(2 ^ 62)≤j∧j<2 ^ 62∧R (Dz 0 j.toNat) H1
noncomputable def D1 (ta:TA):TI:=fun σ H R=>ta σ H fun vs H1=>∃i j:Int,vs=[.int i,.int j]∧(-(2 ^ 62)≤i∧i<2 ^ 62∧ -(2 ^ 62)≤j∧j<2 ^ 62)∧R (Dz i (j-i).toNat) H1
theorem pL {a:Expr}{ta:TA}{p pos:Pos}(hg:Gl X "range")(hm:X.mg "range" =none)(ha:PA X [a] ta)(hs:starEach [a] X.env=[(false,eval a X.env)]:=by rfl):PI X tg (.Call (.Name "range" p) [a] [] pos) (D0 ta):=by
 intro pins s σ H R I h;refine Call_ (i_ I hg hm boot_range (PyProof.Rows.callWith_type1 (aW (ha pos pins s σ H _ I h) fun us s1 hZ47=>?_) hs rfl));obtain⟨vs,H1,I1,r1,q1⟩:=hZ47;obtain⟨j,e,q1,q2,q⟩:=q1;subst e;cases r1 with
 |cons r rr=>
  cases rr;obtain⟨t,rfl⟩:=r;exact call_range_1 (sI I1 (by omega) (by omega) q1 q2 (by simpa using q))
theorem pM {a b:Expr}{ta:TA}{p pos:Pos}(hg:Gl X "range")(hm:X.mg "range" =none)(ha:PA X [a,b] ta)(hs:starEach [a,b] X.env=[(false,eval a X.env),(false,eval b X.env)]:=by rfl)(hs2:starEach [b] X.env=[(false,eval b X.env)]:=by rfl) :
  PI X tg (.Call (.Name "range" p) [a,b] [] pos) (D1 ta):=by
 intro pins s σ H R I h;refine Call_ (i_ I hg hm boot_range (PyProof.Rows.callWith_type1 (aW (ha pos pins s σ H _ I h) fun us s1 hZ48=>?_) (by rw[hs,hs2]) (by rw[hs2];rfl)));obtain⟨vs,H1,I1,r1,q1⟩:=hZ48;obtain⟨i,j,e,⟨q1,q2,q3,q4⟩,q⟩:=q1;subst e;cases r1 with
 |cons r rr=>
  cases rr with
  |cons r' rr=>
   cases rr;obtain⟨t,rfl⟩:=r;obtain⟨t',rfl⟩:=r';exact call_range_2 (sI I1 q1 q2 q3 q4 q)
noncomputable def nX (fp:List Addr)(h:Heap):List (Addr×Obj):=fp.filterMap fun b=>(h.get? b).map fun o=>(b,o)
theorem ik {fp:List Addr}{h:Heap}{b:Addr}{o:Obj}(hb:b∈fp)(e:h.get? b=some o):(b,o)∈nX fp h:=mem_filterMap.mpr ⟨b,hb,by rw[e];rfl⟩
theorem wA {fp:List Addr}{h:Heap}{p:Addr×Obj}(hp:p∈nX fp h):p.1∈fp∧h.get? p.1=some p.2:=by
 obtain⟨b,hb,e⟩:=mem_filterMap.mp hp;cases q:h.get? b with
 |none=>rw[q]at e;cases e
 |some o=>
  rw[q]at e;have e':(b,o)=p:=Option.some.inj e;subst e';exact⟨hb,q⟩
theorem Inv.pinned {pins:List (Addr×Obj)}{σ:St}{H:Hp}{s:Shared}{fp:List Addr}(I:Inv X pins σ H s)(hf:∀b∈fp,iR X pins H b)(ho:∀b∈fp,∃o,s.heap.get? b=some o∧∀v,o.data≠ .cell v):Inv X (pins ++ nX fp s.heap) σ H s:=
 I.pins_of fun p hp=>(mem_append.mp hp).elim (fun z=>I.pin p (mem_append_right _ z)) fun z=>by
  obtain⟨hb,e⟩:=wA z;obtain⟨f0,f1,f2,_⟩:=hf p.1 hb;obtain⟨o,e',d⟩:=ho p.1 hb;rw[e]at e';cases e';exact⟨e,f0,f1,f2,d⟩
theorem Inv.unpinned {pins pl:List (Addr×Obj)}{σ:St}{H:Hp}{s:Shared}(I:Inv X (pins ++ pl) σ H s):Inv X pins σ H s:=I.pins_of fun p hp=>I.pin p (mem_append_right _ (mem_append_left _ hp))
end
noncomputable abbrev R2:=V→V→Hp→VK→Prop
noncomputable def rh (X:Cx)(f:Value→Value→Sem Value)(r:R2):Prop:=
 ∀(pins:List (Addr×Obj)) (s:Shared) (σ:St) (H:Hp) (x y:V) (v u:Value) (Q:VK),Inv X pins σ H s→RelV x v→RelV y u→r x y H Q→
  wpAny (model X.prog X.w) X.A (f v u) (EP X pins σ Q) X.xe s
noncomputable def Fu (X:Cx)(f:Value→Sem Value)(r:V→Hp→VK→Prop):Prop:=
 ∀(pins:List (Addr×Obj)) (s:Shared) (σ:St) (H:Hp) (x:V) (v:Value) (Q:VK),Inv X pins σ H s→RelV x v→r x H Q→
  wpAny (model X.prog X.w) X.A (f v) (EP X pins σ Q) X.xe s
noncomputable def d7 (X:Cx)(f:Value)(r:List V→Hp→VK→Prop):Prop:=
 ∀(pins:List (Addr×Obj)) (s:Shared) (σ:St) (H:Hp) (xs:List V) (us:List Value) (Q:VK),Inv X pins σ H s→Vals xs us→r xs H Q→
  wpAny (model X.prog X.w) X.A (call f us) (EP X pins σ Q) X.xe s
noncomputable def Fl (r:R2)(ta tb:TE):TE:=fun σ H Q=>ta σ H fun x H1=>tb σ H1 fun y H2=>r x y H2 Q
noncomputable def rI (C:Int→Int→Prop)(g:Int→Int→V):R2:=fun x y H Q=>∃i j,x= .int i∧y= .int j∧C i j∧Q (g i j) H
noncomputable def BI (g:Int→Int→V):R2:=fun x y H Q=>∃i j,x= .int i∧y= .int j∧Q (g i j) H
noncomputable def rU (g:Int→V):V→Hp→VK→Prop:=fun x H Q=>∃i,x= .int i∧Q (g i) H
section
variable{X:Cx}{a b c:Expr}{ta tb tc:TE}{pos:Pos}
theorem DG (ha:PE X a ta)(hb:PE X b tb){pins:List (Addr×Obj)}{s:Shared}{σ:St}{H:Hp}{R:V→V→Hp→Prop}(I:Inv X pins σ H s)
  (h:ta σ H fun x H1=>tb σ H1 fun y H2=>R x y H2) {Q:Value→Shared→Prop} {f:Value→Value→Sem Value}
  (hf:∀v u s2 x y H2,Inv X pins σ H2 s2→RelV x v→RelV y u→R x y H2→wpAny (model X.prog X.w) X.A (f v u) Q X.xe s2) :
  wpAny (model X.prog X.w) X.A (eval a X.env) (fun v s₁=>wpAny (model X.prog X.w) X.A (eval b X.env) (fun u s₂=>wpAny (model X.prog X.w) X.A (f v u) Q X.xe s₂) X.xe s₁) X.xe s:=by
 refine aW (ha pins s σ H _ I h) fun v s1 hZ49=>?_;obtain⟨x,H1,I1,r1,q1⟩:=hZ49;refine aW (hb pins s1 σ H1 _ I1 q1) fun u s2 hZ50=>?_;obtain⟨y,H2,I2,r2,q2⟩:=hZ50;exact hf v u s2 x y H2 I2 r1 r2 q2
theorem Eo {op:Operator}{r:R2}(ho:rh X (binaryOp op) r)(ha:PE X a ta)(hb:PE X b tb):PE X (.BinOp a op b pos) (Fl r ta tb):=by
 intro pins s σ H Q I h;exact wpAny_BinOp (DG ha hb I h fun v u s2 x y H2 I2 rx ry q=>ho pins s2 σ H2 x y v u Q I2 rx ry q)
theorem E7 {f:Value→Value→Sem Value}{C:Int→Int→Prop}{g:Int→Int→Int}
  (rule:∀(i j:Int) (t u:Tok) (s:Shared) (Q:Value→Shared→Prop) (E:Value→Shared→Prop),C i j→Q (.int (g i j) s.toks) {s with toks:=s.toks+1}→wpAny (model X.prog X.w) X.A (f (.int i t) (.int j u)) Q E s) :
  rh X f (rI C fun i j=>.int (g i j)):=by
 intro pins s σ H x y v u Q I rx ry h;obtain⟨i,j,rfl,rfl,hc,q⟩:=h;obtain⟨t,rfl⟩:=rx;obtain⟨t',rfl⟩:=ry;exact rule i j t t' s _ _ hc ⟨.int (g i j),H,I.tok _,⟨_,rfl⟩,q⟩
theorem Eh {f:Value→Value→Sem Value}{g:Int→Int→Int}
  (rule:∀(i j:Int) (t u:Tok) (s:Shared) (Q:Value→Shared→Prop) (E:Value→Shared→Prop),Q (.int (g i j) s.toks) {s with toks:=s.toks+1}→wpAny (model X.prog X.w) X.A (f (.int i t) (.int j u)) Q E s) :
  rh X f (BI fun i j=>.int (g i j)):=by
 intro pins s σ H x y v u Q I rx ry h;obtain⟨i,j,rfl,rfl,q⟩:=h;obtain⟨t,rfl⟩:=rx;obtain⟨t',rfl⟩:=ry;exact rule i j t t' s _ _ ⟨.int (g i j),H,I.tok _,⟨_,rfl⟩,q⟩
theorem CU {f:Value→Value→Sem Value}{g:Int→Int→Bool}
  (rule:∀(i j:Int) (t u:Tok) (s:Shared) (Q:Value→Shared→Prop) (E:Value→Shared→Prop),Q (.bool (g i j)) s→wpAny (model X.prog X.w) X.A (f (.int i t) (.int j u)) Q E s) :
  rh X f (BI fun i j=>.bl (g i j)):=by
 intro pins s σ H x y v u Q I rx ry h;obtain⟨i,j,rfl,rfl,q⟩:=h;obtain⟨t,rfl⟩:=rx;obtain⟨t',rfl⟩:=ry;exact rule i j t t' s _ _ ⟨.bl (g i j),H,I,rfl,q⟩
noncomputable def w6 (i j:Int):Prop:=0<j∧j<1073741824
noncomputable def CMul (i j:Int):Prop:=(-(2 ^ 64)<i∧i<2 ^ 64)∨(-(2 ^ 64)<j∧j<2 ^ 64)
theorem CMul.ok {i j:Int}(h:CMul i j):IntMulOk i j:=by
 rcases h with ⟨h1,h2⟩|⟨h1,h2⟩
 ·exact .of_left (intBits_le_64 h1 h2)
 ·exact .of_right (intBits_le_64 h1 h2)
theorem CV:rh X (binaryOp .Add) (BI fun i j=>.int (i+j)):=Eh fun _ _ _ _ _ _ _ q=>add_int q
theorem C0:rh X (binaryOp .Sub) (BI fun i j=>.int (i-j)):=Eh fun _ _ _ _ _ _ _ q=>sub_int q
theorem CY:rh X (binaryOp .Mult) (rI CMul fun i j=>.int (i*j)):=E7 fun _ _ _ _ _ _ _ hc q=>mul_int q hc.ok
theorem Ax:rh X (binaryOp .FloorDiv) (rI w6 fun i j=>.int (i / j)):=E7 fun i j _ _ _ _ _ hc q=>by
 have h1:(0:Int)<j:=hc.1;have h2:j<1073741824:=hc.2;exact floordiv_int (by omega) (by rw[Int.fdiv_eq_ediv_of_nonneg i (by omega)];exact q) (.inl (PyProof.noPylong_small (by omega)))
theorem CW:rh X (binaryOp .Mod) (rI (fun _ j=>0<j) fun i j=>.int (i % j)):=E7 fun i j _ _ _ _ _ hc q=>by
 have h1:(0:Int)<j:=hc;exact mod_int' (by omega) (by rw[Int.fmod_eq_emod_of_nonneg i (by omega)];exact q)
theorem FG {f:Value→Sem Value}{g:Int→Int}
  (rule:∀(i:Int) (t:Tok) (s:Shared) (Q:Value→Shared→Prop) (E:Value→Shared→Prop),Q (.int (g i) s.toks) {s with toks:=s.toks+1}→wpAny (model X.prog X.w) X.A (f (.int i t)) Q E s) :
  Fu X f (rU fun i=>.int (g i)):=by
 intro pins s σ H x v Q I rx h;obtain⟨i,rfl,q⟩:=h;obtain⟨t,rfl⟩:=rx;exact rule i t s _ _ ⟨.int (g i),H,I.tok _,⟨_,rfl⟩,q⟩
theorem Ds:Fu X (unaryOp .USub) (rU fun i=>.int (-i)):=FG fun _ _ _ _ _ q=>neg_int q
theorem Ek:rh X (compareOp .Lt) (BI fun i j=>.bl (decide (i<j))):=CU fun _ _ _ _ _ _ _ q=>lt_int q
theorem Ej:rh X (compareOp .LtE) (BI fun i j=>.bl (decide (i≤j))):=CU fun _ _ _ _ _ _ _ q=>le_int q
theorem Ei:rh X (compareOp .Gt) (BI fun i j=>.bl (decide (j<i))):=CU fun _ _ _ _ _ _ _ q=>gt_int q
theorem bc (b:Expr){op:CmpOp}(h:op≠ .In:=by decide)(h2:op≠ .NotIn:=by decide):behindInMarks op b=false:=by
 have e1:(op==CmpOp.In)=false:=by cases op <;> first|rfl|exact absurd rfl h
 have e2:(op==CmpOp.NotIn)=false:=by cases op <;> first|rfl|exact absurd rfl h2
 cases b <;> simp[behindInMarks,e1,e2]
theorem qF:(sizeLine:Nat)<2 ^ 63:=by rw[sizeLine_eq];decide
theorem ua:rh X (binaryOp .Add) (fun x y H Q=>∃i j,x= .str i∧y= .str j∧i.length+j.length≤sizeLine∧Q (.str (i ++ j)) H):=by
 intro pins s σ H x y v u Q I rx ry h;obtain⟨i,j,rfl,rfl,hz,q⟩:=h;obtain⟨t,rfl⟩:=rx;obtain⟨t',rfl⟩:=ry;exact add_str (fun t' tk=>⟨.str (i ++ j),H,I.tok _,⟨_,rfl⟩,q⟩) hz
theorem jm {x:V}{us:List Value}(r:Vals [x] us):∃u,us=[u]∧RelV x u:=by
 cases r with
 |cons r1 r2=>cases r2;exact⟨_,rfl,r1⟩
theorem BN {x y:V}{us:List Value}(r:Vals [x,y] us):∃u w',us=[u,w']∧RelV x u∧RelV y w':=by
 cases r with
 |cons r1 r2=>
  cases r2 with
  |cons r3 r4=>cases r4;exact⟨_,_,rfl,r1,r3⟩
end
structure ObjM (h:Heap)(x dx C:Addr)(mA:Str→Option Value):Prop where
 obj:h.get? x=some (W.instObj C dx)
 ns:h.Ns1 dx mA
 ne:dx≠x
theorem wq {h:Heap}{dx:Addr}{mA:Str→Option Value}(n:h.Ns1 dx mA):∃od,h.get? dx=some od∧∀name,W.lookIn name od=some (mA name):=by
 obtain⟨o,es,ep,ho,hd,hk,_,hm⟩:=n;refine⟨o,ho,fun name=>?_⟩;have e:=hm name;unfold nsFind findBy at e;rw[←Array.find?_toList]at e;unfold W.lookIn;rw[hd];dsimp only;split
 ·rename_i y q;rw[q]at e;exact congrArg some e
 ·rename_i q;rw[q]at e;have a:es.toList.any (·.refKey)=false:=by
   rw[List.any_eq_false];intro y hy;obtain⟨z,t,hkey⟩:=hk y (Array.mem_toList_iff.mp hy);simp[DictEntry.refKey,hkey]
  have a':¬es.toList.any (·.refKey)=true:=by rw[a];exact Bool.false_ne_true
  rw[if_neg a'];exact congrArg some e
theorem ObjM.look {h:Heap}{x dx C:Addr}{mA:Str→Option Value}(I:ObjM h x dx C mA):∃od,W.InstAt h x (W.instObj C dx) C (some od)∧∀name,W.lookIn name od=some (mA name):=
 let ⟨od,ho,hl⟩:=wq I.ns
 ⟨od,⟨I.obj,rfl,rfl,ho⟩,hl⟩
section
variable{prog:Program}{w:World}{A:Around}{E:Value→Shared→Prop}{s:Shared}{K:W.Frag}{x dx C f:Addr}{mA:Str→Option Value}{name:Str}{v:Value}
theorem Ag {expr:Bool}{Q:Value→Shared→Prop}(X:K.In s.heap)(I:ObjM s.heap x dx C mA)(hg:W.plainGet K C name=true)(hh:W.hasDictIn K C=true)
  (ha:W.findIn K (.ref C) name=some none) (hv:mA name=some v) (hv':W.handedIn v=true) (h:Q v {s with toks:=s.toks+1}) :
  wpAny (model prog w) A (getAttr (.ref x) name expr) Q E s:=by
 obtain⟨od,J,hl⟩:=I.look;exact W.get_value X J (W.plainGet_of hg).1 (W.findObj_own hh ha rfl (by rw[hl,hv])) hv' h
theorem xN {pl:Sem Bool}{Q:Value×List Value→Shared→Prop}(X:K.In s.heap)(I:ObjM s.heap x dx C mA)(hg:W.plainGet K C name=true)
  (hf:W.findIn K (.ref C) name=some (some (.ref f))) (ht:W.isFn K (.ref f)=true) (hv:mA name=none) (h:Q (.ref f,[.ref x]) s) :
  wpAny (model prog w) A (getMethod (.ref x) name pl) Q E s:=by
 obtain⟨od,J,hl⟩:=I.look;exact W.method_fn X J (W.plainGet_of hg).1 (W.plainGet_of hg).2 hf (beq_iff_eq.mp ht) (by show (W.lookIn name od).map (·.isSome)=some false;rw[hl,hv];rfl) h
theorem A5 {ns:List Str}{Q:Unit→Shared→Prop}(X:K.In s.heap)(I:ObjM s.heap x dx C mA)
  (hs:W.findIn K (.ref C) "__setattr__" =some (some (.builtin "object.__setattr__"))) (hp:W.plainOver K C=true) (ht:W.takerIn K C name=some none) (hh:W.hasDictIn K C=true)
  (hw:PySem.Within mA ns) (hsz:ns.length≤sizeLine)
  (h:∀h',ObjM h' x dx C (fun y=>if y=name then some v else mA y)→Heap.SameBut dx s.heap h'→Q () {s with heap:=h',toks:=s.toks+2}) :
  wpAny (model prog w) A (setAttr (.ref x) name v) Q E s:=by
 obtain⟨od,J,hl⟩:=I.look;refine W.set_plain X J hs (W.osa_open (s:={s with toks:=s.toks+1}) (r:=none) X J hp ht fun b=>?_)
 obtain⟨cd,hc,hd'⟩:=W.any_some hh;have hx:s.heap.get? x=some ⟨.ref C,some dx,.plain,#[]⟩:=I.obj;refine wpAny_bind (wpAny_pure (wpAny_bind (wpAny_bind (wpAny_loadPart hx (wpAny_bind (W.Looks.here (s:={s with toks:=s.toks+1}) (W.looks_clsIn X hc) ?_))))))
 rw[hd'];refine wpAny_pure (a:=some dx) (wpAny_bind (wpAny_pure (wpAny_bind ?_)));refine wpAny_nsSet1 (s:={s with toks:=s.toks+1}) I.ns fun h' hn2 hs2=>?_
 obtain⟨oD,esD,epD,hoD,hdD,hcD⟩:=hn2.count (PySem.Within.cons name v hw);refine wpAny_bind (wpAny_lookBehind hoD (by rw[hdD];exact pastItsLine_dict (le_trans hcD (by rw[length_cons];omega))) ?_);exact wpAny_pure (h _ ⟨(hs2.2 _ (Ne.symm I.ne)).trans I.obj,hn2,I.ne⟩ hs2)
theorem yc {R:Result→Shared→Prop}{vs:List Value}{kw:List (Str×Value)}(X:K.In s.heap)(hm:W.makesIn K C=true)
  (hi:W.findIn K (.ref C) "__init__" =some (some (.ref f))) (hf:W.typeIn K (.ref f)=some (.type "function"))
  (h:codeAny (model prog w) (A.under (.builtin "type.__call__" ⟨.ref C::vs,kw⟩)) (.call (.ref f) ⟨.ref (s.heap.objs.size+1)::vs,kw⟩) (W.InitBack (s.heap.objs.size+1) R)
   {s with heap:=(s.heap.push W.emptyDict).push (W.instObj C s.heap.objs.size)}) :
  codeAny (model prog w) A (.call (.ref C) ⟨vs,kw⟩) R s:=by
 obtain⟨hh,g,d,t,os⟩:=s;exact W.make_core (W.makes_of X hm) (W.looks_findIn X hi) (fun self=>W.bind_fn X self hf) (.inl rfl) h
end
noncomputable def iw (f:Str)(v:V):List (Str×V)→List (Str×V)
 | []=>[(f,v)]
 |(g,x)::r=>if g=f then (g,v)::r else (g,x)::iw f v r
theorem lY (f g:Str)(v:V):∀fs:List (Str×V),(iw f v fs).lookup g=if g=f then some v else fs.lookup g
 | []=>by
  show List.lookup g [(f,v)]=_;by_cases h:g=f
  ·have p:(g==f)=true:=beq_iff_eq.mpr h;simp only[List.lookup,p,if_pos h]
  ·have p:(g==f)=false:=beq_eq_false_iff_ne.mpr h;simp only[List.lookup,p,if_neg h]
 |(k,x)::r=>by
  have ih:=lY f g v r;rw[show iw f v ((k,x)::r)=(if k=f then (k,v)::r else (k,x)::iw f v r) from rfl]
  by_cases hk:k=f
  ·rw[if_pos hk];by_cases h:g=k
   ·have p:(g==k)=true:=beq_iff_eq.mpr h;simp only[List.lookup,p,if_pos (h.trans hk)]
   ·have p:(g==k)=false:=beq_eq_false_iff_ne.mpr h;simp only[List.lookup,p,if_neg (fun e:g=f=>h (e.trans hk.symm))]
  ·rw[if_neg hk];by_cases h:g=k
   ·have p:(g==k)=true:=beq_iff_eq.mpr h;simp only[List.lookup,p,if_neg (fun e:g=f=>hk (h.symm.trans e))]
   ·have p:(g==k)=false:=beq_eq_false_iff_ne.mpr h;simp only[List.lookup,p];exact ih
theorem lC (f:Str)(v:V):∀fs:List (Str×V),f∈(iw f v fs).map (·.1)∧∀g,g∈fs.map (·.1)→g∈(iw f v fs).map (·.1)
 | []=>⟨by simp[iw],fun g h=>by simp at h⟩
 |(k,x)::r=>by
  obtain⟨i1,i2⟩:=lC f v r;rw[show iw f v ((k,x)::r)=(if k=f then (k,v)::r else (k,x)::iw f v r) from rfl]
  by_cases hk:k=f
  ·rw[if_pos hk];subst hk;exact⟨by simp,fun g h=>by simpa using h⟩
  ·rw[if_neg hk];refine⟨?_,fun g h=>?_⟩
   ·rw[map_cons];exact eB i1
   ·rw[map_cons]at h ⊢
    rcases mem_cons.mp h with e|e
    ·exact mem_cons.mpr (.inl e)
    ·exact eB (i2 g e)
theorem lU (f:Str)(v:V):∀fs:List (Str×V),(iw f v fs).length≤fs.length+1
 | []=>by simp[iw]
 |(k,x)::r=>by
  have ih:=lU f v r;rw[show iw f v ((k,x)::r)=(if k=f then (k,v)::r else (k,x)::iw f v r) from rfl]
  by_cases hk:k=f
  ·rw[if_pos hk,length_cons,length_cons];omega
  ·rw[if_neg hk,length_cons,length_cons];omega
theorem RelO.some_of {v:V}{o:Option Value}(r:RelO (some v) o):∃u,o=some u∧RelV v u:=by
 cases o with
 |none=>exact(show False from r).elim
 |some u=>exact⟨u,rfl,r⟩
theorem RelO.none_of {o:Option Value}(r:RelO none o):o=none:=by
 cases o with
 |none=>rfl
 |some u=>exact(show False from r).elim
theorem v_ {v:V}{u:Value}(r:RelV v u):W.handedIn u=true:=by
 cases v with
 |non=>cases (show u=Value.none from r);rfl
 |bl b=>cases (show u=Value.bool b from r);rfl
 |int i=>obtain⟨t,e⟩:=(show ∃t,u=Value.int i t from r);cases e;rfl
 |str x=>obtain⟨t,e⟩:=(show ∃t,u=Value.str x t from r);cases e;rfl
 |byt b=>obtain⟨t,e⟩:=(show ∃t,u=Value.bytes b t from r);cases e;rfl
 |flt b=>obtain⟨t,e⟩:=(show ∃t,u=Value.float b t from r);cases e;rfl
 |ref a=>cases (show u=Value.ref a from r);rfl
 |ty n=>cases (show u=Value.type n from r);rfl
section
variable{P:Program}{w:World}{H H':Hp}{h h':Heap}{a C dx:Addr}{fs fs':List (Str×V)}
theorem qw (hok:HOk P w H h)(e:H a=some (.ins C dx fs)):∃mA,ObjM h a dx C mA∧(∀f,RelO (fs.lookup f) (mA f))∧PySem.Within mA (fs.map (·.1))∧fs.length≤1000∧H dx=some (.own a):=by
 obtain⟨d,z,ne,ob,mA,n,r,q⟩:=(show ObjOk P w H h a (.ins C dx fs) from hok a _ e);exact⟨mA,⟨ob,n,ne⟩,r,q,z,d⟩
end
structure Cls (K:W.Frag)(C:Addr):Prop where
 pg:W.plainGet K C Str.empty=true
 hd:W.hasDictIn K C=true
 po:W.plainOver K C=true
 sa:W.findIn K (.ref C) "__setattr__" =some (some (.builtin "object.__setattr__"))
theorem Cls.get {K:W.Frag}{C:Addr}(c:Cls K C)(f:Str):W.plainGet K C f=true:=c.pg
noncomputable def NoAttr (K:W.Frag)(C:Addr)(f:Str):Prop:=W.findIn K (.ref C) f=some none
theorem NoAttr.taker {K:W.Frag}{C:Addr}{f:Str}(n:NoAttr K C f):W.takerIn K C f=some none:=by
 unfold W.takerIn;rw[show W.findIn K (.ref C) f=some none from n];rfl
structure Meth (K:W.Frag)(C:Addr)(m:Str)(f:Addr):Prop where
 at_:W.findIn K (.ref C) m=some (some (.ref f))
 fn:W.isFn K (.ref f)=true
 kp:W.keepIn K (.ref f)=true
section
variable{X:Cx}{pins:List (Addr×Obj)}{σ:St}{H:Hp}{s:Shared}{a C dx:Addr}{fs:List (Str×V)}{f:Str}{v:V}{A:Around}{E:Value→Shared→Prop}
theorem tT {b:Bool}{Q:Value→Shared→Prop}(I:Inv X pins σ H s)(e:H a=some (.ins C dx fs))(c:Cls X.K C)(n:NoAttr X.K C f)(l:fs.lookup f=some v)
  (h:∀u s',Inv X pins σ H s'→RelV v u→Q u s'):wpAny (model X.prog X.w) A (getAttr (.ref a) f b) Q E s:=by
 obtain⟨mA,O,r,_,_,_⟩:=qw I.hok e;obtain⟨u,hu,ru⟩:=RelO.some_of (v:=v) (o:=mA f) (by rw[←l];exact r f);exact Ag I.kIn O (c.get f) c.hd n hu (v_ ru) (h u _ (I.tok _) ru)
theorem tU {m:Str}{g:Addr}{pl:Sem Bool}{Q:Value×List Value→Shared→Prop}(I:Inv X pins σ H s)(e:H a=some (.ins C dx fs))(c:Cls X.K C)(k:Meth X.K C m g)(l:fs.lookup m=none)
  (h:Q (.ref g,[.ref a]) s):wpAny (model X.prog X.w) A (getMethod (.ref a) m pl) Q E s:=by
 obtain⟨mA,O,r,_,_,_⟩:=qw I.hok e;have hn:mA m=none:=RelO.none_of (by rw[←l];exact r m);exact xN I.kIn O (c.get m) k.at_ k.fn hn h
theorem uw {y:V}{u:Value}{Q:Unit→Shared→Prop}(I:Inv X pins σ H s)(e:H a=some (.ins C dx fs))(c:Cls X.K C)(n:NoAttr X.K C f)(hl:fs.length<1000)(ry:RelV y u)
  (h:∀s',Inv X pins σ (a9 H a (.ins C dx (iw f y fs))) s'→Q () s'):wpAny (model X.prog X.w) A (setAttr (.ref a) f u) Q E s:=by
 obtain⟨mA,O,r,wi,_,ho⟩:=qw I.hok e;have hz:(fs.map (·.1)).length≤sizeLine:=by rw[length_map,sizeLine_eq];omega
 refine A5 I.kIn O c.sa c.po n.taker c.hd wi hz fun h' O' sb=>h _ ?_;have hd:∃o,h'.get? dx=some o:=let ⟨o,_,_,e',_⟩:=O'.ns;⟨o,e'⟩
 refine I.write (x:=a) (e:=dx) (by rw[e];exact True.intro) (.inr ho) (fun b q hb z=>(sb.2 b hb).trans z) hd ?_;refine⟨by rw[ak O.ne];exact ho,?_,O.ne,O'.obj,_,O'.ns,fun g=>?_,fun g hg=>?_⟩
 ·have:=lU f y fs;omega
 ·show RelO ((iw f y fs).lookup g) (if g=f then some u else mA g)
  rw[lY];by_cases q:g=f
  ·rw[if_pos q,if_pos q];exact ry
  ·rw[if_neg q,if_neg q];exact r g
 ·by_cases q:g=f
  ·rw[q];exact(lC f y fs).1
  ·refine(lC f y fs).2 g (wi g fun z=>hg ?_);show (if g=f then some u else mA g)=none
   rw[if_neg q];exact z
theorem Inv.made (I:Inv X pins σ H s):Inv X pins σ (a9 (a9 H s.heap.objs.size (.own (s.heap.objs.size+1))) (s.heap.objs.size+1) (.ins C s.heap.objs.size []))
  {s with heap:=(s.heap.push W.emptyDict).push (W.instObj C s.heap.objs.size)}:=by
 have e1:(s.heap.push W.emptyDict).get? s.heap.objs.size=some W.emptyDict:=Heap.get?_push_size s.heap rfl;have e2:((s.heap.push W.emptyDict).push (W.instObj C s.heap.objs.size)).get? (s.heap.objs.size+1)=some (W.instObj C s.heap.objs.size):=by
  have:=Heap.get?_push_size (s.heap.push W.emptyDict) (o:=W.instObj C s.heap.objs.size) rfl;rwa[Heap.size_push]at this
 have e3:(s.heap.push W.emptyDict).Ns s.heap.objs.size (fun _=>none):=⟨W.emptyDict,#[],_,e1,rfl,(fun e he=>absurd he (by simp)),fun _=>rfl⟩;have I1:=I.laid (a:=s.heap.objs.size) (o:=.own (s.heap.objs.size+1)) (h':=s.heap.push W.emptyDict) (t':=s.toks) (fun b u q=>Heap.get?_push_of_some _ q) (le_refl _) ⟨_,e1⟩;refine I1.laid (a:=s.heap.objs.size+1) (o:=.ins C s.heap.objs.size []) (t':=s.toks) (fun b u q=>Heap.get?_push_of_some _ q) (Nat.le_of_eq (Heap.size_push _ _)) ?_;have ne:s.heap.objs.size≠s.heap.objs.size+1:=ne_of_lt (lt_succ_self _);refine⟨by rw[ak ne,aq],zero_le _,ne,e2,fun _=>none,(Heap.Ns1.of_empty e3).at fun o q=>Heap.get?_push_of_some _ q,fun _=>True.intro,fun y hy=>absurd rfl hy⟩
theorem zu {prog:Program}{w:World}{env:Env}{e:Expr}{f:Str}{pos:Pos}{s:Shared}{Q:Value→Shared→Prop}(hb:attributeBase e f env (eval e env)=eval e env)
  (h:wpAny (model prog w) A (eval e env) (fun o s₁=>wpAny (model prog w) A (getAttr o f true) Q E s₁) E s):wpAny (model prog w) A (eval (.Attribute e f pos) env) Q E s:=
 Attribute_any_ h (by rw[arm_eval_Attribute,hb])
end
noncomputable def Fj (K:W.Frag)(ta:TE)(f:Str):TE:=fun σ H Q=>ta σ H fun x H1=>∃a C dx fs v,x= .ref a∧H1 a=some (.ins C dx fs)∧Cls K C∧NoAttr K C f∧fs.lookup f=some v∧Q v H1
noncomputable def Fe (K:W.Frag)(ta tv:TE)(f:Str):TS:=fun D σ H=>tv σ H fun y H1=>ta σ H1 fun x H2=>∃a C dx fs,x= .ref a∧H2 a=some (.ins C dx fs)∧Cls K C∧NoAttr K C f∧fs.length<1000∧
 D.nx σ (a9 H2 a (.ins C dx (iw f y fs)))
section
variable{X:Cx}{o e value:Expr}{f:Str}{pos pos' tpos:Pos}{ta tv:TE}
theorem C6 (he:PE X e ta)(hb:attributeBase e f X.env (eval e X.env)=eval e X.env):PE X (.Attribute e f pos) (Fj X.K ta f):=by
 intro pins s σ H Q I h;refine zu hb (aW (he pins s σ H _ I h) fun u s1 hZ51=>?_);obtain⟨x,H1,I1,rx,a,C,dx,fs,v,ex,ea,c,n,l,q⟩:=hZ51;subst ex;obtain rfl:u=Value.ref a:=rx;exact tT I1 ea c n l fun u' s2 I2 ru=>⟨v,H1,I2,ru,q⟩
theorem yK (ha:PE X o ta)(hv:PE X value tv)(hs:swapsWith value (some (.Attribute o f pos')) pos.line X.env=pure false):PS X (.Assign [.Attribute o f pos'] value pos) (Fe X.K ta tv f):=by
 intro pins s σ H D I h;refine plainObj_wpAny_Assign_Attribute (aW (hv pins s σ H _ I h) fun u s1 ⟨y,H1,I1,ry,q⟩=>aW (ha pins s1 σ H1 _ I1 q) fun ov s2 hZ53=>?_) hs;obtain⟨x,H2,I2,rx,a,C,dx,fs,ex,ea,c,n,l,q2⟩:=hZ53;subst ex;obtain rfl:ov=Value.ref a:=rx;exact uw I2 ea c n l ry fun s3 I3=>⟨σ,_,I3,q2⟩
end
section
variable{X:Cx}{pins:List (Addr×Obj)}{σ:St}{H:Hp}{s:Shared}{A:Around}{E:Value→Shared→Prop}{Q:Value→Shared→Prop}{c:Value}{b:Bool}
end
structure Room (k:Nat)(A:Around):Prop where
 hd:A.handled=none
 dp:A.depth+3*k+5<recursionLimit
 un:A.units+16*k+200<cLine
theorem Room.mono {j k:Nat}{A:Around}(r:Room k A)(h:j≤k):Room j A:=⟨r.hd,by have:=r.dp;omega,by have:=r.un;omega⟩
theorem Room.deeper {k:Nat}{A:Around}(r:Room (k+1) A)(env:Env):Room k (A.deeper env):=
 ⟨r.hd,by have:=r.dp;show A.depth+1+3*k+5<_;omega,by have:=r.un;show A.units+3+16*k+200<_;omega⟩
theorem t6 {A:Around}{C:Addr}{us:List Value}{kw:List (Str×Value)}:(A.under (.builtin "type.__call__" ⟨.ref C::us,kw⟩)).depth=A.depth+1:=by
 first|rfl|simp[Around.under,Code.weight,Code.isCreation,Code.isGuard,Code.isCaller,Code.frames,Code.isFrame,guardIds]
theorem t7 {A:Around}{C:Addr}{us:List Value}{kw:List (Str×Value)}:(A.under (.builtin "type.__call__" ⟨.ref C::us,kw⟩)).units=A.units+1:=by
 first|rfl|simp[Around.under,Code.cUnits,Code.frames,Code.isFrame]
theorem Room.make {k:Nat}{A:Around}(r:Room (k+1) A)(C:Addr)(us:List Value)(kw:List (Str×Value)):Room k (A.under (.builtin "type.__call__" ⟨.ref C::us,kw⟩)):=
 ⟨r.hd,by have:=r.dp;rw[t6];omega,by have:=r.un;rw[t7];omega⟩
theorem Room.depth {k:Nat}{A:Around}(r:Room k A):A.depth<recursionLimit:=by have:=r.dp;omega
theorem Room.units {k:Nat}{A:Around}(r:Room k A):A.units+64<cLine:=by have:=r.un;omega
noncomputable def Bb:TA:=fun _ H Q=>Q [] H
noncomputable def vF (ta:TE)(tr:TA):TA:=fun σ H Q=>ta σ H fun x H1=>tr σ H1 fun xs H2=>Q (x::xs) H2
section
variable{X:Cx}{e:Expr}{es:List Expr}{te:TE}{t:TA}{pos:Pos}
theorem dq:PA X [] Bb:=fun _ _ _ _ H Q I h=>Calls.spliced_nil ⟨[],H,I,.nil,h⟩
theorem bH (ha:PE X e te)(hr:PA X es t)(hs:starEach (e::es) X.env=(false,eval e X.env)::starEach es X.env:=by rfl):PA X (e::es) (vF te t):=by
 intro pos pins s σ H Q I h;rw[hs];show wpAny _ _ (spliced ((false,eval e X.env)::backTo pos (starEach es X.env))) _ _ s;refine Calls.spliced_cons (aW (ha pins s σ H _ I h) fun u s1 hZ54=>?_);obtain⟨x,H1,I1,r1,q1⟩:=hZ54;exact aW (hr pos pins s1 σ H1 _ I1 q1) fun us s2 hZ55=>(by obtain⟨xs,H2,I2,r2,q2⟩:=hZ55;exact⟨x::xs,H2,I2,.cons r1 r2,q2⟩)
noncomputable def Fq (t:TA):TE:=fun σ H Q=>t σ H fun xs H1=>xs.length≤sizeLine∧∀p,H1 p=none→Q (.ref p) (a9 H1 p (.tup xs))
noncomputable def Fk (t:TA):TE:=fun σ H Q=>t σ H fun xs H1=>xs.length≤sizeLine∧∀p,H1 p=none→Q (.ref p) (a9 H1 p (.lst xs))
theorem uj {x1}(h:PA X es t):PE X (.Tuple es x1 pos) (Fq t):=by
 intro pins s σ H Q I hq;refine wpAny_Tuple_spliced (aW (h pos pins s σ H _ I hq) fun us s1 ⟨xs,H1,I1,r,z,q⟩=>⟨by rw[←r.length];exact z,?_⟩);have hf:H1 s1.heap.objs.size=none:=I1.hok.fresh (le_refl _);refine⟨.ref s1.heap.objs.size,a9 H1 s1.heap.objs.size (.tup xs),I1.laid (t':=s1.toks) (fun b u e=>Heap.get?_push_of_some _ e) (le_refl _) ?_,rfl,q _ hf⟩;exact⟨z,us,r,⟨_,Heap.get?_push_size _ rfl,rfl,_,rfl⟩⟩
theorem ui (h:PA X es t):PE X (.List es pos) (Fk t):=by
 intro pins s σ H Q I hq;refine wpAny_List_spliced (aW (h pos pins s σ H _ I hq) fun us s1 ⟨xs,H1,I1,r,z,q⟩=>⟨by rw[←r.length];exact z,?_⟩);have hf:H1 s1.heap.objs.size=none:=I1.hok.fresh (le_refl _);refine⟨.ref s1.heap.objs.size,a9 H1 s1.heap.objs.size (.lst xs),I1.laid (t':=s1.toks) (fun b u e=>Heap.get?_push_of_some _ e) (le_refl _) ?_,rfl,q _ hf⟩;exact⟨z,us,0,r,Heap.get?_push_size _ rfl⟩
end
noncomputable abbrev Sp:=List V→Hp→VK→XK→Prop
noncomputable abbrev rj:=List Env→Hp→Shared→XK→Value→Shared→Prop
structure Env0 (P:Program)(w:World)(K:W.Frag)(mg:Str→Option Value)(base:Heap)(A:Around)(outer:List Env)(s:Shared)(H:Hp):Prop where
 frames:A.frames=some outer
 mod:Mod K mg base
 bs:∀b o,base.get? b=some o→s.heap.get? b=some o∧H b=none
 bsz:base.objs.size≤s.heap.objs.size
 funs:s.heap.FunFrames base outer
 frf:∀b∈fx outer,H b=none
 hok:HOk P w H s.heap
 bare:AllBare s.gens
inductive CE (outer:List Env)(P:Program)(w:World)(H:Hp)(s:Shared)(Q:VK)(u:Value)(s':Shared):Prop
 |mk (v:V) (H':Hp) (o:s'.os=s.os) (g:AllBare s'.gens) (n:Un (fx outer) [] H H' s.heap s'.heap) (h:HOk P w H' s'.heap) (r:RelV v u) (q:Q v H')
noncomputable def CR (CX:rj)(outer:List Env)(P:Program)(w:World)(H:Hp)(s:Shared)(Q:VK)(E:XK)(r:Result)(s':Shared):Prop:=
 match r with
 |.ok (.ret u)=>CE outer P w H s Q u s'
 |.ok _=>False
 |.error e=>CX outer H s E e s'
structure FnOk (P:Program)(w:World)(K:W.Frag)(mg:Str→Option Value)(base:Heap)(CX:rj)(k:Nat)(f:Addr)(fd:FuncData)(ps:List Str)(sp:Sp):Prop where
 len:∀vs H Q E,sp vs H Q E→vs.length=ps.length
 run:∀(A:Around) (outer:List Env) (s:Shared) (H:Hp) (args:Args) (us:List Value) (vs:List V) (Q:VK) (E:XK),Room k A→Env0 P w K mg base A outer s H→BindsTo s fd args (ps.zip us)→Vals vs us→sp vs H Q E→
  codeAny (model P w) A (.call (.ref f) args) (CR CX outer P w H s Q E) s
theorem FnOk.imp {P:Program}{w:World}{K:W.Frag}{mg:Str→Option Value}{base:Heap}{CX:rj}{k:Nat}{f:Addr}{fd:FuncData}{ps:List Str}{sp sp':Sp}(F:FnOk P w K mg base CX k f fd ps sp)
  (h:∀vs H Q E,sp' vs H Q E→sp vs H Q E):FnOk P w K mg base CX k f fd ps sp':=
 ⟨fun vs H Q E q=>F.len vs H Q E (h _ _ _ _ q),fun A outer s H args us vs Q E hr he hb hv hs=>F.run A outer s H args us vs Q E hr he hb hv (h _ _ _ _ hs)⟩
theorem Env0.make {P:Program}{w:World}{K:W.Frag}{mg:Str→Option Value}{base:Heap}{A:Around}{outer:List Env}{s:Shared}{H:Hp}(e:Env0 P w K mg base A outer s H)(C:Addr)(us:List Value)(kw:List (Str×Value)) :
  Env0 P w K mg base (A.under (.builtin "type.__call__" ⟨.ref C::us,kw⟩)) outer s H:=⟨by first|exact e.frames|(simpa [Around.under,Code.envs,Code.isFrame,pushEnvs] using e.frames),e.mod,e.bs,e.bsz,e.funs,e.frf,e.hok,e.bare⟩
section
variable{X:Cx}{pins:List (Addr×Obj)}{σ:St}{H:Hp}{s s':Shared}
theorem Inv.env0 (I:Inv X pins σ H s):Env0 X.prog X.w X.K X.mg X.base X.A X.stack s H:=
 ⟨I.ok.frames,I.ok.mod,I.bs,le_trans I.ok.bsz I.sz,I.stack,I.stkFree,I.hok,I.bare⟩
theorem Inv.after {Q:VK}{u:Value}(I:Inv X pins σ H s)(h:CE X.stack X.prog X.w H s Q u s'):EP X pins σ Q u s':=by
 obtain⟨v,H',os,bare,un,hok,r,q⟩:=h;obtain⟨hh,g,d,t,os'⟩:=s';obtain rfl:os'=s.os:=os;exact⟨v,H',I.call (h':=hh) (g':=g) (d':=d) (t':=t) (ch:=[]) un hok bare (fun b z=>absurd z (by simp)),r,q⟩
end
noncomputable def EA (sp:Sp)(dvs:List V)(E:XK)(t:TA):TE:=fun σ H Q=>t σ H fun vs H1=>sp (vs ++ dvs) H1 Q E
noncomputable def BL (C:Addr)(m:Str)(sp:Sp)(dvs:List V)(E:XK)(ta:TE)(t:TA):TE:=fun σ H Q=>ta σ H fun x H1=>∃a dx fs,x= .ref a∧H1 a=some (.ins C dx fs)∧fs.lookup m=none∧
 t σ H1 fun vs H2=>sp (x::(vs ++ dvs)) H2 Q E
noncomputable def BK (C:Addr)(sp:Sp)(dvs:List V)(E:XK)(t:TA):TE:=fun σ H Q=>t σ H fun vs H1=>∀x dx,H1 x=none→H1 dx=none→dx≠x→
 sp (.ref x::(vs ++ dvs)) (a9 (a9 H1 dx (.own x)) x (.ins C dx [])) (fun v H2=>v= .non∧Q (.ref x) H2) E
noncomputable def Binds (K:W.Frag)(fd:FuncData)(ps:List Str)(ds:List Value):Prop:=
 ∀(s:Shared) (us:List Value),K.In s.heap→(us ++ ds).length=ps.length→BindsTo s fd ⟨us,[]⟩ (ps.zip (us ++ ds))
theorem Binds.all {K:W.Frag}{fd:FuncData}{ps:List Str}(h:∀us:List Value,us.length=ps.length→bindArgs fd ⟨us,[]⟩=pure (ps.zip us)):Binds K fd ps []:=fun s us _ hl=>by
 rw[append_nil]at hl ⊢;exact .of_eq (h us hl)
noncomputable def cQ (CX:rj)(X:Cx)(E:XK):Prop:=∀(pins:List (Addr×Obj)) (σ:St) (H:Hp) (s:Shared) (e:Value) (s':Shared),Inv X pins σ H s→CX X.stack H s E e s'→X.xe e s'
section
variable{X:Cx}{CX:rj}{k:Nat}{f C:Addr}{fd:FuncData}{ps:List Str}{sp:Sp}{dvs:List V}{ds:List Value}{E:XK}{x m:Str}{p pos apos:Pos}{e o:Expr}{es:List Expr}{ta:TE}{t:TA}
theorem yV {pins:List (Addr×Obj)}{σ:St}{H:Hp}{s:Shared}{Q:VK}{us:List Value}{vs:List V}(F:FnOk X.prog X.w X.K X.mg X.base CX k f fd ps sp)(hr:Room k X.A)(hb:Binds X.K fd ps ds)(hd:Vals dvs ds)(hx:cQ CX X E)
  (I:Inv X pins σ H s) (r:Vals vs us) (h:sp (vs ++ dvs) H Q E):wpAny (model X.prog X.w) X.A (call (.ref f) us) (EP X pins σ Q) X.xe s:=by
 have r2:Vals (vs ++ dvs) (us ++ ds):=r.append hd;have hl:(us ++ ds).length=ps.length:=by rw[←r2.length];exact F.len _ _ _ _ h
 refine wpAny_call (codeAny_mono (F.run X.A X.stack s H ⟨us,[]⟩ (us ++ ds) (vs ++ dvs) Q E hr I.env0 (hb s us I.kIn hl) r2 h) fun r s' hq=>?_);cases r with
 |error e=>exact hx pins σ H s e s' I hq
 |ok fl=>
  cases fl with
  |ret u=>exact I.after hq
  |next=>exact False.elim hq
  |brk=>exact False.elim hq
  |cont=>exact False.elim hq
theorem AB (F:FnOk X.prog X.w X.K X.mg X.base CX k f fd ps sp)(hr:Room k X.A)(hg:Gl X x)(hm:X.mg x=some (.ref f))(hk:W.keepIn X.K (.ref f)=true)(hb:Binds X.K fd ps ds)(hd:Vals dvs ds)(hx:cQ CX X E)
  (ha:PA X (e::es) t) (hdb:(x==("__debug__" :Str))=false:=by decide) (he:starEach (e::es) X.env=(false,eval e X.env)::starEach es X.env:=by rfl) (hpl:(backTo pos (starEach es X.env)).any (·.1)=false:=by rfl) :
  PE X (.Call (.Name x p) (e::es) [] pos) (EA sp dvs E t):=by
 intro pins s σ H Q I h;refine wpAny_Call_Name_kw (jB I hg hm ?_ hdb);refine W.callWith_K (h₀:=X.base) I.ok.mod.kin hk (aW (ha pos pins s σ H _ I h) fun us s1 ⟨vs,H1,I1,r,q⟩=>⟨I1.kIn,?_⟩) he hpl;exact yV F hr hb hd hx I1 r q
theorem yt {pl:Sem Bool}(he:PE X o ta)(c:Cls X.K C)(hm:Meth X.K C m f)(F:FnOk X.prog X.w X.K X.mg X.base CX k f fd ps sp)(hr:Room k X.A)(hb:Binds X.K fd ps ds)(hd:Vals dvs ds)(hx:cQ CX X E)
  (ht:eval (.Call (.Attribute o m apos) [] [] pos) X.env=(do
   let ov ←eval o X.env
   standAt apos.atName
   let (f,first) ←holding [ov] (getMethod ov m pl)
   callWith pos f first (backTo pos (starEach [] X.env)) (backToKw pos (keywordEach [] X.env))):=by rfl) :
  PE X (.Call (.Attribute o m apos) [] [] pos) (BL C m sp dvs E ta Bb):=by
 intro pins s σ H Q I h;refine W.methodCall_KW (pl:=pl) (aW (he pins s σ H _ I h) fun u s1 hZ59=>?_) ht;obtain⟨x,H1,I1,rx,a,dx,fs,ex,ea,l,q⟩:=hZ59;subst ex;obtain rfl:u=Value.ref a:=rx;refine tU I1 ea c hm l ?_;exact W.callWith_K0 (first:=[.ref a]) I1.kIn hm.kp (yV (us:=[.ref a]) (vs:=[.ref a]) F hr hb hd hx I1 (.cons rfl .nil) q)
structure Mk (K:W.Frag)(C f:Addr):Prop where
 makes:W.makesIn K C=true
 init:W.findIn K (.ref C) "__init__" =some (some (.ref f))
 fn:W.isFn K (.ref f)=true
 kp:W.keepIn K (.ref C)=true
theorem yW {pins:List (Addr×Obj)}{σ:St}{H:Hp}{s:Shared}{Q:VK}{us:List Value}{vs:List V}(M:Mk X.K C f)(F:FnOk X.prog X.w X.K X.mg X.base CX k f fd ps sp)(hr:Room (k+1) X.A)(hb:Binds X.K fd ps ds)(hd:Vals dvs ds)
  (hx:cQ CX X E) (I:Inv X pins σ H s) (r:Vals vs us)
  (h:∀x dx,H x=none→H dx=none→dx≠x→sp (.ref x::(vs ++ dvs)) (a9 (a9 H dx (.own x)) x (.ins C dx [])) (fun v H2=>v= .non∧Q (.ref x) H2) E) :
  wpAny (model X.prog X.w) X.A (call (.ref C) us) (EP X pins σ Q) X.xe s:=by
 have hq:=h (s.heap.objs.size+1) s.heap.objs.size (I.hok.fresh (le_succ _)) (I.hok.fresh (le_refl _)) (ne_of_lt (lt_succ_self _));have I2:=Inv.made (C:=C) I;have r2:Vals (V.ref (s.heap.objs.size+1)::(vs ++ dvs)) (Value.ref (s.heap.objs.size+1)::(us ++ ds)):=.cons rfl (r.append hd);have hl:(Value.ref (s.heap.objs.size+1)::us ++ ds).length=ps.length:=by
  have e:=r2.length;rw[F.len _ _ _ _ hq]at e;exact e.symm
 refine wpAny_call (yc (f:=f) I.kIn M.makes M.init (beq_iff_eq.mp M.fn) (codeAny_mono (F.run _ X.stack _ _ ⟨Value.ref (s.heap.objs.size+1)::us,[]⟩ (Value.ref (s.heap.objs.size+1)::(us ++ ds)) _ _ E (hr.make C us [])
  (I2.env0.make C us []) (hb _ (Value.ref (s.heap.objs.size+1)::us) I2.kIn hl) r2 hq) fun r s' q=>?_))
 cases r with
 |error e=>exact hx pins σ _ _ e s' I2 q
 |ok fl=>
  cases fl with
  |ret u=>
   obtain⟨v,H',I3,rv,ev,q3⟩:=I2.after q;subst ev;exact⟨rv,⟨V.ref (s.heap.objs.size+1),H',I3,rfl,q3⟩⟩
  |next=>exact False.elim q
  |brk=>exact False.elim q
  |cont=>exact False.elim q
theorem AC (M:Mk X.K C f)(F:FnOk X.prog X.w X.K X.mg X.base CX k f fd ps sp)(hr:Room (k+1) X.A)(hg:Gl X x)(hm:X.mg x=some (.ref C))(hb:Binds X.K fd ps ds)(hd:Vals dvs ds)(hx:cQ CX X E)
  (ha:PA X (e::es) t) (hdb:(x==("__debug__" :Str))=false:=by decide) (he:starEach (e::es) X.env=(false,eval e X.env)::starEach es X.env:=by rfl) (hpl:(backTo pos (starEach es X.env)).any (·.1)=false:=by rfl) :
  PE X (.Call (.Name x p) (e::es) [] pos) (BK C sp dvs E t):=by
 intro pins s σ H Q I h;refine wpAny_Call_Name_kw (jB I hg hm ?_ hdb);refine W.callWith_K (h₀:=X.base) I.ok.mod.kin M.kp (aW (ha pos pins s σ H _ I h) fun us s1 ⟨vs,H1,I1,r,q⟩=>⟨I1.kIn,?_⟩) he hpl;exact yW M F hr hb hd hx I1 r q
end
section
variable{X:Cx}{CX:rj}{k:Nat}{f C:Addr}{fd:FuncData}{ps ks:List Str}{sp:Sp}{E:XK}{x m:Str}{p pos apos kpos:Pos}{e o:Expr}{es:List Expr}{kws:List Keyword}{te ta:TE}{t tk:TA}{nm:Option Str}
variable{g:List Value→List Value→List Value}{gV:List V→List V→List V}
end
structure FnScope (N P:List Str)(sc:Scope):Prop where
 kind:sc.kind= .function
 co:sc.isCoroutine=false
 gen:sc.isGenerator=false
 nd:N.Nodup
 pre:N.take P.length=P
 par:∀x∈P,sc.names.lookup x=some .local∨sc.names.lookup x=some .cell
 nofree:∀y∈sc.names,y.2≠ .free
theorem oZ {kindOf:Str→Option NameKind}{x:Str}:∀{binds:List (Str×Value)} {m:Str→Option Value},(∀v,(x,v)∉binds)→bindL kindOf binds m x=m x
 | [],_,_=>rfl
 |(n,v)::r,m,h=>by
  unfold bindL;rw[oZ fun w hw=>h w (eB hw)];split
  ·have:x≠n:=by rintro rfl;exact h v mem_cons_self
   simp[this]
  ·rfl
theorem oX {kindOf:Str→Option NameKind}{x:Str}:∀{binds:List (Str×Value)} {m:Str→Option Value},(∀v,(x,v)∉binds)→bindC kindOf binds m x=m x
 | [],_,_=>rfl
 |(n,v)::r,m,h=>by
  unfold bindC;rw[oX fun w hw=>h w (eB hw)];split
  ·rfl
  ·have:x≠n:=by rintro rfl;exact h v mem_cons_self
   simp[this]
theorem oY {kindOf:Str→Option NameKind}{x:Str}{v:Value}:∀{P:List Str} {vs:List Value} {i:Nat} {m:Str→Option Value},P.Nodup→P[i]?=some x→vs[i]?=some v→kindOf x=some .local→
  bindL kindOf (P.zip vs) m x=some v
 | [],_,_,_,_,h,_,_=>by simp at h
 |_::_,[],_,_,_,_,h,_=>by simp at h
 |p::P,w::vs,0,m,nd,h1,h2,hk=>by
  simp at h1 h2;subst h1;subst h2;show bindL kindOf ((p,w)::P.zip vs) m p=_;unfold bindL;rw[oZ fun v hv=>(nodup_cons.mp nd).1 (of_mem_zip hv).1,if_pos hk];simp
 |p::P,w::vs,i+1,m,nd,h1,h2,hk=>by
  show bindL kindOf ((p,w)::P.zip vs) m x=_;unfold bindL;exact oY (i:=i) (nodup_cons.mp nd).2 (by simpa using h1) (by simpa using h2) hk
theorem oW {kindOf:Str→Option NameKind}{x:Str}{v:Value}:∀{P:List Str} {vs:List Value} {i:Nat} {m:Str→Option Value},P.Nodup→P[i]?=some x→vs[i]?=some v→kindOf x≠some .local→
  bindC kindOf (P.zip vs) m x=some v
 | [],_,_,_,_,h,_,_=>by simp at h
 |_::_,[],_,_,_,_,h,_=>by simp at h
 |p::P,w::vs,0,m,nd,h1,h2,hk=>by
  simp at h1 h2;subst h1;subst h2;show bindC kindOf ((p,w)::P.zip vs) m p=_;unfold bindC;rw[oX fun v hv=>(nodup_cons.mp nd).1 (of_mem_zip hv).1,if_neg hk];simp
 |p::P,w::vs,i+1,m,nd,h1,h2,hk=>by
  show bindC kindOf ((p,w)::P.zip vs) m x=_;unfold bindC;exact oW (i:=i) (nodup_cons.mp nd).2 (by simpa using h1) (by simpa using h2) hk
noncomputable def fX (N:List Str)(vs:List V):St:=vs.map some ++ replicate (N.length-vs.length) none
noncomputable def oE (CX:rj)(P:Program)(w:World)(K:W.Frag)(mg:Str→Option Value)(base:Heap)(N:List Str)(qual:Str)(scope:Scope)(f:Addr)(cd:Value)(A:Around)(outer:List Env)(s:Shared)(H:Hp)(E:XK):Cx where
 prog:=P
 w:=w
 K:=K
 mg:=mg
 base:=base
 A:=A.deeper (envOfC qual scope s.heap.objs.size f cd)
 N:=N
 s₀:=s
 H₀:=H
 env:=envOfC qual scope s.heap.objs.size f cd
 outer:=outer
 stack:=envOfC qual scope s.heap.objs.size f cd::outer
 ex:=[]
 calm:=true
 fn:=fun _=>true
 pn:=[]
 xe:=fun e s'=>wpAny (model P w) (A.deeper (envOfC qual scope s.heap.objs.size f cd)) (leaving (envOfC qual scope s.heap.objs.size f cd) e) (fun _ s''=>CX outer H s E e s'') (fun e' s''=>CX outer H s E e' s'') s'
theorem rE {sc:Scope}{n:Nat}{x:Str}(h:sc.names.lookup x=some .cell):∃c,(cellsFrom n sc.names []).lookup x=some c:=by
 have q:=W.cellsFrom_some sc.names n [] (.inl h);exact Option.isSome_iff_exists.mp q
theorem wd {CX:rj}{P:Program}{w:World}{K:W.Frag}{mg:Str→Option Value}{base:Heap}{N ps:List Str}{qual:Str}{scope:Scope}{f:Addr}{cd:Value}{A:Around}{outer:List Env}{s s1:Shared}{H:Hp}{E:XK}{us:List Value}{vs:List V}
  (S:FnScope N ps scope) (hd:A.handled=none) (e0:Env0 P w K mg base A outer s H) (hl:vs.length=ps.length) (r:Vals vs us)
  (x:InCallC s s.heap.objs.size (bindL (envOfC qual scope s.heap.objs.size f cd).kindOf (ps.zip us) fun _=>none) (cellsFrom (s.heap.objs.size+1) scope.names []) (bindC (envOfC qual scope s.heap.objs.size f cd).kindOf (ps.zip us) fun _=>none) s1) :
  Inv (oE CX P w K mg base N qual scope f cd A outer s H E) [] (fX N vs) H s1:=by
 have hpl:ps.length≤N.length:=by have:=congrArg List.length S.pre;rw[length_take]at this;omega
 obtain ⟨h1,tk,rfl,hk⟩:=x.done;have noA:∀ b:Addr,b∉(oE CX P w K mg base N qual scope f cd A outer s H E).ex:=fun b z=>absurd (show b∈([]:List Addr) from z) (by simp);refine ⟨⟨e0.mod,S.kind,rfl,rfl,le_refl _,fun y z c h1 t=> ?_,fun y hy=> ?_,fun y c _ h=> ?_,fun _=>hd,Around.frames_deeper e0.frames,.inr ⟨rfl,rfl⟩,fun b z=>absurd z (noA b),e0.bs,e0.bsz,fun b _ _=>noA b,fun b z=>absurd z (noA b),e0.funs,e0.frf⟩,
  rfl,e0.bare,Un.kept hk,⟨_,x.toInCall.ns,fun i y v h1 t h3=>?_⟩,fun y c h=>⟨_,x.cell y c h⟩,e0.hok.fresh (le_refl _),fun y c h=>?_,fun p hp=>absurd (show p∈([]:List (Addr×Obj)) from hp) (by simp),e0.hok.kept hk,?_⟩
 ·exact name_of_addr x.apart (PySem.mem_of_lookup h1) (PySem.mem_of_lookup t)
 ·have hy:scope.names.lookup y=some .cell∨scope.names.lookup y=some .free:=hy
  rcases hy with hy|hy
  ·exact rE hy
  ·exact absurd rfl (S.nofree _ (PySem.mem_of_lookup hy))
 ·exact le_of_lt (x.above y c (PySem.mem_of_lookup h))
 ·have hi:i<vs.length:=by
   unfold fX at t;by_cases hi:i<vs.length
   ·exact hi
   ·rw[getElem?_append_right (by simpa using hi)]at t;rw[List.getElem?_replicate]at t;split at t <;> cases t
  have ha:vs[i]?=some v:=by
   unfold fX at t;rw[getElem?_append_left (by simpa using hi),getElem?_map]at t;cases e:vs[i]? with
   |none=>rw[e]at t;cases t
   |some a=>rw[e]at t;cases t;rfl
  obtain⟨u,hu,rv⟩:=r.get ha;have hp:ps[i]?=some y:=by
   rw[←S.pre,List.getElem?_take_of_lt (by omega)];exact h1
  have ndP:ps.Nodup:=by rw[←S.pre];exact S.nd.sublist (List.take_sublist _ _)
  refine⟨u,rv,?_⟩
  rcases S.par y (mem_of_getElem? hp) with k|k
  ·exact .inl ⟨k,oY ndP hp hu k⟩
  ·obtain⟨c,e⟩:=rE (n:=s.heap.objs.size+1) k;refine .inr ⟨.inl k,c,e,?_⟩;have q:=x.cell y c e;rw[oW ndP hp hu (by show scope.names.lookup y≠_;rw[k];decide)]at q;exact q
 ·exact e0.hok.fresh (le_of_lt (x.above y c (PySem.mem_of_lookup h)))
 ·unfold fX;show _=N.length;rw[length_append,length_map,List.length_replicate];omega
theorem xJ {CX:rj}{P:Program}{w:World}{K:W.Frag}{mg:Str→Option Value}{base:Heap}{k:Nat}{f:Addr}{name qual:Str}{params:Arguments}{body:List Stmt}{scope:Scope}{dV kV doc pm cdv ct oc:Value}{an od:Option Addr}
  {osl:Array (Option Value)} {N ps:List Str} {sp:Sp} (lk:K.lookup f=some ⟨oc,od,.func (W.fnOf name qual params body scope dV kV doc pm an cdv ct),osl⟩) (hcd:W.codeIn K cdv qual=true) (S:FnScope N ps scope)
  (len:∀vs H Q E,sp vs H Q E→vs.length=ps.length)
  (hbody:∀(A:Around) (outer:List Env) (s:Shared) (H:Hp) (vs:List V) (Q:VK) (E:XK),Room k (A.deeper (envOfC qual scope s.heap.objs.size f cdv))→sp vs H Q E→
   ∃t,DC (oE CX P w K mg base N qual scope f cdv A outer s H E) body t∧t {nx:=fun _ H'=>Q .non H',rt:=Q} (fX N vs) H) :
  FnOk P w K mg base CX (k+1) f (W.fnOf name qual params body scope dV kV doc pm an cdv ct) ps sp:=by
 refine⟨len,fun A outer s H args us vs Q E hr e0 hb r hsp=>?_⟩;have hl:=len _ _ _ _ hsp;have KX:K.In s.heap:=e0.mod.kin.keeps fun b o e=>(e0.bs b o e).1;have lim:s.heap.NoLimit:=e0.mod.nolimit.keeps fun b o e=>(e0.bs b o e).1;have hkind:∀y∈ps.zip us,scope.names.lookup y.1=some .local∨(scope.names.lookup y.1=some .cell∧((cellsFrom (s.heap.objs.size+1) scope.names []).lookup y.1).isSome=true):=fun ⟨n,v⟩ hy=>by
  rcases S.par n (of_mem_zip hy).1 with q|q
  ·exact .inl q
  ·exact .inr ⟨q,W.cellsFrom_some _ _ _ (.inl q)⟩
 refine codeAny_call_function hr.depth (KX _ _ lk) rfl S.co S.gen rfl (W.codeRec_of KX hcd) (hb _ _ _ _ ?_);refine wpAny_newFunctionEnv_cells S.kind hkind fun env he s1 x=>?_;subst he;refine⟨lim.keeps x.toInCall.keep,codeAny_func ?_⟩;obtain⟨t,ht,hq⟩:=hbody A outer s H vs Q E (hr.deeper _) hsp;have I:Inv (oE CX P w K mg base N qual scope f cdv A outer s H E) [] (fX N vs) H s1:=wd S hr.hd e0 hl r x;refine wpAny_mono (ht [] s1 (fX N vs) H _ I hq) (fun fl s' hs=>?_) fun e s' hs=>hs;have fin:∀{z:St} {H':Hp} {v:V} {u:Value},Inv (oE CX P w K mg base N qual scope f cdv A outer s H E) [] z H' s'→RelV v u→Q v H'→CE outer P w H s Q u s':=
  fun {z H' v u} J rv q=>⟨v,H',J.os,J.bare,J.base,J.hok,rv,q⟩
 cases fl with
 |ret u=>
  obtain⟨v,z,H',J,rv,q⟩:=hs;exact fin J rv q
 |next=>
  obtain⟨z,H',J,q⟩:=hs;exact fin (v:=V.non) (u:=Value.none) J rfl q
 |brk=>
  obtain⟨_,_,_,q⟩:=hs;exact False.elim q
 |cont=>
  obtain⟨_,_,_,q⟩:=hs;exact False.elim q
section
variable{X:Cx}{x:Str}{p pos:Pos}{e:Expr}{es:List Expr}{t:TA}{id T:String}{r:List V→Hp→VK→Prop}
noncomputable def Fg (r:List V→Hp→VK→Prop)(t:TA):TE:=fun σ H Q=>t σ H fun vs H1=>r vs H1 Q
theorem nV (hc:d7 X (.builtin id) r)(hg:Gl X x)(hm:X.mg x=none)(hv:bootBuiltins x=some (.builtin id))(ha:PA X (e::es) t)(hn:x≠ "__name__" :=by decide)(hdb:(x==("__debug__" :Str))=false:=by decide)
  (he:starEach (e::es) X.env=(false,eval e X.env)::starEach es X.env:=by rfl) (hpl:(backTo pos (starEach es X.env)).any (·.1)=false:=by rfl):PE X (.Call (.Name x p) (e::es) [] pos) (Fg r t):=by
 intro pins s σ H Q I h;refine wpAny_Call_Name_kw (i_ I hg hm hv ?_ hn hdb);exact PyProof.Rows.callWith_builtin1 (aW (ha pos pins s σ H _ I h) fun us s1 hZ61=>(by obtain⟨vs,H1,I1,r1,q1⟩:=hZ61;exact hc pins s1 σ H1 vs us Q I1 r1 q1)) he hpl
theorem cW (hc:d7 X (.type T) r)(hg:Gl X x)(hm:X.mg x=none)(hv:bootBuiltins x=some (.type T))(ha:PA X (e::es) t)(hn:x≠ "__name__" :=by decide)(hdb:(x==("__debug__" :Str))=false:=by decide)
  (he:starEach (e::es) X.env=(false,eval e X.env)::starEach es X.env:=by rfl) (hpl:(backTo pos (starEach es X.env)).any (·.1)=false:=by rfl):PE X (.Call (.Name x p) (e::es) [] pos) (Fg r t):=by
 intro pins s σ H Q I h;refine wpAny_Call_Name_kw (i_ I hg hm hv ?_ hn hdb);exact PyProof.Rows.callWith_type1 (aW (ha pos pins s σ H _ I h) fun us s1 hZ62=>(by obtain⟨vs,H1,I1,r1,q1⟩:=hZ62;exact hc pins s1 σ H1 vs us Q I1 r1 q1)) he hpl
end
end L2
namespace HT
open PySem PyProof.Rows
noncomputable def iK:List Int→List Int→Bool
 | [],[]=>false
 | [],_::_=>true
 |_::_,[]=>false
 |x::xs,y::ys=>if x=y then iK xs ys else decide (x<y)
theorem tY (x y:Int)(xs ys:List Int):iK (x::xs) (y::ys)=if x=y then iK xs ys else decide (x<y):=rfl
theorem oJ:iK [] []=false:=rfl
theorem nI (y:Int)(ys:List Int):iK [] (y::ys)=true:=rfl
theorem nH (x:Int)(xs:List Int):iK (x::xs) []=false:=rfl
section
open PySem.SeqAt
open PySem.AutoSeq1 (wpAny_loadPart')
open PySem.MeetsSeq PySem.MeetsSeq2 PySem.MeetsSeq3
end
section
variable{prog:Program}{w:World}{A:Around}{E:Value→Shared→Prop}{s:Shared}
noncomputable def cF (n d:Nat):Option Int→Nat
 |none=>d
 |some v=>if v<0 then (v+(n:Int)).toNat else min v.toNat n
theorem AZ (n d k:Nat):cF n d (some (k:Int))=min k n:=by
 show (if (k:Int)<0 then ((k:Int)+(n:Int)).toNat else min (k:Int).toNat n)=min k n
 rw[if_neg (by omega),toNat_natCast]
theorem Dk (n d:Nat)(hd:d≤n)(o:Option Int):cF n d o≤n:=by
 cases o with
 |none=>exact hd
 |some v=>
  show (if v<0 then (v+(n:Int)).toNat else min v.toNat n)≤n
  by_cases hv:v<0
  ·rw[if_pos hv];omega
  ·rw[if_neg hv];exact Nat.min_le_right _ _
theorem mm (v:Int)(n d:Nat):(if v<0 then max (v+(n:Int)) 0 else min v (n:Int))=((cF n d (some v):Nat):Int):=by
 show (if v<0 then max (v+(n:Int)) 0 else min v (n:Int))=(((if v<0 then (v+(n:Int)).toNat else min v.toNat n):Nat):Int)
 by_cases hv:v<0
 ·simp only[if_pos hv];omega
 ·simp only[if_neg hv];omega
theorem tB (lo hi:Option Int)(n:Nat):Builtin.Slice.sliceAdjust lo hi 1 (n:Int)=(((cF n 0 lo:Nat):Int),((cF n n hi:Nat):Int)):=by
 have h1:¬((1:Int)<0):=by omega
 unfold Builtin.Slice.sliceAdjust;simp only[h1,if_false];refine Prod.ext ?_ ?_
 ·cases lo with
  |none=>rfl
  |some v=>exact mm v n 0
 ·cases hi with
  |none=>rfl
  |some v=>exact mm v n n
theorem uo (i j:Nat):Builtin.Slice.slicePlaces (i:Int) (j:Int) 1=j-i:=by
 unfold Builtin.Slice.slicePlaces;have h1:(1:Int)>0:=by omega
 simp only[h1,if_true,Int.ediv_one];split <;> omega
theorem og {v:Value}{o:Option Int}{Q:Option Int→Shared→Prop}(p:IsPart v o)(h:Q o s):wpAny (model prog w) A (Builtin.Slice.slicePartIndex v) Q E s:=by
 cases p with
 |none=>exact slicePart_none h
 |int i t=>exact slicePart_int h
theorem lL {sl:Addr}{vl vu:Value}{lo hi:Option Int}{n:Nat}{Q:Int×Int×Nat→Shared→Prop}(hs:s.heap.IsSliceOf sl vl vu .none)(pl:IsPart vl lo)(pu:IsPart vu hi)
  (h:Q (((cF n 0 lo:Nat):Int),1,cF n n hi-cF n 0 lo) s):wpAny (model prog w) A (Builtin.Slice.sliceApplied (.ref sl) (pure (n:Int))) Q E s:=by
 obtain⟨os,hos,hcs,hds⟩:=id hs;unfold Builtin.Slice.sliceApplied Builtin.Slice.sliceFields;refine wpAny_bind (wpAny_bind (wpAny_field hos hds (x:=vl) rfl (wpAny_bind (wpAny_field hos hds (x:=vu) rfl (wpAny_bind (wpAny_field hos hds (x:=.none) rfl (wpAny_pure ?_)))))));refine wpAny_bind (slicePart_none ?_);show wpAny _ _ (if ((1:Int)==0)=true then _ else _) _ _ s
 rw[if_neg (by decide)];refine wpAny_bind (og pl (wpAny_bind (og pu (wpAny_bind (wpAny_pure ?_)))));show wpAny _ _ (match Builtin.Slice.sliceAdjust lo hi 1 (n:Int) with|(lo,hi)=>pure (lo,(1:Int),Builtin.Slice.slicePlaces lo hi 1)) _ _ s
 rw[tB lo hi n];show wpAny _ _ (pure (((cF n 0 lo:Nat):Int),(1:Int),Builtin.Slice.slicePlaces ((cF n 0 lo:Nat):Int) ((cF n n hi:Nat):Int) 1)) _ _ s;rw[uo];exact wpAny_pure h
theorem yy (xs:Array Value)(i k:Nat):((List.range k).filterMap fun (m:Nat)=>xs[((i:Int)+(m:Int)*1).toNat]?).toArray=((xs.toList.drop i).take k).toArray:=by
 have e:(fun (m:Nat)=>xs[((i:Int)+(m:Int)*1).toNat]?)=fun m=>xs[i+m]?:=by
  funext m;have:((i:Int)+(m:Int)*1).toNat=i+m:=by omega
  rw[this]
 rw[e];have:=pick_run xs i k;rw[filterMap_map]at this;have e2:((fun x=>xs[x]?) ∘ fun x=>i+x)=fun m=>xs[i+m]?:=rfl;rw[e2]at this;rw[this]
theorem kC {t sl:Addr}{items:Array Value}{vl vu:Value}{lo hi:Option Int}{Q:Value→Shared→Prop}(ht:IsTup s.heap t items)(hs:s.heap.IsSliceOf sl vl vu .none)(pl:IsPart vl lo)(pu:IsPart vu hi)
  (hw:¬(cF items.size 0 lo=0∧cF items.size items.size hi=items.size))
  (h:Q (.ref s.heap.objs.size) {s with heap:=s.heap.push {cls:=.type "tuple",data:=.seq ((items.toList.drop (cF items.size 0 lo)).take (cF items.size items.size hi-cF items.size 0 lo)).toArray}})
  (hsz:items.size≤sizeLine):wpAny (model prog w) A (getItem (.ref t) (.ref sl)) Q E s:=by
 have u:sizeOk (.seq ((items.toList.drop (cF items.size 0 lo)).take (cF items.size items.size hi-cF items.size 0 lo)).toArray):=by
  show ((items.toList.drop (cF items.size 0 lo)).take (cF items.size items.size hi-cF items.size 0 lo)).toArray.size≤sizeLine;rw[size_toArray,length_take,List.length_drop,length_toList];omega
 have hj:cF items.size items.size hi≤items.size:=Dk _ _ (le_refl _) hi;obtain⟨os,hos,hcs,hds⟩:=id hs;have hTs:s.TypeIs (.ref sl) "slice" :=⟨os,hos,hcs⟩;unfold getItem
 try with_reducible refine wpAny_holding ?_
 first|refine wpAny_bind (wpAny_pure ?_)|skip
 refine wpAny_bind (wpAny_sequenceKey ht.typeIs (by decide) ?_);refine wpAny_bind (wpAny_callSpecial?_slot (name:=Str.ofString "__getitem__") ht.typeIs PyProof.Rows.slot_tuple_getitem
  (wpAny_call_entry PyProof.Rows.slot_tuple_getitem ht.typeIs entry_tuple_getitem ?_ (args_tuple_getitem _ _)))
 show wpAny _ _ (Builtin.Tuple.tupleItemsOf (.ref t) >>= _) _ _ s;refine wpAny_bind (tupleItemsOf_ ht ?_);refine wpAny_bind (wpAny_typeOf hTs ?_);rw[if_pos (by decide)];refine wpAny_bind (lL hs pl pu ?_);have hno:¬((((cF items.size 0 lo:Nat):Int)==0&&(1:Int)==1&&(cF items.size items.size hi-cF items.size 0 lo)==items.size)=true):=by
  intro q;rw[and_eq_true,and_eq_true]at q;have q1:((cF items.size 0 lo:Nat):Int)=0:=eq_of_beq q.1.1;have q2:cF items.size items.size hi-cF items.size 0 lo=items.size:=eq_of_beq q.2;exact hw ⟨by omega,by omega⟩
 show wpAny _ _ (if (((cF items.size 0 lo:Nat):Int)==0&&(1:Int)==1&&(cF items.size items.size hi-cF items.size 0 lo)==items.size)=true then _ else _) _ _ s
 rw[if_neg hno,yy]
 first
  |exact wpAny_bind (m:=Builtin.Tuple.tupleExact _) (wpAny_newObj_type (wpAny_pure ⟨_,rfl,wpAny_pure h⟩) u)
  |exact wpAny_bind (m:=Builtin.Tuple.tupleExact _) (wpAny_newObj_type (wpAny_bind (wpAny_pure (wpAny_pure ⟨_,rfl,wpAny_pure h⟩))) u)
  |exact wpAny_bind (wpAny_bind (m:=Builtin.Tuple.tupleExact _) (wpAny_newObj_type (wpAny_pure (wpAny_pure ⟨_,rfl,wpAny_pure h⟩)) u))
  |exact wpAny_bind (wpAny_bind (m:=Builtin.Tuple.tupleExact _) (wpAny_newObj_type (wpAny_pure ⟨_,rfl,wpAny_pure h⟩) u))
end
end HT
namespace L2
open PySem PySem.Spec PyProof.Rows
noncomputable abbrev TO:=St→Hp→(Option Int→Hp→Prop)→Prop
noncomputable def PO (X:Cx)(e:Option Expr)(t:TO):Prop:=
 ∀(pins:List (Addr×Obj)) (s:Shared) (σ:St) (H:Hp) (Q:Option Int→Hp→Prop),Inv X pins σ H s→t σ H Q→
  wpAny (model X.prog X.w) X.A (evalPart e X.env) (fun u s'=>∃o H',Inv X pins σ H' s'∧IsPart u o∧Q o H') X.xe s
noncomputable def Bc:TO:=fun _ H Q=>Q none H
noncomputable def EC (t:TE):TO:=fun σ H Q=>t σ H fun x H1=>∃i,x= .int i∧Q (some i) H1
theorem jY {ns:List Int}:∀{us:List Value},Vals (ns.map V.int) us→IntsAre us ns:=by
 induction ns with
 |nil=>intro us r;rw[map_nil]at r;cases r;exact .nil
 |cons n ns ih=>
  intro us r;rw[map_cons]at r;cases r with
  |cons r1 r2=>
   obtain⟨t,e⟩:=r1;subst e;exact .cons n t (ih r2)
section
variable{X:Cx}{e:Expr}{te:TE}{lo hi:Option Expr}{tl th:TO}{pos p2:Pos}
theorem AR:PO X none Bc:=by
 intro pins s σ H Q I h;rw[evalPart_none];exact wpAny_pure ⟨none,H,I,.none,h⟩
theorem AS (h:PE X e te):PO X (some e) (EC te):=by
 intro pins s σ H Q I hw;rw[evalPart_some];refine aW (h pins s σ H _ I hw) fun u s1 hZ63=>?_;obtain⟨x,H1,I1,r1,q1⟩:=hZ63;obtain⟨i,rfl,q⟩:=q1;obtain⟨t,rfl⟩:=r1;exact⟨some i,H1,I1,.int i t,q⟩
noncomputable def SlR (X:Cx)(r:V→Option Int→Option Int→Hp→VK→Prop):Prop:=
 ∀(pins:List (Addr×Obj)) (s:Shared) (σ:St) (H:Hp) (x:V) (v vl vu:Value) (lo hi:Option Int) (sl:Addr) (Q:VK),Inv X pins σ H s→RelV x v→s.heap.IsSliceOf sl vl vu .none→IsPart vl lo→IsPart vu hi→r x lo hi H Q→
  ∃T id,typeLookup (.type T) "__getitem__" =pure (some (.builtin id))∧s.TypeIs v T∧wpAny (model X.prog X.w) X.A (getItem v (.ref sl)) (EP X pins σ Q) X.xe s
theorem SlR.or {r r':V→Option Int→Option Int→Hp→VK→Prop}(h:SlR X r)(h':SlR X r'):SlR X (fun x lo hi H Q=>r x lo hi H Q∨r' x lo hi H Q):=by
 intro pins s σ H x v vl vu lo hi sl Q I rx hs pl pu q
 rcases q with q|q
 ·exact h pins s σ H x v vl vu lo hi sl Q I rx hs pl pu q
 ·exact h' pins s σ H x v vl vu lo hi sl Q I rx hs pl pu q
noncomputable def FF (r:V→Option Int→Option Int→Hp→VK→Prop)(te:TE)(tl th:TO):TE:=fun σ H Q=>te σ H fun x H1=>tl σ H1 fun l H2=>th σ H2 fun u H3=>r x l u H3 Q
theorem sB {r:V→Option Int→Option Int→Hp→VK→Prop}(hr:SlR X r)(he:PE X e te)(hl:PO X lo tl)(hu:PO X hi th):PE X (.Subscript e (.Slice lo hi none p2) pos) (FF r te tl th):=by
 intro y s σ H Q I h;refine Subscript_ (aW (he y s σ H _ I h) fun v s1 hZ64=>?_);obtain⟨x,H1,I1,r1,q1⟩:=hZ64;refine wpAny_Slice (aW (hl y s1 σ H1 _ I1 q1) fun vl s2 ⟨l,H2,I2,pl,q2⟩=>aW (hu y s2 σ H2 _ I2 q2) fun vu z hZ66=>?_);obtain⟨u,H3,I3,pu,q3⟩:=hZ66;rw[evalPart_none];refine wpAny_pure ?_;have I4:Inv X y σ H3 {z with heap:=z.heap.push {cls:=.type "slice",data:=.fields #[vl,vu,.none]}}:=I3.kept (t':=z.toks) fun b ob q=>Heap.get?_push_of_some _ q
 obtain⟨T,id,hT,ht,hg⟩:=hr y {z with heap:=z.heap.push {cls:=.type "slice",data:=.fields #[vl,vu,.none]}} σ H3 x v vl vu l u z.heap.objs.size Q I4 r1 (Heap.IsSliceOf.new ..) pl pu q3
 show wpAny (model X.prog X.w) X.A (subscriptTail e (.Slice lo hi none p2) v (.ref z.heap.objs.size)) (EP X y σ Q) X.xe {z with heap:=z.heap.push {cls:=.type "slice",data:=.fields #[vl,vu,.none]}}
 exact tail_any (ops:=[.ref z.heap.objs.size,v]) ht hT hg (by with_unfolding_all rfl)
noncomputable def rG (xs:List V)(lo hi:Option Int):List V:=(xs.drop (HT.cF xs.length 0 lo)).take (HT.cF xs.length xs.length hi-HT.cF xs.length 0 lo)
theorem lP (xs:List V)(lo hi:Option Int):(rG xs lo hi).length≤xs.length:=by
 unfold rG;rw[length_take,List.length_drop];omega
noncomputable def Fd (K:W.Frag):V→Option Int→Option Int→Hp→VK→Prop:=fun x lo hi H Q=>∃a xs,x= .ref a∧mj K H a xs∧
 ¬(HT.cF xs.length 0 lo=0∧HT.cF xs.length xs.length hi=xs.length)∧∀p,H p=none→Q (.ref p) (a9 H p (.tup (rG xs lo hi)))
theorem y6:SlR X (Fd X.K):=by
 intro pins s σ H x v vl vu lo hi sl Q I rx hs pl pu h;obtain⟨a,xs,rfl,hx,hw,q⟩:=h;cases rx;obtain⟨its,r,ht,hz⟩:=I.tuple hx;have w:its.toArray.size=xs.length:=by rw[size_toArray];exact r.length.symm
 refine⟨"tuple",_,PyProof.Rows.slot_tuple_getitem.lookup,ht.typeIs,?_⟩;refine HT.kC ht hs pl pu (by rw[w];exact hw) ?_ (by rw[w];exact hz);rw[w];refine⟨.ref s.heap.objs.size,_,I.laid (t':=s.toks) (o:=.tup (rG xs lo hi)) (fun b ob q=>Heap.get?_push_of_some _ q) (le_refl _) ?_,rfl,q _ (I.hok.fresh (le_refl _))⟩;exact⟨le_trans (lP xs lo hi) hz,_,(r.drop (HT.cF xs.length 0 lo)).take (HT.cF xs.length xs.length hi-HT.cF xs.length 0 lo),IsTup.new _ _⟩
end
noncomputable def qy (n:Nat)(i:Int):Option Nat:=if 0≤i then (if i<n then some i.toNat else none) else if -(n:Int)≤i then some (i+n).toNat else none
noncomputable def atI {α:Type}(xs:List α)(i:Int):Option α:=(qy xs.length i).bind fun j=>xs[j]?
theorem kE {n:Nat}{i:Int}{j:Nat}(h:qy n i=some j):seqIndex? i n=some j∧j<n∧ -(n:Int)≤i∧i<n:=by
 unfold qy at h;by_cases h0:0≤i
 ·rw[if_pos h0]at h;by_cases x:i<n
  ·rw[if_pos x]at h;have e:i.toNat=j:=Option.some.inj h;exact⟨by rw[seqIndex_of h0 x,e],by omega,by omega,x⟩
  ·rw[if_neg x]at h;cases h
 ·rw[if_neg h0]at h;by_cases x: -(n:Int)≤i
  ·rw[if_pos x]at h;have e:(i+n).toNat=j:=Option.some.inj h;exact⟨by rw[seqIndex_neg (by omega) x,e],by omega,x,by omega⟩
  ·rw[if_neg x]at h;cases h
theorem p_ {α:Type}{xs:List α}{i:Int}{v:α}(h:atI xs i=some v):∃j,seqIndex? i xs.length=some j∧xs[j]?=some v∧j<xs.length∧ -(xs.length:Int)≤i∧i<xs.length:=by
 unfold atI at h;cases e:qy xs.length i with
 |none=>rw[e]at h;cases h
 |some j=>
  rw[e]at h;obtain⟨h1,h2,h3,h4⟩:=kE e;exact⟨j,h1,h,h2,h3,h4⟩
theorem uL {α:Type}{xs:List α}{j:Nat}{v:α}(h:xs[j]?=some v):atI xs (j:Int)=some v:=by
 have hj:j<xs.length:=(gz h).1;have e:qy xs.length (j:Int)=some j:=by
  unfold qy;rw[if_pos (by omega),if_pos (by omega)];simp
 unfold atI;rw[e];exact h
theorem xl {α:Type}(xs:List α)(v:α):atI (xs ++ [v]) (-1)=some v:=by
 have hl:(xs ++ [v]).length=xs.length+1:=by simp
 have e:qy (xs ++ [v]).length (-1)=some xs.length:=by
  unfold qy;rw[hl,if_neg (by decide),if_pos (by omega)];congr 1;omega
 unfold atI;rw[e];show (xs ++ [v])[xs.length]?=some v;simp
noncomputable def pY (b:Expr):Prop:=∀o i,subscripted b false o i=operate [o,i] (getItem o i)
noncomputable def IxR (X:Cx)(r:R2):Prop:=
 ∀(value slice:Expr) (pins:List (Addr×Obj)) (s:Shared) (σ:St) (H:Hp) (x y:V) (v u:Value) (Q:VK),Inv X pins σ H s→RelV x v→RelV y u→r x y H Q→
  subscripted slice false v u=operate [v,u] (getItem v u)→wpAny (model X.prog X.w) X.A (subscriptTail value slice v u) (EP X pins σ Q) X.xe s
noncomputable def zj (X:Cx)(id:String)(r:V→List V→Hp→VK→Prop):Prop:=
 ∀(pins:List (Addr×Obj)) (s:Shared) (σ:St) (H:Hp) (x:V) (xs:List V) (v:Value) (us:List Value) (Q:VK),Inv X pins σ H s→RelV x v→Vals xs us→r x xs H Q→
  wpAny (model X.prog X.w) X.A (call (.builtin id) (v::us)) (EP X pins σ Q) X.xe s
section
variable{X:Cx}{a b:Expr}{ta tb:TE}{pos:Pos}
theorem IxR.or {r r':R2}(h:IxR X r)(h':IxR X r'):IxR X (fun x y H Q=>r x y H Q∨r' x y H Q):=by
 intro z A pins s σ H x y v u Q I rx ry q hs
 rcases q with q|q
 ·exact h z A pins s σ H x y v u Q I rx ry q hs
 ·exact h' z A pins s σ H x y v u Q I rx ry q hs
theorem BF {r:R2}(hr:IxR X r)(ha:PE X a ta)(hb:PE X b tb)(hs:pY b):PE X (.Subscript a b pos) (Fl r ta tb):=by
 intro pins s σ H Q I h;exact Subscript_ (DG ha hb I h fun v u s2 x y H2 I2 rx ry q=>hr a b pins s2 σ H2 x y v u Q I2 rx ry q (hs _ _))
noncomputable def Eu (K:W.Frag):R2:=fun x y H Q=>∃p xs i v,x= .ref p∧y= .int i∧gB K H p xs∧atI xs i=some v∧Q v H
noncomputable def Ew (K:W.Frag):R2:=fun x y H Q=>∃p xs i v,x= .ref p∧y= .int i∧mj K H p xs∧atI xs i=some v∧Q v H
noncomputable def Ev:R2:=fun x y H Q=>∃z i c,x= .str z∧y= .int i∧z.length≤sizeLine∧atI z.cps.toList i=some c∧Q (.str ⟨#[c]⟩) H
theorem ix_list:IxR X (Eu X.K):=by
 intro value slice pins s σ H x y v u Q I rx ry h hs;obtain⟨p,xs,i,z,rfl,rfl,hq,he,q⟩:=h;cases rx;obtain⟨t,rfl⟩:=ry;obtain⟨its,r,pl,hz⟩:=I.list hq;obtain⟨j,h1,h2,h3,h4,h5⟩:=p_ he;obtain⟨w,ew,rw'⟩:=r.get h2;have hl:=r.length;have hn:=qF;have fin:EP X pins σ Q w s:=⟨z,H,I,rw',q⟩;by_cases h0:0≤i
 ·have hj:i.toNat=j:=by
   rw[seqIndex_of h0 h5]at h1;exact Option.some.inj h1
  exact item_listR pl.isList h0 (by omega) (by rw[hj];simpa using ew) fin hs
 ·have hj:(i+(its.toArray.size:Int)).toNat=j:=by
   rw[seqIndex_neg (by omega) h4]at h1;rw[size_toArray,←hl];exact Option.some.inj h1
  exact subscriptTail_builtinR (x:=w) pl.isList.typeIs slot_list_getitem.lookup
   (wpAny_getItem_list_neg (Q:=fun r s'=>r=w∧EP X pins σ Q r s') pl.isList (by omega) (by rw[size_toArray] <;> omega) (by omega) (by rw[hj];simpa using ew) ⟨rfl,fin⟩) hs
theorem ix_tup:IxR X (Ew X.K):=by
 intro value slice pins s σ H x y v u Q I rx ry h hs;obtain⟨p,xs,i,z,rfl,rfl,hq,he,q⟩:=h;cases rx;obtain⟨t,rfl⟩:=ry;obtain⟨its,r,pl,hz⟩:=I.tuple hq;obtain⟨j,h1,h2,h3,h4,h5⟩:=p_ he;obtain⟨w,ew,rw'⟩:=r.get h2;have hl:=r.length;have hn:=qF;have fin:EP X pins σ Q w s:=⟨z,H,I,rw',q⟩;exact subscriptTail_builtinR (x:=w) pl.typeIs slot_tuple_getitem.lookup
  (getItem_tuple (j:=j) (Q:=fun r s'=>r=w∧EP X pins σ Q r s') pl (by omega) (by omega) (by rw[size_toArray,←hl];exact h1) (by simpa using ew) ⟨rfl,fin⟩) hs
theorem CC:IxR X Ev:=by
 intro value slice pins s σ H x y v u Q I rx ry h hs;obtain⟨z,i,c,rfl,rfl,hz,he,q⟩:=h;obtain⟨t,rfl⟩:=rx;obtain⟨t',rfl⟩:=ry;obtain⟨j,h1,h2,h3,h4,h5⟩:=p_ he;have hl:z.cps.toList.length=z.length:=by simp[Str.length]
 rw[hl]at h1 h4 h5;have hn:=qF;exact tail_any (typeIs_str s z t) slot_str_getitem.lookup (getItem_str (c:=c) (by
  have e1:decide (i < -(2 ^ 63:Int))=false:=decide_eq_false (by omega);have e2:decide (i ≥ 2 ^ 63)=false:=decide_eq_false (by omega);rw[e1,e2,Bool.or_false]) (by rw[h1];simpa using h2) ⟨.str ⟨#[c]⟩,H,I.tok _,⟨_,rfl⟩,q⟩) hs
noncomputable def FD (K:W.Frag):R2:=fun x y H Q=>Eu K x y H Q∨Ew K x y H Q∨Ev x y H Q
theorem CB:IxR X (FD X.K):=ix_list.or (ix_tup.or CC)
theorem Bl (i n:Int)(hn:0≤n):max 0 (min (if i<0 then i+n else i) n)=if i<0 then max (i+n) 0 else min i n:=by
 by_cases h:i<0
 ·rw[if_pos h,if_pos h,Int.min_eq_left (by omega),Int.max_comm]
 ·rw[if_neg h,if_neg h,Int.max_eq_right (Int.le_min.mpr ⟨Int.not_lt.mp h,hn⟩)]
theorem qW (lo hi:Option Int)(n:Nat):(sliceBounds lo hi none n).1=((HT.cF n 0 lo:Nat):Int)∧(sliceBounds lo hi none n).2.1=((HT.cF n n hi:Nat):Int)∧(sliceBounds lo hi none n).2.2=1:=by
 refine⟨?_,?_,rfl⟩
 ·cases lo with
  |none=>simp[sliceBounds,HT.cF]
  |some i=>
   rw[←HT.mm i n 0,←Bl i n (Int.natCast_nonneg n)];simp only[sliceBounds,getD_none,show (1:Int)>0 by decide,if_true]
 ·cases hi with
  |none=>simp[sliceBounds,HT.cF]
  |some i=>
   rw[←HT.mm i n n,←Bl i n (Int.natCast_nonneg n)];simp only[sliceBounds,getD_none,show (1:Int)>0 by decide,if_true]
theorem oT (its:List Value)(lo hi:Option Int):slicePick its.toArray lo hi none=((its.drop (HT.cF its.length 0 lo)).take (HT.cF its.length its.length hi-HT.cF its.length 0 lo)).toArray:=by
 obtain⟨h1,h2,h3⟩:=qW lo hi its.toArray.size;unfold slicePick;rw[h1,h2,h3];simp only[sliceRange_one,pick_run,size_toArray] <;> rfl
noncomputable def Fc (K:W.Frag):V→Option Int→Option Int→Hp→VK→Prop:=fun x lo hi H Q=>∃a xs,x= .ref a∧gB K H a xs∧∀p,H p=none→Q (.ref p) (a9 H p (.lst (rG xs lo hi)))
theorem sl_list:SlR X (Fc X.K):=by
 intro pins s σ H x v vl vu lo hi sl Q I rx hs pl pu h;obtain⟨a,xs,rfl,hx,q⟩:=h;cases rx;obtain⟨its,r,ht,hz⟩:=I.list hx;have hlen:=r.length;refine⟨"list",_,slot_list_getitem.lookup,ht.isList.typeIs,?_⟩;refine wpAny_getItem_list_slice ht.isList hs pl pu .none (by simp) ?_ (by rw[size_toArray] <;> omega);rw[oT,←hlen];refine⟨.ref s.heap.objs.size,_,I.laid (t':=s.toks) (o:=.lst (rG xs lo hi)) (fun b ob q=>Heap.get?_push_of_some _ q) (le_refl _) ?_,rfl,q _ (I.hok.fresh (le_refl _))⟩;exact⟨le_trans (lP xs lo hi) hz,_,0,(r.drop (HT.cF xs.length 0 lo)).take (HT.cF xs.length xs.length hi-HT.cF xs.length 0 lo),Heap.get?_push_size _ rfl⟩
theorem qd:d7 X (.builtin "len") (fun xs H Q=>∃p ys,xs=[.ref p]∧(gB X.K H p ys∨mj X.K H p ys)∧Q (.int ys.length) H):=by
 intro pins s σ H xs us Q I r h;obtain⟨p,ys,rfl,hq,q⟩:=h;obtain⟨u,rfl,rx⟩:=jm r;cases rx;have hn:=qF
 rcases hq with hq|hq
 ·obtain⟨its,r',pl,hz⟩:=I.list hq;have w:=r'.length;exact Calls.call_len_list pl.isList (by simp only[size_toArray] <;> omega) ⟨.int ys.length,H,I.tok _,⟨s.toks+1,by rw[size_toArray,w]⟩,q⟩
 ·obtain⟨its,r',pl,hz⟩:=I.tuple hq;have w:=r'.length;exact len_tuple pl (by simp only[size_toArray] <;> omega) ⟨.int ys.length,H,I.tok _,⟨s.toks+1,by rw[size_toArray,w]⟩,q⟩
theorem ia:d7 X (.type "list") (fun xs H Q=>∃p ys,xs=[.ref p]∧(gB X.K H p ys∨mj X.K H p ys)∧∀l,H l=none→Q (.ref l) (a9 H l (.lst ys))):=by
 intro pins s σ H xs us Q I r h;obtain⟨p,ys,rfl,hq,q⟩:=h;obtain⟨u,rfl,rx⟩:=jm r;cases rx;have fin:∀(A:List Value),Vals ys A→ys.length≤sizeLine→∀(B:Heap) (c':Nat),(∀b o',s.heap.get? b=some o'→B.get? b=some o')→
   B.get? s.heap.objs.size=some {cls:=.type "list",dict:=none,data:=.seq A.toArray c',slots:= #[]}→EP X pins σ Q (.ref s.heap.objs.size) {s with heap:=B}:=fun A r' hz B c' kp e=>
  ⟨.ref s.heap.objs.size,_,I.laid (t':=s.toks) kp (le_refl _) (show ObjOk X.prog X.w _ B _ (.lst ys) from ⟨hz,A,c',r',e⟩),rfl,q _ (I.hok.fresh (le_refl _))⟩
 rcases hq with hq|hq
 ·obtain⟨A,r',pl,hz⟩:=I.list hq;have hlen:=r'.length;obtain⟨o,ho,hc,n,hd⟩:=pl.isList;exact call_list_seq p (.inl rfl) ho hc hd (fun B c' kp e=>fin A r' hz B c' kp e) (by simp only[size_toArray] <;> omega)
 ·obtain⟨A,r',pl,hz⟩:=I.tuple hq;have hlen:=r'.length;obtain⟨o,ho,hc,n,hd⟩:=pl;exact call_list_seq p (.inr rfl) ho hc hd (fun B c' kp e=>fin A r' hz B c' kp e) (by simp only[size_toArray] <;> omega)
theorem oB:d7 X (.type "tuple") (fun xs H Q=>∃p ys,xs=[.ref p]∧((gB X.K H p ys∧∀l,H l=none→Q (.ref l) (a9 H l (.tup ys)))∨(mj X.K H p ys∧Q (.ref p) H))):=by
 intro pins s σ H xs us Q I r h;obtain⟨p,ys,rfl,h⟩:=h;obtain⟨u,rfl,rx⟩:=jm r;cases rx
 rcases h with ⟨hq,q⟩|⟨hq,q⟩
 ·obtain⟨its,r',pl,hz⟩:=I.list hq;have hlen:=r'.length;refine call_tuple_list pl.isList (fun h' kp=>?_) (by simp only[size_toArray] <;> omega);have I1:Inv X pins σ H {s with heap:=h'}:=I.kept (t':=s.toks) kp
  have I2:Inv X pins σ (a9 H h'.objs.size (.tup ys)) {s with heap:=h'.push {cls:=.type "tuple",data:=.seq its.toArray}}:=
   I1.laid (t':=s.toks) (fun b o e=>Heap.get?_push_of_some _ e) (le_refl _) (show ObjOk X.prog X.w _ _ _ (.tup ys) from ⟨hz,its,r',IsTup.new _ _⟩)
  exact⟨.ref h'.objs.size,_,I2,rfl,q _ (I1.hok.fresh (le_refl _))⟩
 ·obtain⟨its,r',pl,hz⟩:=I.tuple hq;exact call_tuple_same pl ⟨.ref p,H,I,rfl,q⟩
noncomputable def Fx (K:W.Frag)(T:String)(x:V)(H:Hp):Prop:=match x with
 |.str _=>T= "str"
 |.int _=>T= "int"
 |.ref p=>(T= "list" ∧∃xs,gB K H p xs)∨(T= "tuple" ∧∃o,K.lookup p=some o∧o.cls= .type "tuple" ∧o.dict=none)∨
   (T= "dict" ∧((∃kvs,H p=some (.dK kvs))∨∃kvs,H p=some (.dT kvs)))∨(T= "set" ∧∃S n,H p=some (.set S n))
 |_=>False
theorem Dr {pins:List (Addr×Obj)}{σ:St}{H:Hp}{s:Shared}{T:String}{x:V}{v:Value}(I:Inv X pins σ H s)(r:RelV x v)(ty:Fx X.K T x H) :
  s.TypeIs v T∧∀a,v= .ref a→∃ob,s.heap.get? a=some ob∧ob.dict=none:=by
 cases x with
 |str z=>
  obtain⟨t,rfl⟩:=r;cases (show T= "str" from ty);exact⟨typeIs_str s z t,fun _ e=>nomatch e⟩
 |int i=>
  obtain⟨t,rfl⟩:=r;cases (show T= "int" from ty);exact⟨typeIs_int s i t,fun _ e=>nomatch e⟩
 |ref p=>
  cases r
  rcases ty with ⟨rfl,xs,hq⟩|⟨rfl,o,C,hc,hd⟩|⟨rfl,C⟩|⟨rfl,S,n,C⟩
  ·obtain⟨its,_,pl,_⟩:=I.list hq;refine⟨pl.isList.typeIs,fun a e=>?_⟩;cases e;obtain⟨o,n,e,c,hd,_⟩:=pl;exact⟨o,e,hd⟩
  ·refine⟨⟨o,I.kIn p o C,hc⟩,fun a e=>?_⟩;cases e;exact⟨o,I.kIn _ o C,hd⟩
  ·have z:∃o,s.heap.get? p=some o∧o.ExactDict:=by
    rcases C with ⟨kvs,C⟩|⟨kvs,C⟩
    ·obtain⟨_,_,_,_,o,_,_,e,D,_⟩:=I.hok p _ C;exact⟨o,e,D⟩
    ·obtain⟨_,_,_,_,o,_,_,e,D,_⟩:=I.hok p _ C;exact⟨o,e,D⟩
   obtain⟨o,e,D⟩:=z;refine⟨⟨o,e,D.1⟩,fun a e2=>?_⟩;cases e2;exact⟨o,e,D.2.1⟩
  ·obtain⟨o,_,_,_,e,D,_⟩:=I.hok p _ C;refine⟨⟨o,e,D.1⟩,fun a e2=>?_⟩;cases e2;exact⟨o,e,D.2.1⟩
 |_=>exact False.elim ty
noncomputable def FE (K:W.Frag)(T:String)(r:V→List V→Hp→VK→Prop)(to:TE)(t:TA):TE:=fun σ H Q=>to σ H fun x H1=>Fx K T x H1∧t σ H1 fun xs H2=>r x xs H2 Q
variable{o e:Expr}{es:List Expr}{to:TE}{t:TA}{name:Str}{apos cpos:Pos}{T id:String}{r:V→List V→Hp→VK→Prop}
theorem nT (pa:PlainAttrs T)(slot:Slot T name id)(hty:typeOf (.builtin id)=pure (.type "method_descriptor"))(hm:zj X id r)(ho:PE X o to)(ha:PA X (e::es) t)
  (hbase:attributeBase o name X.env (eval o X.env)=eval o X.env:=by rfl)
  (hfew:((backTo cpos (starEach (e::es) X.env)).all (fun x=> !x.1)&&(backToKw cpos (keywordEach [] X.env)).all (fun x=>x.1.isSome)
  &&decide ((e::es).length+([]:List Keyword).length+(if ([]:List Keyword).isEmpty then 0 else 1)<30))=true:=by rfl)
  (hline:(apos.endLine==cpos.line)=true:=by rfl) (hs:starEach (e::es) X.env=(false,eval e X.env)::starEach es X.env:=by rfl) (hplain:(backTo cpos (starEach es X.env)).any (·.1)=false:=by rfl) :
  PE X (.Call (.Attribute o name apos) (e::es) [] cpos) (FE X.K T r to t):=by
 intro u s σ H Q I h;refine wpAny_Call_method_late hbase hfew hline rfl (aW (ho u s σ H _ I h) fun v s1 hZ67=>?_);obtain⟨x,H1,I1,r1,ty,q1⟩:=hZ67;obtain⟨h1,h2⟩:=Dr I1 r1 ty;refine⟨T,id,pa,slot,hty,h1,h2,?_⟩;have hA:=ha cpos u s1 σ H1 _ I1 q1;rw[hs]at hA ⊢;refine Calls.callWith_builtin (by show (false||(backTo cpos (starEach es X.env)).any (·.1))=false;rw[hplain] <;> rfl) (Calls.evalArgs_plain ?_);exact aW hA fun us s2 hZ68=>(by obtain⟨vs,H2,I2,r2,q2⟩:=hZ68;exact hm u s2 σ H2 x vs v us Q I2 r1 r2 q2)
end
noncomputable def ER (X:Cx)(id:String)(r:V→List V→Hp→VK→Prop):Prop:=
 ∀(pins:List (Addr×Obj)) (s:Shared) (σ:St) (H:Hp) (x:V) (xs:List V) (v:Value) (us:List Value) (Q:VK),Inv X pins σ H s→RelV x v→Vals xs us→r x xs H Q→
  wpAny (model X.prog X.w) X.A (call (.builtin id) (v::us)) (EP X pins σ Q) X.xe s
theorem Vals.one:∀{x:V} {us:List Value},Vals [x] us→∃u,us=[u]∧RelV x u
 |_,_,.cons r .nil=>⟨_,rfl,r⟩
theorem Vals.eraseIdx:∀{xs:List V} {us:List Value} (i:Nat),Vals xs us→Vals (xs.eraseIdx i) (us.eraseIdx i)
 |_,_,_,.nil=>.nil
 |_,_,0,.cons _ t=>t
 |_,_,i+1,.cons r t=>.cons r (Vals.eraseIdx i t)
theorem Vals.rep {xs:List V}{us:List Value}(h:Vals xs us):∀k:Nat,Vals (replicate k xs).flatten (replicate k us).flatten
 |0=>.nil
 |k+1=>by
  rw[replicate_succ,replicate_succ,flatten_cons,flatten_cons];exact Vals.append h (Vals.rep h k)
theorem pD {α:Type}:∀(l:List α) (i:Nat),(l.eraseIdx i).length≤l.length
 | [],_=>le_refl _
 |_::_,0=>le_succ _
 |_::r,i+1=>Nat.succ_le_succ (pD r i)
theorem pi (its:List Value):∀(k:Nat) (acc:List Value),
  List.foldl (fun x1 x2=>x1 ++ x2) acc.toArray (replicate k its.toArray)=(acc ++ (replicate k its).flatten).toArray
 |0,acc=>by simp
 |k+1,acc=>by
  have e:acc.toArray ++ its.toArray=(acc ++ its).toArray:=by simp
  have e2:(acc ++ its) ++ (replicate k its).flatten=acc ++ (replicate (k+1) its).flatten:=by
   rw[replicate_succ,flatten_cons,append_assoc]
  rw[←e2,←pi its k (acc ++ its),←e,replicate_succ,List.foldl_cons]
section
variable{X:Cx}{pins:List (Addr×Obj)}{σ:St}{H:Hp}{s:Shared}{l b:Addr}{xs ys zs:List V}
theorem Inv.lset {its its':List Value}{n:Nat}{f:Array Value→Array Value}{t':Nat}(I:Inv X pins σ H s)(hH:H l=some (.lst xs))
  (e:s.heap.get? l=some {cls:=.type "list",data:=.seq its.toArray n}) (hf:f its.toArray=its'.toArray) (hv:Vals ys its') (hz:ys.length≤sizeLine) :
  Inv X pins σ (a9 H l (.lst ys)) {s with heap:=s.heap.update l (Obj.mapSeq f),toks:=t'}:=by
 have q:=PySem.IsL.update e f;rw[hf]at q;refine I.write (x:=l) (e:=l) (by rw[hH];exact trivial) (.inl rfl) (fun b' u hb hu=>(Heap.get?_update_other s.heap (Obj.mapSeq f) (Ne.symm hb)).trans hu) ⟨_,q⟩ ?_;exact⟨hz,its',_,hv,q⟩
theorem Inv.lnew {its:List Value}{t':Nat}(I:Inv X pins σ H s)(hv:Vals ys its)(hz:ys.length≤sizeLine) :
  Inv X pins σ (a9 H s.heap.objs.size (.lst ys)) {s with heap:=s.heap.push {cls:=.type "list",data:=.seq its.toArray},toks:=t'}:=
 I.laid (fun _ _ q=>Heap.get?_push_of_some _ q) (le_refl _) ⟨hz,its,0,hv,Heap.get?_push_size _ rfl⟩
theorem Inv.fresh (I:Inv X pins σ H s):H s.heap.objs.size=none:=I.hok.fresh (le_refl _)
theorem Inv.lstM (I:Inv X pins σ H s)(hH:H l=some (.lst xs)):xs.length≤sizeLine∧∃(its:List Value) (n:Nat),Vals xs its∧xs.length=its.length∧s.heap.get? l=some {cls:=.type "list",data:=.seq its.toArray n}:=by
 obtain⟨z,its,n,r,e⟩:=I.hok l _ hH;exact⟨z,its,n,r,r.length,e⟩
theorem sw {n:Nat}(h:n≤sizeLine):Builtin.List.listTooLong n=false:=by
 unfold Builtin.List.listTooLong;exact decide_eq_false (by omega)
end
section
variable{X:Cx}
noncomputable def eW:V→List V→Hp→VK→Prop:=fun x vs H Q=>∃l xs y,x= .ref l∧vs=[y]∧H l=some (.lst xs)∧xs.length<sizeLine∧Q .non (a9 H l (.lst (xs ++ [y])))
theorem jC:ER X "list.append" eW:=by
 intro pins s σ H x vs v us Q I rx rv h;obtain⟨l,xs,y,rfl,rfl,hH,hz,q⟩:=h;cases rx;obtain⟨u,rfl,ru⟩:=rv.one;obtain⟨z,its,n,r,hl,e⟩:=I.lstM hH;refine call_meets F.slot_list_append ⟨_,e,rfl⟩ F.entry_list_append (F.args_list_append_2 _ _) (PySem.list_append l its.toArray n u (by rw[size_toArray];omega)) ⟨e,?_⟩;refine⟨.non,_,I.lset (its':=its ++ [u]) hH e (by simp) (r.append (.cons ru .nil)) ?_,rfl,q⟩;rw[length_append,length_singleton];omega
noncomputable def qQ:V→List V→Hp→VK→Prop:=fun x vs H Q=>∃l b xs zs,x= .ref l∧vs=[.ref b]∧H l=some (.lst xs)∧H b=some (.lst zs)∧xs.length+zs.length≤sizeLine∧Q .non (a9 H l (.lst (xs ++ zs)))
theorem wv:ER X "list.extend" qQ:=by
 intro pins s σ H x vs v us Q I rx rv h;obtain⟨l,b,xs,zs,rfl,rfl,hH,hB,hz,q⟩:=h;cases rx;obtain⟨u,rfl,ru⟩:=rv.one;cases ru;obtain⟨z,A,n,r,hl,e⟩:=I.lstM hH;obtain⟨z2,E,n2,r2,hl2,e2⟩:=I.lstM hB;have hsz:A.toArray.size+E.toArray.size≤sizeLine:=by rw[size_toArray,size_toArray];omega
 have hlong:¬(!A.toArray.isEmpty&&Builtin.List.listTooLong (A.toArray.size+E.toArray.size))=true:=by
  rw[sw hsz,Bool.and_false];exact Bool.false_ne_true
 refine call_meets F.slot_list_extend ⟨_,e,rfl⟩ F.entry_list_extend (F.args_list_extend_2 _ _)
  (AutoSeq1.list_extend_list_list_0 l A.toArray n b E.toArray n2 hlong (by rw[size_toArray];omega) (by omega)) ⟨e,e2,?_⟩
 refine⟨.non,_,I.lset (its':=A ++ E) hH e (by simp) (r.append r2) ?_,rfl,q⟩;rw[length_append];omega
noncomputable def uq:V→List V→Hp→VK→Prop:=fun x vs H Q=>∃l xs i k y,x= .ref l∧vs=[.int i]∧H l=some (.lst xs)∧ -(2 ^ 63)≤i∧i<2 ^ 63∧seqIndex? i xs.length=some k∧xs[k]?=some y∧Q y (a9 H l (.lst (xs.eraseIdx k)))
theorem ye:ER X "list.pop" uq:=by
 intro pins s σ H x vs v us Q I rx rv h;obtain⟨l,xs,i,k,y,rfl,rfl,hH,h1,h2,hk,hy,q⟩:=h;cases rx;obtain⟨u,rfl,ru⟩:=rv.one;obtain⟨t,rfl⟩:=ru;obtain⟨z,A,n,r,hl,e⟩:=I.lstM hH;obtain⟨w,hw,rw'⟩:=r.get hy;refine call_meets F.slot_list_pop ⟨_,e,rfl⟩ F.entry_list_pop (F.args_list_pop_2 _ _)
  (MeetsSeq.list_pop_at l A.toArray n i t k w (fitsIndex_both h1 h2) (by rw[size_toArray,←hl];exact hk) (by rw[←getElem?_toList];exact hw) (by rw[size_toArray];omega)) ⟨e,?_⟩
 refine⟨y,_,I.lset (its':=A.eraseIdx k) hH e ?_ (r.eraseIdx k) ?_,rw',q⟩
 ·show A.toArray.eraseIdxIfInBounds k=(A.eraseIdx k).toArray;rw[List.eraseIdxIfInBounds_toArray]
 ·have:=pD xs k;omega
noncomputable def E9:R2:=fun x y H Q=>∃l b xs zs,x= .ref l∧y= .ref b∧H l=some (.lst xs)∧H b=some (.lst zs)∧xs.length+zs.length≤sizeLine∧∀p,H p=none→Q (.ref p) (a9 H p (.lst (xs ++ zs)))
theorem yi:rh X (binaryOp .Add) E9:=by
 intro pins s σ H x y v u Q I rx ry h;obtain⟨l,b,xs,zs,rfl,rfl,hH,hB,hz,q⟩:=h;cases rx;cases ry;obtain⟨z,its,n,r,hl,e⟩:=I.lstM hH;obtain⟨z2,its2,n2,r2,hl2,e2⟩:=I.lstM hB;refine PySem.P.add_list e e2 ?_ (by rw[size_toArray,size_toArray];omega);have ea:its.toArray ++ its2.toArray=(its ++ its2).toArray:=by simp
 rw[ea];exact⟨.ref _,_,I.lnew (t':=s.toks) (r.append r2) (by rw[length_append];omega),rfl,q _ I.fresh⟩
noncomputable def E_:R2:=fun x y H Q=>∃l k xs,x= .ref l∧y= .int k∧H l=some (.lst xs)∧ -(2 ^ 63)≤k∧k<2 ^ 63∧xs.length*k.toNat≤sizeLine∧
 ∀p,H p=none→Q (.ref p) (a9 H p (.lst (replicate k.toNat xs).flatten))
theorem Ak {α:Type}(xs:List α)(k:Nat):(replicate k xs).flatten.length=k*xs.length:=by
 induction k with
 |zero=>simp
 |succ k ih=>rw[replicate_succ,flatten_cons,length_append,ih,Nat.succ_mul,Nat.add_comm]
theorem CZ:rh X (binaryOp .Mult) E_:=by
 intro pins s σ H x y v u Q I rx ry h;obtain⟨l,k,xs,rfl,rfl,hH,h1,h2,hz,q⟩:=h;cases rx;obtain⟨t,rfl⟩:=ry;obtain⟨z,A,n,r,hl,e⟩:=I.lstM hH;have hlen:A.toArray.size*k.toNat≤sizeLine:=by rw[size_toArray,←hl];exact hz
 have hcap:¬A.toArray.size*k.toNat>(2 ^ 63-1) / 8:=by
  have:(sizeLine:Nat)≤(2 ^ 63-1) / 8:=by decide
  omega
 have hfit:¬(!Builtin.List.listFitsIndex k)=true:=by
  rw[fitsIndex_both h1 h2];exact Bool.false_ne_true
 have hlong:¬Builtin.List.listTooLong (A.toArray.size*k.toNat)=true:=by
  rw[sw hlen];exact Bool.false_ne_true
 have hnew:List.foldl (fun x1 x2=>x1 ++ x2) #[] (replicate (if A.toArray.isEmpty=true then 0 else k.toNat) A.toArray)=(replicate k.toNat A).flatten.toArray:=by
  have f0:∀m:Nat,List.foldl (fun x1 x2=>x1 ++ x2) #[] (replicate m A.toArray)=(replicate m A).flatten.toArray:=fun m=>by
   have:=pi A m [];rw[nil_append]at this;exact this
  rw[f0];cases A with
  |nil=>simp
  |cons a r'=>rw[if_neg (by simp)]
 refine wpAny_binaryOp_repeat_ref (T:= "list") (U:= "int") (by decide) ⟨_,e,rfl⟩ (fun s'=>typeIs_int s' k t) noFill_list_mul F.fills_int_mul F.slot_int_rmul repeat_list F.slot_int_index.lookup
  (call_meets F.slot_int_rmul (typeIs_int s k t) F.entry_int_rmul (F.args_int_rmul_2 _ _) (int___rmul___int_list k t l A.toArray n)
   ⟨e,rfl,⟨_,e,rfl⟩,call_meets F.slot_list_mul ⟨_,e,rfl⟩ F.entry_list_mul (F.args_list_mul_2 _ _) (AutoListH.list___mul___list_int_3 l A.toArray n k t hfit hcap hlong) ⟨e,?_⟩⟩)
 rw[hnew];exact⟨.ref _,_,I.lnew (t':=s.toks) (r.rep k.toNat) (by rw[Ak,Nat.mul_comm];exact hz),rfl,q _ I.fresh⟩
end
section
variable{prog:Program}{w:World}{A:Around}{E:Value→Shared→Prop}{s:Shared}
end
section
variable{X:Cx}
end
end L2
namespace Att
open PySem PySem.W PySem.Calls PyProof.Rows
theorem ma {P:Params}{h:Heap}:∀(ns:List Int) (vs:List Value),WellAll P h vs (ns.map WData.int)→IntsAre vs ns:=by
 intro ns
 induction ns with
 |nil=>
  intro vs w;rw[map_nil]at w;cases w;exact .nil
 |cons n ns ih=>
  intro vs w;rw[map_cons]at w;cases w with
  |cons a b=>
   cases a;exact .cons _ _ (ih _ b)
theorem wN {l:OpenLaw}{n:Nat}(hn:l.most=some n){P:Params}{h:Heap}{args:List WData}{vals:List Value}
  (hpre:l.row.toRowW.claim.pre args=true) (hwl:WellAll P h vals args) :
  ∃a vs ns,vals=[Value.ref a]∧args=[WData.list (ns.map WData.int)]∧h.get? a=some {cls:=.type "list",data:=.seq vs.toArray}∧IntsAre vs ns∧ns.length≤n:=by
 have hsh:WShape.hasAll [] args [.list .int]=true:=(pre_splitW hpre).1;have hc:l.pre.holds [] {args:=args}=true:=(pre_splitW hpre).2;obtain⟨d,r,rfl,h1,h2⟩:=hasAllW_cons hsh;obtain rfl:=hasAllW_nil h2;obtain⟨xs,rfl,h3⟩:=hasW_list h1;obtain⟨ns,rfl⟩:=items_int h3;have hlen:ns.length≤n:=by
  unfold OpenLaw.pre at hc;have h4:(WTm.not (.lt (.lit (.int (n:Int))) (.len (.arg 0)))).holds [] {args:=[.list (ns.map .int)]}=true:=by
   have h4:=(holds_andW hc).1;rw[hn]at h4;exact h4
  have h5:=condW_of h4 (w_not (w_lt w_lit (w_len_list (w_arg rfl))));rw[length_map]at h5;refine Nat.le_of_not_lt fun q=>?_;have q':(n:Int)<((ns.length:Nat):Int):=by omega
  first
   |(rw[decide_eq_true q']at h5;exact absurd h5 (by decide))
   |(simp at h5;omega)
 cases hwl with
 |cons w1 w2=>
  cases w2;cases w1 with
  |list ho hall=>exact⟨_,_,ns,rfl,rfl,ho,ma ns _ hall,hlen⟩
theorem wG (l:OpenLaw)(args:List WData):l.row.toRowW.claim.post args (.bool true) args=true:=
 postW_of (r:=l.row.toRowW) (X:=(true==true))
  (show WShape.has [] (.bool true) .bool=true by first|rfl|decide|simp[WShape.has,WShape.arms,WShape.armsAll])
  (show (WTm.eq .res (.lit (.bool true))).value [] {args:=args,res:=some (.bool true),after:=args}=some (.bool (true==true)) from w_eq_bool (w_res rfl) w_lit) rfl
theorem rq {l:OpenLaw}{n:Nat}{q:Program}{loose:List Str}{XP:(Str→Option Value)→Heap→Prop}{YP:World→Heap→Prop}{d:DefRec}
  (hn:l.most=some n) (hdf:d.params.defaults=[])
  (call:∀(w:World) (s₀ s₁:Shared) (mg mb:Str→Option Value) (fa:Addr) (o:Obj) (pm cd doc:Value) (a:Addr) (vs:List Value) (ns:List Int),
   Ground q loose [] XP w s₀ mg mb s₁.heap→YP w s₁.heap→
   s₁.heap.get? fa=some o→o.data= .func (docDef d.name d.params d.body d.scope pm cd doc)→s₁.heap.CodeRec cd d.name→mg d.name=some (.ref fa)→
   s₁.heap.get? a=some {cls:=.type "list",data:=.seq vs.toArray}→IntsAre vs ns→ns.length≤n→s₁.gens= #[]→
   codeAny (model l.prog w) callerA (.call (.ref fa) ⟨[.ref a],[]⟩) (fun r s'=>r= .ok (.ret (.bool true))∧OldK s₁.heap s'.heap∧s'.os=s₁.os∧AllBare s'.gens) s₁) :
  WalkO q loose XP YP l.row.toRowW d [] (fun f vs=>PySem.call f vs):=by
 intro w s₀ s₁ mg mb G Y fa o pm cd doc dV kV ho hd hcd hD hmg hg args vals as hpre hlay hrd hwl hlo;obtain rfl:dV= .none:=Dflts.none hD hdf;obtain rfl:kV= .none:=Dflts.noKw hD;obtain⟨a,vs,ns,rfl,rfl,hobj,hints,hlen⟩:=wN hn hpre hwl;refine enter_call (codeAny_mono (call w s₀ s₁ mg mb fa o pm cd doc a vs ns G Y ho (fd_plain hd) hcd hmg hobj hints hlen hg) fun r s' hq=>?_);obtain⟨rfl,h2,h3,h4⟩:=hq;exact⟨.inl ⟨.bool true,.bool true,[],rfl,fun _=>rfl,.bool true,wG l _,fun _=>⟨List.Pairwise.nil,fun _ hm=>(nomatch hm)⟩⟩,h2,h3,h4⟩
section
variable{prog:Program}{w:World}{A:Around}{E:Value→Shared→Prop}{s:Shared}{K:Frag}
end
end Att
namespace L2
open PySem PySem.Spec PyProof.Rows
theorem pU:∀{vs:List Value} {ns:List Int},IntsAre vs ns→Vals (ns.map V.int) vs
 |_,_,.nil=>.nil
 |_,_,.cons n t h=>.cons ⟨t,rfl⟩ (pU h)
noncomputable def BQ (H:Hp):Prop:=∀b,H b=none∨∃o xs,H b=some (.frz o (.lst xs))
theorem xZ {P:Program}{w:World}{K:W.Frag}{mg mb:Str→Option Value}{CX:rj}{k:Nat}{fa a:Addr}{fd:FuncData}{x:Str}{sp:Sp}{s₁:Shared}{vs:List Value}{ns:List Int}
  (KX:K.In s₁.heap) (hns:s₁.heap.Ns mainGlobals mg) (hb:s₁.heap.Ns builtinsNs mb) (hbb:∀x:Str,x≠ "__name__" →mb x=bootBuiltins x) (hlim:s₁.heap.NoLimit) (hg:s₁.gens= #[])
  (ha:s₁.heap.get? a=some {cls:=.type "list",data:=.seq vs.toArray}) (hi:IntsAre vs ns) (hl:ns.length≤sizeLine) (hr:Room k callerA)
  (F:∀base:Heap,K.In base→base.Ns mainGlobals mg→FnOk P w K mg base CX k fa fd [x] sp) (hbind:∀(s:Shared) (u:Value),BindsTo s fd ⟨[u],[]⟩ [(x,u)])
  (hsp:∀H:Hp,BQ H→gB K H a (ns.map V.int)→sp [.ref a] H (fun v _=>v= .bl true) fun _ _ _=>False)
  (hCX:∀H e s',CX [] H s₁ (fun _ _ _=>False) e s'→False) :
  codeAny (model P w) callerA (.call (.ref fa) ⟨[.ref a],[]⟩) (fun r s'=>r= .ok (.ret (.bool true))∧OldK s₁.heap s'.heap∧s'.os=s₁.os∧AllBare s'.gens) s₁:=by
 have rv:=pU hi;have lenV:=hi.length
 -- from an abstract heap in which nothing but the script may be tracked
 have core:∀H:Hp,BQ H→gB K H a (ns.map V.int)→HOk P w H s₁.heap→(∀b,H b≠none→b=a)→(H a≠none→K.lookup a=none)→
   codeAny (model P w) callerA (.call (.ref fa) ⟨[.ref a],[]⟩) (fun r s'=>r= .ok (.ret (.bool true))∧OldK s₁.heap s'.heap∧s'.os=s₁.os∧AllBare s'.gens) s₁:=by
  intro H hO hS hok hA hK;have G:∀{b:Addr} {o:Obj},s₁.heap.get? b=some o→H b=none→(qq s₁.heap H).get? b=some o:=fun e n=>xP e n;have noA:∀{b:Addr} {o:Obj} {es:Array DictEntry} {ep:Nat},s₁.heap.get? b=some o→o.data= .dict es ep→H b=none:=fun {b o es ep} e d=>by
   cases q:H b with
   |none=>rfl
   |some u=>
    have e':b=a:=hA b (by rw[q];simp);subst e';rw[ha]at e;cases e;have d':Data.seq vs.toArray _=Data.dict es ep:=d;cases d'
  have I:∀{b:Addr} {m:Str→Option Value},s₁.heap.Ns b m→(qq s₁.heap H).Ns b m:=fun {b m} hZ69=>(by obtain⟨o,es,ep,e,d,r⟩:=hZ69;exact⟨o,es,ep,G e (noA e d),d,r⟩);have hKb:K.In (qq s₁.heap H):=fun b o e=>G (KX b o e) (by
   cases q:H b with
   |none=>rfl
   |some u=>
    have e':b=a:=hA b (by rw[q];simp);subst e';rw[hK (by rw[q];simp)]at e;cases e)
  have hM:Mod K mg (qq s₁.heap H):=⟨hKb,I hns,⟨mb,I hb,hbb⟩,let ⟨mc,h1,h2⟩:=hlim;⟨mc,I h1,h2⟩⟩
  have e0:Env0 P w K mg (qq s₁.heap H) callerA [] s₁ H:=⟨rfl,hM,fun b o e=>Ap e,Nat.le_of_eq (wc _ _),trivial,fun b hb=>absurd (show b∈([]:List Addr) from hb) (by simp),hok,.of_eq hg⟩;refine codeAny_mono ((F _ hKb (I hns)).run callerA [] s₁ H ⟨[.ref a],[]⟩ [.ref a] [.ref a] _ _ hr e0 (hbind s₁ (.ref a)) (.cons rfl .nil) (hsp H hO hS)) fun r s' h=>?_;cases r with
  |error e=>exact(hCX H e s' h).elim
  |ok fl=>
   cases fl with
   |next=>exact False.elim h
   |brk=>exact False.elim h
   |cont=>exact False.elim h
   |ret u=>
    obtain⟨v,H',os,bare,un,hok',r',q⟩:=h;have q':v= .bl true:=q;subst q';obtain rfl:u=Value.bool true:=r';refine⟨rfl,OldK.of_keep fun b o e=>?_,os,bare⟩;cases q:H b with
    |none=>exact un.keep b o e q (by intro z;exact absurd (show b∈([]:List Addr) from z) (by simp)) (by simp)
    |some u=>
     rcases hO b with z|⟨ob,xs,z⟩
     ·rw[q]at z;cases z
     ·have z2:=un.frzs b ob _ z;obtain⟨e1,_⟩:=hok b _ z;obtain⟨e2,_⟩:=hok' b _ z2;rw[e]at e1;cases e1;exact e2
 cases hk:K.lookup a with
 |some o=>
  -- the script is one of the module's own objects
  have e:=KX a o hk;rw[ha]at e;cases e;refine core (fun _=>none) (fun _=>.inl rfl) (.inr ⟨_,vs.toArray,_,hk,rfl,rfl,rfl,by rw[size_toArray,lenV];exact hl,by simpa using rv⟩) (fun b u z=>by have z':(none:Option HO)=some u:=z;cases z') (fun b z=>absurd rfl z) fun z=>absurd rfl z
 |none=>
  refine core (fun b=>if b=a then some (.frz {cls:=.type "list",data:=.seq vs.toArray} (.lst (ns.map V.int))) else none) (fun b=>?_) (.inl (.inr ⟨{cls:=.type "list",data:=.seq vs.toArray},if_pos rfl⟩)) (fun b u z=>?_) (fun b z=>?_) fun _=>hk
  ·by_cases hb:b=a
   ·exact .inr ⟨_,_,if_pos hb⟩
   ·exact .inl (if_neg hb)
  ·by_cases hb:b=a
   ·have z':=(if_pos hb).symm.trans z;cases z';subst hb;exact⟨ha,by rw[length_map];exact hl,vs,_,rv,ha⟩
   ·have z':=(if_neg hb).symm.trans z;cases z'
  ·by_cases hb:b=a
   ·exact hb
   ·exact absurd (if_neg hb) z
theorem Bg {l:W.OpenLaw}{n k:Nat}{q:Program}{loose:List Str}{XP:(Str→Option Value)→Heap→Prop}{YP:World→Heap→Prop}{d:DefRec}{K:Params→W.Frag}{CX:World→rj}{sp:World→Sp}{x:Str}
  (hn:l.most=some n) (hn2:n≤sizeLine) (hdf:d.params.defaults=[]) (hr:Room k callerA)
  (hY:∀(w:World) (h:Heap),YP w h→(K w.params).In h)
  (F:∀(w:World) (mg:Str→Option Value) (fa:Addr) (h:Heap),(K w.params).In h→h.Ns mainGlobals mg→mg d.name=some (.ref fa)→
   ∃fd:FuncData,(∀(s:Shared) (u:Value),BindsTo s fd ⟨[u],[]⟩ [(x,u)])∧
    ∀base:Heap,(K w.params).In base→base.Ns mainGlobals mg→FnOk l.prog w (K w.params) mg base (CX w) k fa fd [x] (sp w))
  (hsp:∀(w:World) (H:Hp) (a:Addr) (ns:List Int),ns.length≤n→BQ H→gB (K w.params) H a (ns.map V.int)→sp w [.ref a] H (fun v _=>v= .bl true) fun _ _ _=>False)
  (hCX:∀(w:World) (H:Hp) (s:Shared) (e:Value) (s':Shared),CX w [] H s (fun _ _ _=>False) e s'→False) :
  W.WalkO q loose XP YP l.row.toRowW d [] (fun f vs=>PySem.call f vs):=by
 refine Att.rq hn hdf fun w s₀ s₁ mg mb fa o pm cd doc a vs ns G Y ho hd hcd hmg hobj hints hlen hg=>?_;have KX:=hY w _ Y;obtain⟨fd,hb,hF⟩:=F w mg fa _ KX G.T.g hmg;exact xZ KX G.T.g G.T.b G.T.builtins G.T.nolimit hg hobj hints (le_trans hlen hn2) hr hF hb (fun H hO hS=>hsp w H a ns hlen hO hS) fun H e s'=>hCX w H s₁ e s'
noncomputable def jz (s:Stmt)(j:Nat):Stmt:=match s with
 |.ClassDef _ _ _ body _ _ _ _ _ _ _=>body.getD j (.Pass ⟨0,0,0,0⟩)
 |_=>.Pass ⟨0,0,0,0⟩
noncomputable def ig (s:Stmt):Arguments:=match s with
 |.FunctionDef _ a _ _ _ _ _ _ _ _=>a
 |_=>{posonlyargs:=[],args:=[],vararg:=none,kwonlyargs:=[],kw_defaults:=[],kwarg:=none,defaults:=[]}
noncomputable def cN (s:Stmt):List Stmt:=match s with
 |.FunctionDef _ _ b _ _ _ _ _ _ _=>b
 |_=>[]
noncomputable def aj (s:Stmt):Scope:=match s with
 |.FunctionDef _ _ _ _ _ _ sc _ _ _=>sc
 |_=>{kind:=.function,names:=[],isGenerator:=false,isCoroutine:=false}
structure Fun (K:W.Frag)(x qual:Str)(st:Stmt)(f:Addr)(fd:FuncData):Prop where
 ex:∃(oc:Value) (od:Option Addr) (kV doc pm:Value) (an:Option Addr) (cdv ct:Value) (osl:Array (Option Value)),
  fd=W.fnOf x qual (ig st) (cN st) (aj st) .none kV doc pm an cdv ct∧K.lookup f=some ⟨oc,od,.func fd,osl⟩∧W.codeIn K cdv qual=true
 kp:W.keepIn K (.ref f)=true
section
variable{P:Program}{w:World}{K:W.Frag}{mg:Str→Option Value}{base:Heap}
theorem Fun.binds {x qual:Str}{st:Stmt}{f:Addr}{fd:FuncData}{ps:List Str}(F:Fun K x qual st f fd)
  (h:∀(kV doc pm:Value) (an:Option Addr) (cdv ct:Value) (us:List Value),us.length=ps.length→bindArgs (W.fnOf x qual (ig st) (cN st) (aj st) .none kV doc pm an cdv ct) ⟨us,[]⟩=pure (ps.zip us)):Binds K fd ps []:=by
 obtain⟨oc,od,kV,doc,pm,an,cdv,ct,osl,rfl,lk,hcd⟩:=F.ex;exact .all (h kV doc pm an cdv ct)
theorem xL {x qual:Str}{st:Stmt}{f:Addr}{oc:Value}{od an:Option Addr}{osl:Array (Option Value)}{kV doc pm cdv ct:Value}(l:K.lookup f=some ⟨oc,od,.func (W.fnOf x qual (ig st) (cN st) (aj st) .none kV doc pm an cdv ct),osl⟩)
  (c:W.codeIn K cdv qual=true) (k:W.keepIn K (.ref f)=true):Fun K x qual st f (W.fnOf x qual (ig st) (cN st) (aj st) .none kV doc pm an cdv ct):=⟨⟨oc,od,kV,doc,pm,an,cdv,ct,osl,rfl,l,c⟩,k⟩
end
section
variable{X:Cx}
theorem pv (i:Nat){x:Str}{pos:Pos}(hN:X.N[i]?=some x:=by rfl)(hv:uJ X.env.scope x:=by first|exact Or.inl rfl|exact Or.inr (Or.inl rfl)|exact Or.inr (Or.inr rfl))(hd:(x==("__debug__" :Str))=false:=by decide)
  (hcd:(x==("__classdict__" :Str))=false:=by decide):PE X (.Name x pos) (ED i):=fH hN hv hd hcd
end
noncomputable def Same (H H':Hp):Prop:=∀b o,H b=some o→H' b=some o
theorem Same.refl (H:Hp):Same H H:=fun _ _ h=>h
theorem Same.trans {H H1 H2:Hp}(a:Same H H1)(b:Same H1 H2):Same H H2:=fun c o h=>b c o (a c o h)
theorem Same.free {H H':Hp}(e:Same H H'){l:Addr}(h:H' l=Option.none):H l=Option.none:=by
 cases q:H l with
 |none=>rfl
 |some o=>
  rw[e l o q]at h;cases h
theorem Same.seq {K:W.Frag}{H H':Hp}{a:Addr}{xs:List V}(e:Same H H')(h:gB K H a xs):gB K H' a xs:=by
 rcases h with (h|⟨o,h⟩)|h
 ·exact .inl (.inl (e _ _ h))
 ·exact .inl (.inr ⟨o,e _ _ h⟩)
 ·exact .inr h
section
variable(P:Program)(w:World)
end
section
variable{P:Program}{w:World}{H H':Hp}{h h':Heap}{a:Addr}{o:HO}
end
section
variable{P:Program}{w:World}{H:Hp}{h h':Heap}{x e:Addr}{o':HO}
end
section
variable{fs fs' ex ex':List Addr}{H H1 H2:Hp}{h h1 h2 h':Heap}{a x e:Addr}{o:HO}
end
section
variable{X:Cx}{pins:List (Addr×Obj)}{σ:List (Option V)}{H H':Hp}{s:Shared}{h':Heap}
end
section
variable{X:Cx}
variable{a b:Expr}{ta tb:TE}{pos:Pos}
variable{tA tB':TT}{rest:List Expr}
end
section
variable{X:Cx}{pins:List (Addr×Obj)}{σ:St}{H:Hp}{s:Shared}{a:Addr}{xs ys:List V}
end
section
variable{X:Cx}{pins:List (Addr×Obj)}{σ:St}{H:Hp}{s:Shared}{E:Value→Shared→Prop}
end
section
variable{X:Cx}{st:Stmt}{rest:List Stmt}{t u:TS}{e:Expr}{te:TE}{pos:Pos}
end
section
variable{X:Cx}{pos:Pos}
end
section
variable{X:Cx}{tg:Expr}
end
section
variable{X:Cx}{a b c:Expr}{ta tb tc:TE}{pos:Pos}
end
section
variable{prog:Program}{w:World}{A:Around}{E:Value→Shared→Prop}{s:Shared}{K:W.Frag}{x dx C f:Addr}{mA:Str→Option Value}{name:Str}{v:Value}
end
section
variable{P:Program}{w:World}{H H':Hp}{h h':Heap}{a C dx:Addr}{fs fs':List (Str×V)}
end
section
variable{X:Cx}{pins:List (Addr×Obj)}{σ:St}{H:Hp}{s:Shared}{a C dx:Addr}{fs:List (Str×V)}{f:Str}{v:V}{A:Around}{E:Value→Shared→Prop}
end
section
variable{X:Cx}{o e value:Expr}{f:Str}{pos pos' tpos:Pos}{ta tv:TE}
end
section
variable{X:Cx}{pins:List (Addr×Obj)}{σ:St}{H:Hp}{s:Shared}{A:Around}{E:Value→Shared→Prop}{Q:Value→Shared→Prop}{c:Value}{b:Bool}
end
section
variable{X:Cx}{e:Expr}{es:List Expr}{te:TE}{t:TA}{pos:Pos}
end
section
variable{X:Cx}{pins:List (Addr×Obj)}{σ:St}{H:Hp}{s s':Shared}
end
section
variable{X:Cx}{CX:rj}{k:Nat}{f C:Addr}{fd:FuncData}{ps:List Str}{sp:Sp}{dvs:List V}{ds:List Value}{E:XK}{x m:Str}{p pos apos:Pos}{e o:Expr}{es:List Expr}{ta:TE}{t:TA}
end
section
variable{X:Cx}{CX:rj}{k:Nat}{f C:Addr}{fd:FuncData}{ps ks:List Str}{sp:Sp}{E:XK}{x m:Str}{p pos apos kpos:Pos}{e o:Expr}{es:List Expr}{kws:List Keyword}{te ta:TE}{t tk:TA}{nm:Option Str}
variable{g:List Value→List Value→List Value}{gV:List V→List V→List V}
end
section
variable{X:Cx}{x:Str}{p pos:Pos}{e:Expr}{es:List Expr}{t:TA}{id T:String}{r:List V→Hp→VK→Prop}
end
section
variable{κ:Type}[DecidableEq κ]
noncomputable def iQ (kvs:List (κ×V))(k:κ):Option V:=(kvs.find? fun kv=>decide (kv.1=k)).map (·.2)
noncomputable def fJ (kvs:List (κ×V))(k:κ)(v:V):List (κ×V):=
 if (kvs.any fun kv=>decide (kv.1=k))=true then kvs.map (fun kv=>if kv.1=k then (kv.1,v) else kv) else kvs ++ [(k,v)]
theorem k_ {p:κ×V}{r:List (κ×V)}{k:κ}(e:p.1=k):iQ (p::r) k=some p.2:=by simp[iQ,find?_cons,e]
theorem jl {p:κ×V}{r:List (κ×V)}{k:κ}(e:¬p.1=k):iQ (p::r) k=iQ r k:=by simp[iQ,find?_cons,e]
theorem k9 (k:κ):∀kvs:List (κ×V),(kvs.any fun kv=>decide (kv.1=k))=(iQ kvs k).isSome
 | []=>rfl
 |p::r=>by
  rw[any_cons];by_cases e:p.1=k
  ·simp only[k_ e,decide_eq_true e,Bool.true_or,Option.isSome_some]
  ·rw[jl e,decide_eq_false e,Bool.false_or];exact k9 k r
theorem lV (kvs:List (κ×V))(k:κ)(v:V):(fJ kvs k v).length≤kvs.length+1:=by
 unfold fJ;split
 ·rw[length_map];omega
 ·rw[length_append,length_cons,length_nil];omega
theorem yM {kvs:List (κ×V)}{k:κ}(v:V)(h:iQ kvs k=none):fJ kvs k v=kvs ++ [(k,v)]:=by
 unfold fJ;rw[k9,h];exact if_neg (by decide)
theorem RelO.isSome_eq {o:Option V}{u:Option Value}(r:RelO o u):o.isSome=u.isSome:=by
 cases o with
 |none=>cases u with
  |none=>rfl
  |some _=>exact(show False from r).elim
 |some _=>cases u with
  |none=>exact(show False from r).elim
  |some _=>rfl
theorem KV.val {kvs:List (κ×V)}{vs:List (κ×Value)}(r:KV kvs vs)(k:κ):RelO (iQ kvs k) (valueAt vs k):=by
 unfold KV at r
 induction r with
 |nil=>exact True.intro
 | @cons p q ps qs h t ih=>
  obtain⟨h1,h2⟩:=h;by_cases e:p.1=k
  ·have e':q.1=k:=h1.symm.trans e;have b:valueAt (q::qs) k=some q.2:=by simp[valueAt,find?_cons,e']
   rw[k_ e,b];exact h2
  ·have e':¬q.1=k:=fun z=>e (h1.trans z);have b:valueAt (q::qs) k=valueAt qs k:=by simp[valueAt,find?_cons,e']
   rw[jl e,b];exact ih
theorem KV.any {kvs:List (κ×V)}{vs:List (κ×Value)}(r:KV kvs vs)(k:κ):(kvs.any fun kv=>decide (kv.1=k))=vs.any fun kv=>decide (kv.1=k):=by
 unfold KV at r
 induction r with
 |nil=>rfl
 |cons h t ih=>rw[any_cons,any_cons,ih,h.1]
theorem KV.repl {kvs:List (κ×V)}{vs:List (κ×Value)}(r:KV kvs vs)(k:κ){y:V}{u:Value}(ry:RelV y u) :
  KV (kvs.map fun kv=>if kv.1=k then (kv.1,y) else kv) (vs.map fun kv=>if kv.1=k then (kv.1,u) else kv):=by
 unfold KV at r ⊢
 induction r with
 |nil=>exact .nil
 | @cons p q ps qs h t ih=>
  rw[map_cons,map_cons];refine .cons ?_ ih;obtain⟨h1,h2⟩:=h;by_cases e:p.1=k
  ·rw[if_pos e,if_pos (h1.symm.trans e)];exact⟨h1,ry⟩
  ·rw[if_neg e,if_neg (fun z=>e (h1.trans z))];exact⟨h1,h2⟩
theorem KV.put {kvs:List (κ×V)}{vs:List (κ×Value)}(r:KV kvs vs)(k:κ){y:V}{u:Value}(ry:RelV y u):KV (fJ kvs k y) (stored vs k u):=by
 unfold fJ stored;rw[r.any k];by_cases e:(vs.any fun kv=>decide (kv.1=k))=true
 ·rw[if_pos e,if_pos e];exact r.repl k ry
 ·rw[if_neg e,if_neg e];exact Paired.snoc r ⟨rfl,ry⟩
theorem KV.length {kvs:List (κ×V)}{vs:List (κ×Value)}(r:KV kvs vs):kvs.length=vs.length:=Paired.length r
end
theorem u9 {P:Program}{w:World}{k:bw}{u:Value}(r:RelV (kV k) u):(bG P w).is k u=true:=by
 cases k with
 |inl i=>obtain⟨t,e⟩:=(show ∃t,u=Value.int i t from r);subst e;exact sr P w i t
 |inr x=>obtain⟨t,e⟩:=(show ∃t,u=Value.str x t from r);subst e;exact su P w x t
theorem pq {P:Program}{w:World}:∀{ks:List bw} {us:List Value},Vals (ks.map kV) us→ItemsAre (bG P w) ks us
 | [],_,r=>by rw[map_nil]at r;cases r;exact .nil
 |k::ks,_,r=>by
  rw[map_cons]at r;cases r with
  |cons h t=>exact .cons (u9 h) (pq t)
noncomputable abbrev KT (H:Hp):List (List bw×V)→List (List bw×Addr×Value)→Prop:=Paired fun p q=>p.1=q.1∧H q.2.1=some (.tup (p.1.map kV))∧RelV p.2 q.2.2
theorem KT.val {H:Hp}{kvs:List (List bw×V)}{xs:List (List bw×Addr×Value)}(r:KT H kvs xs)(k:List bw):RelO (iQ kvs k) ((atKey xs k).map (·.2)):=by
 induction r with
 |nil=>exact True.intro
 | @cons p q ps qs h t ih=>
  obtain⟨h1,_,h2⟩:=h;by_cases e:p.1=k
  ·have e':q.1=k:=h1.symm.trans e;have b:atKey (q::qs) k=some q.2:=by simp[atKey,find?_cons,e']
   rw[k_ e,b];exact h2
  ·have e':¬q.1=k:=fun z=>e (h1.trans z);have b:atKey (q::qs) k=atKey qs k:=by simp[atKey,find?_cons,e']
   rw[jl e,b];exact ih
theorem KT.repl {H:Hp}{kvs:List (List bw×V)}{xs:List (List bw×Addr×Value)}(r:KT H kvs xs)(k:List bw){y:V}{u:Value}(ry:RelV y u) :
  KT H (kvs.map fun kv=>if kv.1=k then (kv.1,y) else kv) (xs.map (putAt k u)):=by
 induction r with
 |nil=>exact .nil
 | @cons p q ps qs h t ih=>
  rw[map_cons,map_cons];refine .cons ?_ ih;obtain⟨h1,h2,h3⟩:=h;unfold putAt;by_cases e:p.1=k
  ·rw[if_pos e,if_pos (h1.symm.trans e)];exact⟨h1,h2,ry⟩
  ·rw[if_neg e,if_neg (fun z=>e (h1.trans z))];exact⟨h1,h2,h3⟩
theorem KT.put {H:Hp}{kvs:List (List bw×V)}{xs:List (List bw×Addr×Value)}(r:KT H kvs xs)(k:List bw){b:Addr}{y:V}{u:Value}(hb:H b=some (.tup (k.map kV)))(ry:RelV y u) :
  KT H (fJ kvs k y) (storedH xs k b u):=by
 have e:(kvs.any fun kv=>decide (kv.1=k))=(atKey xs k).isSome:=by
  rw[k9,(r.val k).isSome_eq,isSome_map]
 unfold fJ storedH;rw[e];by_cases q:(atKey xs k).isSome=true
 ·rw[if_pos q,if_pos q];exact r.repl k ry
 ·rw[if_neg q,if_neg q];exact Paired.snoc r ⟨rfl,hb,ry⟩
theorem KT.keeps {H H':Hp}{kvs:List (List bw×V)}{xs:List (List bw×Addr×Value)}(r:KT H kvs xs)(ht:∀b ys,H b=some (.tup ys)→H' b=some (.tup ys)):KT H' kvs xs:=
 Paired.mapP r fun _ _ z=>⟨z.1,ht _ _ z.2.1,z.2.2⟩
section
variable{P:Program}{w:World}{H:Hp}{h:Heap}{a:Addr}
theorem pO {u:HO}(ok:HOk P w H h)(e:Rd H a u):ObjOk P w H h a u:=e.ok ok
theorem uO {kvs:List (bw×V)}(ok:HOk P w H h)(e:Rd H a (.dK kvs)):kvs.length≤sizeLine∧(a==sysModules)=false∧∃vs,KV kvs vs∧h.DictOf (bG P w) a vs:=
 show ObjOk P w H h a (.dK kvs) from pO ok e
theorem DL {kvs:List (bw×V)}(ok:HOk P w H h)(e:H a=some (.dK kvs)):kvs.length≤sizeLine∧(a==sysModules)=false∧∃vs,KV kvs vs∧h.DictOf (bG P w) a vs:=uO ok (.inl e)
theorem qB {ks:List bw}(ok:HOk P w H h)(e:H a=some (.tup (ks.map kV))):(tupleKind (bG P w)).is h ks a:=by
 obtain⟨_,its,r,o,h1,h2,n,h3⟩:=(show ObjOk P w H h a (.tup (ks.map kV)) from ok a _ e);exact⟨o,its.toArray,n,h1,h2,h3,by simpa using pq r⟩
theorem uP {kvs:List (List bw×V)}(ok:HOk P w H h)(e:Rd H a (.dT kvs)):kvs.length≤sizeLine∧(a==sysModules)=false∧
  ∃xs,KT H kvs xs∧h.DictOfH (tupleKind (bG P w)) a xs:=by
 obtain⟨z,y,xs,r,o,es,ep,h1,h2,h3,h4,h5⟩:=(show ObjOk P w H h a (.dT kvs) from pO ok e);refine⟨z,y,xs,r,o,es,ep,h1,h2,h3,h4,fun x hx=>?_,h5⟩;have all:∀{l:List (List bw×V)} {m:List (List bw×Addr×Value)},KT H l m→∀x∈m,(tupleKind (bG P w)).is h x.1 x.2.1:=by
  intro l m q
  induction q with
  |nil=>intro x hx;exact nomatch hx
  | @cons p q ps qs hq t ih=>
   intro x hx
   rcases mem_cons.mp hx with e|hx
   ·subst e;exact qB ok (by rw[←hq.1];exact hq.2.1)
   ·exact ih x hx
 exact all r x hx
theorem DM {kvs:List (List bw×V)}(ok:HOk P w H h)(e:H a=some (.dT kvs)):kvs.length≤sizeLine∧(a==sysModules)=false∧
  ∃xs,KT H kvs xs∧h.DictOfH (tupleKind (bG P w)) a xs:=uP ok (.inl e)
end
noncomputable def zm (H:Hp)(a:Addr)(y:V)(r:Option V):Prop:=
 (∃kvs k,Rd H a (.dK kvs)∧y=kV k∧r=iQ kvs k)∨∃kvs k b,Rd H a (.dT kvs)∧y= .ref b∧H b=some (.tup (k.map kV))∧r=iQ kvs k
noncomputable def Dy (H:Hp)(a:Addr)(y v:V)(H':Hp):Prop:=
 (∃kvs k,H a=some (.dK kvs)∧y=kV k∧kvs.length<sizeLine∧H'=a9 H a (.dK (fJ kvs k v)))∨
 ∃kvs k b,H a=some (.dT kvs)∧y= .ref b∧H b=some (.tup (k.map kV))∧kvs.length<sizeLine∧H'=a9 H a (.dT (fJ kvs k v))
section
variable{X:Cx}{pins:List (Addr×Obj)}{σ:St}{H:Hp}{s:Shared}{a:Addr}{y v:V}{u r:Value}{o:Option V}{A:Around}{E:Value→Shared→Prop}
theorem Inv.big (I:Inv X pins σ H s):sysModules<s.heap.objs.size:=by
 have h:mainGlobals<s.heap.objs.size:=(I.mod.glob.keeps I.bk).lt;exact Nat.lt_trans (by decide) h
theorem vP {Q:Value→Shared→Prop}(hu:A.units+1<cLine)(I:Inv X pins σ H s)(g:zm H a y (some v))(ry:RelV y u)(h:∀w' s',Inv X pins σ H s'→RelV v w'→Q w' s') :
  wpAny (model X.prog X.w) A (getItem (.ref a) u) Q E s:=by
 rcases g with ⟨kvs,k,e,ey,l⟩|⟨kvs,k,b,e,ey,eb,l⟩
 ·subst ey;obtain⟨z,hd,vs,rel,dd⟩:=uO I.hok e;obtain⟨w',hw,rw'⟩:=RelO.some_of (v:=v) (o:=valueAt vs k) (by rw[l];exact rel.val k);exact wpAny_getItem_of (u9 ry) dd.mapOf hw (h w' _ (I.tok _) rw')
 ·subst ey;cases (show u=Value.ref b from ry);obtain⟨z,hd,xs,rel,dd⟩:=uP I.hok e;obtain⟨w',hw,rw'⟩:=RelO.some_of (v:=v) (o:=(atKey xs k).map (·.2)) (by rw[l];exact rel.val k);obtain⟨p,hp,hp2⟩:=Option.map_eq_some_iff.mp hw;refine wpAny_getItem_heap (tupleKind_room_in1 hu) (qB I.hok eb) dd hp ?_;rw[hp2];exact h w' _ (I.tok _) rw'
theorem zA {Q:Value→Shared→Prop}(hu:A.units+1<cLine)(I:Inv X pins σ H s)(g:zm H a y o)(ry:RelV y u)(h:∀s',Inv X pins σ H s'→Q (.bool (!o.isSome)) s') :
  wpAny (model X.prog X.w) A (compareOp .NotIn u (.ref a)) Q E s:=by
 rcases g with ⟨kvs,k,e,ey,l⟩|⟨kvs,k,b,e,ey,eb,l⟩
 ·subst ey;obtain⟨z,hd,vs,rel,dd⟩:=uO I.hok e;refine wpAny_notIn_of (u9 ry) hd dd.mapOf ?_;rw[←(rel.val k).isSome_eq,←l];exact h _ (I.tok _)
 ·subst ey;cases (show u=Value.ref b from ry);obtain⟨z,hd,xs,rel,dd⟩:=uP I.hok e;refine wpAny_notIn_heap (tupleKind_room_in1 hu) (qB I.hok eb) hd dd ?_;have q:=(rel.val k).isSome_eq;rw[isSome_map]at q;rw[←q,←l];exact h _ (I.tok _)
theorem uM {h':Heap}{t':Nat}{ob:HO}(I:Inv X pins σ H s)(mu:DA (H a))(hs:Heap.SameBut a s.heap h')(he:∃q,h'.get? a=some q)(new:ObjOk X.prog X.w (a9 H a ob) h' a ob) :
  Inv X pins σ (a9 H a ob) {s with heap:=h',toks:=t'}:=
 I.write (x:=a) (e:=a) mu (.inl rfl) (fun b q hb z=>(hs.2 b hb).trans z) he new
theorem B2 {P:Program}{w:World}{H':Hp}{h':Heap}{kvs:List (bw×V)}{vs:List (bw×Value)}(z:kvs.length≤sizeLine)(hd:(a==sysModules)=false)(rel:KV kvs vs)(dd:h'.DictOf (bG P w) a vs) :
  ObjOk P w H' h' a (.dK kvs):=⟨z,hd,vs,rel,dd⟩
theorem vQ {H':Hp}{Q:Unit→Shared→Prop}(hu:A.units+1<cLine)(I:Inv X pins σ H s)(g:Dy H a y v H')(ry:RelV y u)(rv:RelV v r)(h:∀s',Inv X pins σ H' s'→Q () s') :
  wpAny (model X.prog X.w) A (setItem (.ref a) u r) Q E s:=by
 rcases g with ⟨K,k,e,ey,l,eH⟩|⟨K,k,b,e,ey,eb,l,eH⟩
 ·subst ey eH;obtain⟨z,hd,vs,J,dd⟩:=DL I.hok e;have hz:vs.length≤sizeLine:=by rw[←J.length];exact z
  have hl:(fJ K k v).length≤sizeLine:=by have:=lV K k v;omega
  refine wpAny_setItem_pairs (hsz:=hz) (u9 ry) dd fun h' L hs=>h _ ?_;have he:∃q,h'.get? a=some q:=let ⟨q,_,_,hq,_⟩:=L;⟨q,hq⟩
  exact uM I (by rw[e];exact True.intro) hs he (B2 hl hd (J.put k rv) L)
 ·subst ey eH;cases (show u=Value.ref b from ry);obtain⟨z,hd,xs,J,dd⟩:=DM I.hok e;have hz:xs.length≤sizeLine:=by rw[←Paired.length J];exact z
  have hl:(fJ K k v).length≤sizeLine:=by have:=lV K k v;omega
  refine wpAny_setItem_heap (hsz:=hz) (tupleKind_room_in1 hu) (qB I.hok eb) dd fun h' L hs=>h _ ?_;obtain⟨q,es,ep,hq,h2,h3,h4,_,h5⟩:=L;refine uM I (by rw[e];exact True.intro) hs ⟨q,hq⟩ ⟨hl,hd,_,(J.put k eb rv).keeps fun c ys ec=>?_,q,es,ep,hq,h2,h3,h4,h5⟩;rw[ak (Ee ec e (fun z=>nomatch z))]
  exact ec
end
section
variable{X:Cx}{pins:List (Addr×Obj)}{σ:St}{H:Hp}{s:Shared}{a:Addr}{kvs:List (bw×V)}{k:bw}{u:Value}{A:Around}{E:Value→Shared→Prop}
end
noncomputable def zn (i:Expr):Prop:=∀ov iv,subscripted i false ov iv=operate [ov,iv] (getItem ov iv)
theorem Ba {prog:Program}{w:World}{A:Around}{E:Value→Shared→Prop}{s:Shared}{env:Env}{value slice:Expr}{pos:Pos}{T id:String}{Q:Value→Shared→Prop}
  (hl:typeLookup (.type T) "__getitem__" =pure (some (.builtin id))) (hs:zn slice)
  (h:wpAny (model prog w) A (eval value env) (fun o s₁=>wpAny (model prog w) A (eval slice env) (fun i s₂=>s₂.TypeIs o T∧wpAny (model prog w) A (getItem o i) Q E s₂) E s₁) E s) :
  wpAny (model prog w) A (eval (.Subscript value slice pos) env) Q E s:=by
 refine Subscript_ (wpAny_mono h (fun o s₁ h₁=>wpAny_mono h₁ (fun i s₂ K=>?_) fun _ _ x=>x) fun _ _ x=>x);obtain⟨hT,K⟩:=K;unfold subscriptTail;refine wpAny_bind ?_;rw[getitemInPython_of_ne hT.not_modules];refine wpAny_bind (wpAny_specialOf hT hl ?_);have fin:wpAny (model prog w) A (subscripted slice false o i) (fun r s₃=>wpAny (model prog w) A (letTemporaryGo value o r >>= fun _=>pure r) Q E s₃) E s₂:=by
  rw[hs o i];exact wpAny_operating (wpAny_mono K (fun r s₃ h₃=>wpAny_bind (wpAny_letTemporaryGo (wpAny_pure h₃))) fun _ _ x=>x)
 first
  |exact wpAny_pure (wpAny_bind fin)
  |exact wpAny_bind (wpAny_pure (wpAny_bind fin))
  |exact wpAny_bind fin
theorem rJ {X:Cx}{pins:List (Addr×Obj)}{σ:St}{H:Hp}{s:Shared}{a:Addr}{y:V}{o:Option V}(I:Inv X pins σ H s)(g:zm H a y o):s.TypeIs (.ref a) "dict" :=by
 rcases g with ⟨kvs,k,e,_,_⟩|⟨kvs,k,b,e,_,_,_⟩
 ·obtain⟨_,_,vs,_,dd⟩:=uO I.hok e;exact dd.typeIs
 ·obtain⟨_,_,xs,_,dd⟩:=uP I.hok e;exact dd.typeIs
noncomputable def BJ (td ty:TE):TE:=fun σ H Q=>td σ H fun x H1=>ty σ H1 fun y H2=>∃a v,x= .ref a∧zm H2 a y (some v)∧Q v H2
noncomputable def Ey (td ty tv:TE):TS:=fun D σ H=>tv σ H fun v H1=>td σ H1 fun x H2=>ty σ H2 fun y H3=>∃a H4,x= .ref a∧Dy H3 a y v H4∧D.nx σ H4
section
variable{X:Cx}{o i e value:Expr}{pos pos' tpos:Pos}{td ty tv:TE}
theorem vn (hu:X.A.units+1<cLine)(ho:PE X o td)(hi:PE X i ty)(hs:zn i):PE X (.Subscript o i pos) (BJ td ty):=by
 intro pins s σ H Q I h;refine Ba PySem.F.slot_dict_getitem.lookup hs (aW (ho pins s σ H _ I h) fun u s1 ⟨x,H1,I1,rx,q1⟩=>aW (hi pins s1 σ H1 _ I1 q1) fun iv s2 hZ71=>?_);obtain⟨y,H2,I2,ry,a,v,ex,g,q2⟩:=hZ71;subst ex;obtain rfl:u=Value.ref a:=rx;exact⟨rJ I2 g,vP hu I2 g ry fun w' s3 I3 rw'=>⟨v,H2,I3,rw',q2⟩⟩
theorem AT (hu:X.A.units+1<cLine)(ho:PE X o td)(hi:PE X i ty)(hv:PE X value tv)(hs:swapsWith value (some (.Subscript o i pos')) pos.line X.env=pure false) :
  PS X (.Assign [.Subscript o i pos'] value pos) (Ey td ty tv):=by
 intro w s σ H D I h;refine wpAny_Assign_Subscript (aW (hv w s σ H _ I h) fun r s1 ⟨v,H1,I1,rv,q1⟩=>aW (ho w s1 σ H1 _ I1 q1) fun u s2 ⟨x,H2,I2,rx,q2⟩=>aW (hi w s2 σ H2 _ I2 q2) fun iv s3 hZ74=>?_) hs;obtain⟨y,H3,I3,ry,a,H4,ex,g,q3⟩:=hZ74;subst ex;obtain rfl:u=Value.ref a:=rx;exact vQ hu I3 g ry rv fun s4 I4=>⟨σ,H4,I4,q3⟩
end
theorem xw {P:Program}{w:World}{H:Hp}(h:Heap)(hb:sysModules<h.objs.size):ObjOk P w H (h.push {cls:=.type "dict",data:=.dict #[]}) h.objs.size (.dT []):=
 ⟨zero_le _,beq_eq_false_iff_ne.mpr (Ne.symm (ne_of_lt hb)),[],.nil,_,#[],0,Heap.get?_push_size _ rfl,⟨rfl,rfl,rfl⟩,rfl,rfl,nodup_nil⟩
noncomputable def Dl:TE:=fun _ H Q=>∀p,H p=none→Q (.ref p) (a9 H p (.dT []))
section
variable{X:Cx}{pos:Pos}
theorem yr:PE X (.Dict [] [] pos) Dl:=fun pins s σ H Q I h=>
 wpAny_Dict_empty ⟨.ref s.heap.objs.size,_,I.laid (a:=s.heap.objs.size) (o:=.dT []) (t':=s.toks) (fun _ _ q=>Heap.get?_push_of_some _ q) (le_refl _) (xw s.heap I.big),rfl,h _ (I.hok.fresh (le_refl _))⟩
end
section
variable{X:Cx}{pins:List (Addr×Obj)}{σ:St}{H:Hp}{s:Shared}{a:Addr}{y d:V}{u r:Value}{o:Option V}{A:Around}{E:Value→Shared→Prop}
end
section
variable{X:Cx}{o e f:Expr}{apos cpos:Pos}{td ty tx:TE}
end
section
variable{X:Cx}{pins:List (Addr×Obj)}{σ:St}{H:Hp}{s:Shared}{a:Addr}{kvs:List (bw×V)}{A:Around}{E:Value→Shared→Prop}
end
section
variable{X:Cx}{pins:List (Addr×Obj)}{σ:St}{H:Hp}{s:Shared}{a:Addr}{y:V}{u:Value}{A:Around}{E:Value→Shared→Prop}
end
end L2
namespace Att
open PySem PySem.W PySem.Calls PyProof.Rows
section
variable{prog:Program}{w:World}{A:Around}{E:Value→Shared→Prop}{s:Shared}{K:Frag}
end
end Att
namespace L2
open PySem PySem.Spec PyProof.Rows
section
variable{P:Program}{w:World}{K:W.Frag}{mg:Str→Option Value}{base:Heap}
end
section
variable{X:Cx}
end
section
variable{κ:Type}[DecidableEq κ]
end
theorem Un.onto {fs:List Addr}{H H':Hp}{h h1 h2:Heap}(u:Un fs [] H H' h h1)
  (k:∀b o,h1.get? b=some o→b∉fs→(∃o',h.get? b=some o')→h2.get? b=some o)
  (sl:∀b o,h1.get? b=some o→b∈fs→(∃o',h.get? b=some o')→∃s,h2.get? b=some {o with slots:=s}):Un fs [] H H' h h2 where
 keep:=fun b o e n hb hx=>k b o (u.keep b o e n hb hx) hb ⟨o,e⟩
 slot:=fun b o e n hb hx=>by
  obtain⟨s1,e1⟩:=u.slot b o e n hb hx;obtain⟨s2,e2⟩:=sl b _ e1 hb ⟨o,e⟩;exact⟨s2,e2⟩
 free:=u.free
 there:=fun b o e hx=>by
  obtain⟨o',e'⟩:=u.there b o e hx;by_cases hb:b∈fs
  ·obtain⟨s,z⟩:=sl b o' e' hb ⟨o,e⟩;exact⟨_,z⟩
  ·exact⟨o',k b o' e' hb ⟨o,e⟩⟩
 tups:=u.tups
 frzs:=u.frzs
 tbls:=u.tbls
theorem HOk.onto {P:Program}{w:World}{H:Hp}{h1 h2:Heap}(x:HOk P w H h1)(k:∀b o u,H b=some u→h1.get? b=some o→h2.get? b=some o):HOk P w H h2:=fun a o e=>
 (x a o e).stay (fun b u hb q=>by
  rcases hb with rfl|hb
  ·exact k b u _ e q
  ·exact k b u _ hb q) (fun _ q=>q) fun _ _ q=>q
theorem ObjOk.at {P:Program}{w:World}{H:Hp}{h:Heap}{a:Addr}{o:HO}(x:ObjOk P w H h a o):∃ob,h.get? a=some ob:=by
 cases o with
 |lst xs=>obtain⟨_,_,_,_,e⟩:=x;exact⟨_,e⟩
 |tup xs=>obtain⟨_,_,_,p⟩:=x;obtain⟨o,e,_⟩:=p;exact⟨o,e⟩
 |dK kvs=>obtain⟨_,_,_,_,o,_,_,e,_⟩:=x;exact⟨o,e⟩
 |dT kvs=>obtain⟨_,_,_,_,o,_,_,e,_⟩:=x;exact⟨o,e⟩
 |set S n=>obtain⟨o,_,_,_,e,_⟩:=x;exact⟨o,e⟩
 |ins C dx fs=>obtain⟨_,_,_,e,_⟩:=x;exact⟨_,e⟩
 |own y=>exact x
 |xd fs=>obtain⟨_,⟨o,_,_,e,_⟩,_⟩:=x;exact⟨o,e⟩
 |rng lo hi=>obtain⟨_,_,_,e⟩:=x;exact⟨_,e⟩
 |frz ob u=>obtain⟨e,_⟩:=x;exact⟨ob,e⟩
 |tbl ps=>exact⟨_,(show h.get? a=some _ from x)⟩
 |met f y=>exact⟨_,(show h.get? a=some _ from x)⟩
 |ext φ=>obtain⟨_,e,_⟩:=x;exact e
inductive CXF (P:Program)(w:World)(outer:List Env)(H:Hp)(s:Shared)(E:XK)(ev:Value)(s':Shared):Prop
 |mk (e:Addr) (cls a0:Value) (B:Heap) (H':Hp) (h1:ev= .ref e) (h2:s'.os=s.os) (h3:AllBare s'.gens)
  (h4:Un (fx outer) [] H H' s.heap s'.heap) (h5:HOk P w H' s'.heap) (h6:Heap.FlyingW B outer e cls a0 s'.heap)
  (h7:∀b o,s'.heap.get? b=some o→b∉fx outer→((∃u,H' b=some u)∨∃o',s.heap.get? b=some o')→B.get? b=some o)
  (h8:H' e=none) (h9:s.heap.get? e=none) (q:E cls none H')
section
variable{X:Cx}{pins:List (Addr×Obj)}{σ:St}{H:Hp}{s:Shared}
theorem Inv.noFields (I:Inv X pins σ H s){b:Addr}(hb:b∈fx X.stack){o:Obj}(e:s.heap.get? b=some o):∀vs,o.data≠ .fields vs:=by
 obtain⟨_,o',e',h⟩:=I.stack.mem hb;rw[e]at e';cases e';exact h
theorem iW {P:Program}{w:World}{K:W.Frag}{mg:Str→Option Value}{base:Heap}{N:List Str}{qual:Str}{scope:Scope}{f:Addr}{cd:Value}{A:Around}{outer:List Env}{s₀:Shared}{H₀:Hp}{E E':XK}
  (he:∀c a H,E' c a H→E c a H) :
  cQ (CXF P w) (oE (CXF P w) P w K mg base N qual scope f cd A outer s₀ H₀ E) E':=by
 intro pins σ H s ev s' I h;obtain⟨e,cls,a0,B,H',rfl,os,bare,un,hok,fl,cov,hn,hs,q⟩:=h;have T:∀{b:Addr} {o:Obj},s₀.heap.get? b=some o→b≠s₀.heap.objs.size:=fun e=>ne_of_lt (Heap.lt_size e);have L:fx (envOfC qual scope s₀.heap.objs.size f cd::outer)=s₀.heap.objs.size::fx outer:=rfl;have hfr:∀b∈fx (envOfC qual scope s₀.heap.objs.size f cd::outer),∀o,s'.heap.get? b=some o→∀vs,o.data≠ .fields vs:=fun b p o eo=>by
  obtain⟨_,o',e',h⟩:=fl.2.2.1.mem p;rw[eo]at e';cases e';exact h
 have Ib:=I.base;have S:∀b:Addr,b∉(oE (CXF P w) P w K mg base N qual scope f cd A outer s₀ H₀ E).ex:=fun b z=>absurd (show b∈([]:List Addr) from z) (by simp);have nL:H' s₀.heap.objs.size=none:=by
  obtain⟨m,⟨o,_,_,ho,_⟩,_⟩:=I.loc;exact un.free _ o ho I.free (by simp)
 show wpAny _ _ (leaving _ (.ref e)) _ _ s';refine wpAny_leaves_onW (base:=B) I.ok.frames rfl fl fun h2 fl2 up=>?_;have M:∀b o,s'.heap.get? b=some o→b∉fx outer→b≠s₀.heap.objs.size→((∃u,H' b=some u)∨∃o',s.heap.get? b=some o')→h2.get? b=some o:=fun b o i nb nl hh=>
  fl2.1 b o (cov b o i (by show b∉s₀.heap.objs.size::fx outer;simp[nl,nb]) hh)
 have U:∀b o,s'.heap.get? b=some o→b∈fx outer→∃sl,h2.get? b=some {o with slots:=sl}:=fun b o i p=>
  up b o i (hfr b (by rw[L];exact eB p) o i)
 have Q:∀b o,s₀.heap.get? b=some o→∃R,s.heap.get? b=some R:=fun b o O=>Ib.there b o O (S b);have hUn:Un (fx outer) [] H₀ H' s₀.heap h2:={
  keep:=fun b o O n p _=>by
   have i:=Ib.keep b o O n p (S b);have n1:=Ib.free b o O n (S b);have hb2:b∉fx (envOfC qual scope s₀.heap.objs.size f cd::outer):=by rw[L];simp[T O,p]
   exact M b o (un.keep b o i n1 hb2 (by simp)) p (T O) (.inr ⟨o,i⟩)
  slot:=fun b o O n p _=>by
   obtain⟨s1,i⟩:=Ib.slot b o O n p (S b);have n1:=Ib.free b o O n (S b);obtain⟨s2,r⟩:=un.any i n1 (by simp);obtain⟨s3,e3⟩:=U b _ r p;exact⟨s3,e3⟩
  free:=fun b o O n _=>by
   obtain⟨R,i⟩:=Q b o O;exact un.free b R i (Ib.free b o O n (S b)) (by simp)
  there:=fun b o O _=>by
   obtain⟨R,i⟩:=Q b o O;obtain⟨o2,r⟩:=un.there b R i (by simp);by_cases p:b∈fx outer
   ·obtain⟨s3,e3⟩:=U b o2 r p;exact⟨_,e3⟩
   ·exact⟨o2,M b o2 r p (T O) (.inr ⟨R,i⟩)⟩
  tups:=fun b xs q=>un.tups b xs (Ib.tups b xs q)
  frzs:=fun b o u q=>un.frzs b o u (Ib.frzs b o u q)
  tbls:=fun b ps q=>by
   obtain⟨m1,i⟩:=Ib.tbls b ps q;obtain⟨m2,r⟩:=un.tbls b _ i;exact⟨m1 ++ m2,by rw[r,Array.append_assoc]⟩}
 have frf':∀b u,H' b=some u→b∉fx outer∧b≠s₀.heap.objs.size:=fun b u i=>by
  refine⟨fun p=>?_,fun z=>by rw[z,nL]at i;cases i⟩;have n0:H b=none:=I.stkFree b (by show b∈fx (envOfC qual scope s₀.heap.objs.size f cd::outer);rw[L];exact eB p);obtain⟨_,o,eo,_⟩:=I.stack.mem (show b∈fx (envOfC qual scope s₀.heap.objs.size f cd::outer) by rw[L];exact eB p);rw[un.free b o eo n0 (by simp)]at i;cases i
 have hok2:HOk P w H' h2:=hok.onto fun b o u p eo=>M b o eo (frf' b u p).1 (frf' b u p).2 (.inl ⟨u,p⟩);have cov2:∀b o,h2.get? b=some o→b∉fx outer→((∃u,H' b=some u)∨∃o',s₀.heap.get? b=some o')→B.get? b=some o:=fun b o r p hh=>by
  rcases hh with ⟨u,hu⟩|⟨o0,O⟩
  ·obtain⟨R,i⟩:=(hok b u hu).at;have z:=M b R i (frf' b u hu).1 (frf' b u hu).2 (.inl ⟨u,hu⟩);rw[r]at z;cases z;exact cov b o i (by show b∉s₀.heap.objs.size::fx outer;simp[p,(frf' b u hu).2]) (.inl ⟨u,hu⟩)
  ·obtain⟨R,i⟩:=Q b o0 O;obtain⟨o2,e3⟩:=un.there b R i (by simp);have z:=M b o2 e3 p (T O) (.inr ⟨R,i⟩);rw[r]at z;cases z;exact cov b o e3 (by show b∉s₀.heap.objs.size::fx outer;simp[p,T O]) (.inr ⟨R,i⟩)
 refine⟨e,cls,a0,B,H',rfl,os.trans I.os,bare,hUn,hok2,fl2,cov2,hn,?_,he _ _ _ q⟩;cases z:s₀.heap.get? e with
 |none=>rfl
 |some o=>
  obtain⟨R,i⟩:=Q e o z;rw[hs]at i;cases i
end
abbrev DH:List Value:=[.type "ValueError",.type "Exception",.type "BaseException",.type "object"]
inductive ExIn (K:W.Frag)(C:Addr):Prop
 |mk (bm:List Value) (N:Addr) (nm q:Str) (bs:List Value) (hd:Bool) (sn:List Str) (sub:List Value) (ab:Bool) (col:Option Bool) (dd:Option Addr) (k0 k1 k2 k3 k5:Option Value) (l:K.lookup C=some (excClassObj nm q C N bs bm hd sn sub ab col dd k0 k1 k2 k3 k5 "ValueError.__new__")) (ok:W.nsOkIn K N=true) (ni:W.nsIn K N "__init__" =some none) (ht:W.tailIn K DH bm=true)
structure ExcC (K:W.Frag)(mg:Str→Option Value)(x:Str)(C:Addr):Prop where
 mgx:mg x=some (.ref C)
 ein:ExIn K C
theorem Aa {K:W.Frag}{C:Addr}{h₀:Heap}(X:K.In h₀):ExIn K C→
  ∃bm N nm q bs hdct sn sub ab col dd k0 k1 k2 k3 k5 mN,h₀.get? C=some (excClassObj nm q C N bs bm hdct sn sub ab col dd k0 k1 k2 k3 k5 "ValueError.__new__")∧h₀.Ns N mN∧mN "__init__" =none∧OwnTail h₀ DH bm
 |⟨bm,N,nm,q,bs,hd,sn,sub,ab,col,dd,k0,k1,k2,k3,k5,l,ok,ni,ht⟩=>⟨bm,N,nm,q,bs,hd,sn,sub,ab,col,dd,k0,k1,k2,k3,k5,_,X _ _ l,.of_isNs (W.isNs_of_in X ok),W.nsMap_none_of_in X ok ni,W.tail_of_in X ht⟩
noncomputable def mL (X:Cx)(E:XK):Prop:=∀(pins:List (Addr×Obj)) (σ:St) (H:Hp) (s:Shared) (e C:Addr) (h':Heap) (args:List Value),Inv X pins σ H s→Heap.MadeExcOf s.heap h' e (.ref C) args→E (.ref C) none H→X.xe (.ref e) {s with heap:=h'}
theorem wI {P:Program}{w:World}{K:W.Frag}{mg:Str→Option Value}{base:Heap}{N:List Str}{qual:Str}{scope:Scope}{f:Addr}{cd:Value}{A:Around}{outer:List Env}{s₀:Shared}{H₀:Hp}{E E':XK}
  (he:∀c a H,E' c a H→E c a H):mL (oE (CXF P w) P w K mg base N qual scope f cd A outer s₀ H₀ E) E':=by
 intro pins σ H s e C h' args I hx q;have L:fx (envOfC qual scope s₀.heap.objs.size f cd::outer)=s₀.heap.objs.size::fx outer:=rfl;have hin:∀env∈(envOfC qual scope s₀.heap.objs.size f cd::outer),∀b,env.frame=some b→b∈fx (envOfC qual scope s₀.heap.objs.size f cd::outer):=fun env he b p=>mem_filterMap.mpr ⟨env,he,p⟩;have R:∀b:Addr,b∉(oE (CXF P w) P w K mg base N qual scope f cd A outer s₀ H₀ E).ex:=fun b z=>absurd (show b∈([]:List Addr) from z) (by simp);have hlt:∀{b:Addr} {o:Obj},s₀.heap.get? b=some o→b≠s₀.heap.objs.size:=fun e=>ne_of_lt (Heap.lt_size e);have Ib:=I.base;show wpAny _ _ (leaving _ (.ref e)) _ _ _;refine wpAny_leaves_madeW (base:=W.hideAll s.heap (fx (envOfC qual scope s₀.heap.objs.size f cd::outer))) (h:=s.heap) (s:={s with heap:=h'}) I.ok.frames rfl (fun b o q=>W.of_hideAll _ q) (W.funFrames_hide I.stack hin) hx fun h2 t fl tup tn up=>?_
 have M:∀b o,s.heap.get? b=some o→b∉fx outer→b≠s₀.heap.objs.size→h2.get? b=some o:=fun b o i nb nl=>
  fl.1 b o (W.hideAll_get _ i (by rw[L];simp[nl,nb]))
 have S:∀b o,s.heap.get? b=some o→b∈fx outer→∃sl,h2.get? b=some {o with slots:=sl}:=fun b o i p=>
  up b o (hx.keeps b o i) (I.noFields (show b∈fx (envOfC qual scope s₀.heap.objs.size f cd::outer) by rw[L];exact eB p) i)
 have frf':∀b u,H b=some u→b∉fx outer∧b≠s₀.heap.objs.size:=fun b u i=>by
  refine⟨fun p=>?_,fun z=>?_⟩
  ·rw[I.stkFree b (show b∈fx (envOfC qual scope s₀.heap.objs.size f cd::outer) by rw[L];exact eB p)]at i;cases i
  ·rw[z,show H s₀.heap.objs.size=none from I.free]at i;cases i
 refine⟨e,.ref C,.ref t,_,H,rfl,I.os,I.bare,?_,?_,fl,?_,?_,?_,he _ _ _ q⟩
 ·exact {
   keep:=fun b o O n p _=>M b o (Ib.keep b o O n p (R b)) p (hlt O)
   slot:=fun b o O n p _=>by
    obtain⟨s1,i⟩:=Ib.slot b o O n p (R b);obtain⟨s2,e2⟩:=S b _ i p;exact⟨s2,e2⟩
   free:=fun b o O n _=>Ib.free b o O n (R b)
   there:=fun b o O _=>by
    obtain⟨Q,i⟩:=Ib.there b o O (R b);by_cases p:b∈fx outer
    ·obtain⟨s3,e3⟩:=S b Q i p;exact⟨_,e3⟩
    ·exact⟨Q,M b Q i p (hlt O)⟩
   tups:=Ib.tups
   frzs:=Ib.frzs
   tbls:=Ib.tbls}
 ·exact I.hok.onto fun b o u p eo=>M b o eo (frf' b u p).1 (frf' b u p).2
 ·intro b o e2 p hh;have main:∀Q,s.heap.get? b=some Q→b≠s₀.heap.objs.size→(W.hideAll s.heap (fx (envOfC qual scope s₀.heap.objs.size f cd::outer))).get? b=some o:=fun Q i nl=>by
   have z:=M b Q i p nl;rw[e2]at z;cases z;exact W.hideAll_get _ i (by rw[L];simp[nl,p])
  rcases hh with ⟨u,hu⟩|⟨o0,O⟩
  ·obtain⟨Q,i⟩:=(I.hok b u hu).at;exact main Q i (frf' b u hu).2
  ·obtain⟨Q,i⟩:=Ib.there b o0 O (R b);exact main Q i (hlt O)
 ·cases z:H e with
  |none=>rfl
  |some u=>
   obtain⟨Q,i⟩:=(I.hok e u z).at;rw[hx.new]at i;cases i
 ·cases z:s₀.heap.get? e with
  |none=>rfl
  |some o=>
   obtain⟨Q,i⟩:=Ib.there e o z (R e);rw[hx.new]at i;cases i
section
variable{X:Cx}
noncomputable def Dm (t:TA)(C:Addr)(E:XK):TS:=fun _ σ H=>t σ H fun vs H1=>vs.length≤sizeLine∧E (.ref C) none H1
theorem yL {x:Str}{np cpos pos:Pos}{e:Expr}{es:List Expr}{t:TA}{C:Addr}{E:XK}(hR:mL X E)(hc:X.calm=true)(G:ExcC X.K X.mg x C)(hg:Gl X x)(ha:PA X (e::es) t)
  (he:starEach (e::es) X.env=(false,eval e X.env)::starEach es X.env:=by rfl) (hpl:(backTo cpos (starEach es X.env)).any (·.1)=false:=by rfl) (hdb:(x==("__debug__" :Str))=false:=by decide) :
  PS X (.Raise (some (.Call (.Name x np) (e::es) [] cpos)) none pos) (Dm t C E):=by
 intro pins s σ H D I h;obtain⟨tl,N,nm,q,bs,hdct,sn,sub,ab,col,dd,k0,k1,k2,k3,k5,mN,hC,hN,hni,T⟩:=Aa I.ok.mod.kin G.ein;refine wpAny_Raise_call_subT (C:=C) (nm:=nm) (q:=q) (N:=N) (bs:=bs) (bm:=tl) (hdct:=hdct) (sn:=sn) (sub:=sub) (ab:=ab) (col:=col) (dd:=dd) (k0:=k0) (k1:=k1) (k2:=k2) (k3:=k3) (k5:=k5)
  PySem.F.excBase_ValueError (mN:=mN) (T.hasType PySem.F.excBase_ValueError.hasBase) (I.ok.hd hc) (by rw[he];show (false||(backTo cpos (starEach es X.env)).any (·.1))=false;rw[hpl];rfl) hni (jB I hg G.mgx ⟨rfl,?_⟩ hdb)
 have h2:=ha cpos pins s σ H _ I h;rw[he]at h2 ⊢;exact Calls.evalArgs_plain (wpAny_mono h2 (fun us s₂ hZ75=>(by obtain⟨vs,H1,I1,r,q1,q2⟩:=hZ75;exact⟨rfl,by rw[←r.length];exact q1,I1.bk _ _ hC,hN.keeps I1.bk,T.keeps I1.bk,fun h' e hm=>hR pins σ H1 s₂ e C h' us I1 hm q2⟩)) fun _ _ y=>y)
end
section
variable{X:Cx}{pins:List (Addr×Obj)}{σ:St}{H H':Hp}{s:Shared}
noncomputable abbrev Ef (X:Cx):St:=replicate X.N.length none
theorem Inv.forget (I:Inv X pins σ H s){h':Heap}{m':Str→Option Value}{t':Nat}(hs:Heap.SameBut X.env.locals s.heap h')(hn:h'.Ns X.env.locals m'):Inv X pins (Ef X) H {s with heap:=h',toks:=t'}:=by
 have ne:∀{b:Addr} {o:Obj},X.s₀.heap.get? b=some o→b≠X.env.locals:=fun e=>ne_of_lt (lt_of_lt_of_le (Heap.lt_size e) I.ok.above);refine⟨I.ok,I.os,I.bare,⟨fun b o e n hb hx=>(hs.2 b (ne e)).trans (I.base.keep b o e n hb hx),fun b o e n hb hx=>?_,I.base.free,fun b o e hx=>?_,I.base.tups,I.base.frzs,I.base.tbls⟩,⟨m',hn,fun j y v e1 e2 e3=>?_⟩,fun y c e=>?_,I.free,I.freeC,fun p hp=>?_,?_,by simp[Ef]⟩
 ·obtain⟨sl,e1⟩:=I.base.slot b o e n hb hx;exact⟨sl,(hs.2 b (ne e)).trans e1⟩
 ·obtain⟨o',e1⟩:=I.base.there b o e hx;exact⟨o',(hs.2 b (ne e)).trans e1⟩
 ·rw[List.getElem?_replicate]at e2;split at e2 <;> cases e2
 ·obtain⟨w',z⟩:=I.cell y c e;exact⟨w',z.sameBut hs (I.cne y c e)⟩
 ·obtain⟨e,n,nl,nf,d⟩:=I.pin p hp;exact⟨(hs.2 p.1 nl).trans e,n,nl,nf,d⟩
 ·exact I.hok.onto fun b o u hb eo=>(hs.2 b fun z=>by rw[z,I.free]at hb;cases hb).trans eo
noncomputable abbrev Cx.inH (X:Cx)(e:Addr)(E:Value→Shared→Prop):Cx:={X with A:=X.A.mark (some (.ref e)),calm:=false,xe:=E}
theorem Cx.Ok.inH (ok:X.Ok)(e:Addr)(E:Value→Shared→Prop):(X.inH e E).Ok:=
 ⟨ok.mod,ok.kind,ok.glob,ok.blt,ok.above,ok.inj,ok.has,ok.cab,fun z=>Bool.noConfusion z,ok.frames,ok.stk,ok.exf,ok.bs,ok.bsz,ok.noex,ok.exfs,ok.funs,ok.frf⟩
theorem Inv.inH (I:Inv X pins σ H s)(e:Addr)(E:Value→Shared→Prop):Inv (X.inH e E) pins σ H s:=⟨I.ok.inH e E,I.os,I.bare,I.base,I.loc,I.cell,I.free,I.freeC,I.pin,I.hok,I.len⟩
theorem Inv.outH {e:Addr}{E:Value→Shared→Prop}(ok:X.Ok)(I:Inv (X.inH e E) pins σ H s):Inv X pins σ H s:=⟨ok,I.os,I.bare,I.base,I.loc,I.cell,I.free,I.freeC,I.pin,I.hok,I.len⟩
noncomputable abbrev Cx.tr (X:Cx)(E:Value→Shared→Prop)(pn:List (Addr×Obj)):Cx:={X with xe:=E,pn:=pn}
theorem Cx.Ok.tr (ok:X.Ok)(E:Value→Shared→Prop)(pn:List (Addr×Obj)):(X.tr E pn).Ok:=
 ⟨ok.mod,ok.kind,ok.glob,ok.blt,ok.above,ok.inj,ok.has,ok.cab,ok.hd,ok.frames,ok.stk,ok.exf,ok.bs,ok.bsz,ok.noex,ok.exfs,ok.funs,ok.frf⟩
theorem Inv.tr (I:Inv X pins σ H s)(E:Value→Shared→Prop):Inv (X.tr E (X.pn ++ pins)) [] σ H s:=⟨I.ok.tr E _,I.os,I.bare,I.base,I.loc,I.cell,I.free,I.freeC,fun p hp=>I.pin p (by rwa[append_nil]at hp),I.hok,I.len⟩
theorem Inv.untr {pins':List (Addr×Obj)}{E:Value→Shared→Prop}(ok:X.Ok)(I:Inv (X.tr E (X.pn ++ pins)) pins' σ H s):Inv X pins σ H s:=⟨ok,I.os,I.bare,I.base,I.loc,I.cell,I.free,I.freeC,fun p hp=>I.pin p (mem_append_left _ hp),I.hok,I.len⟩
noncomputable def l8 (e:Addr)(cls:Value):HO:=.ext fun h=>∃o,h.get? e=some o∧o.cls=cls
theorem Inv.landed {E:XK}{ev:Value}{s':Shared}(I:Inv X pins σ H s)(h:CXF X.prog X.w X.stack H s E ev s') :
  ∃(e:Addr) (cls a0:Value) (B:Heap) (H':Hp),ev= .ref e∧Heap.FlyingW B X.stack e cls a0 s'.heap∧H' e=Option.none∧E cls Option.none H'∧
   ∀(h2:Heap) (t2:Nat),Heap.FlyingW B X.stack e cls a0 h2→s'.heap.UpToSlots h2→Inv X pins σ (a9 H' e (l8 e cls)) {s' with heap:=h2,toks:=t2}∧Inv X pins σ H' {s' with heap:=h2,toks:=t2}:=by
 obtain⟨e,cls,a0,B,H',rfl,os,bare,un,hok,fl,cov,hn,hs,q⟩:=h;refine⟨e,cls,a0,B,H',rfl,fl,hn,q,fun h2 t2 fl2 up=>?_⟩;have hfr:∀b∈fx X.stack,∀o,s'.heap.get? b=some o→∀vs,o.data≠ .fields vs:=fun b p o eo=>by
  obtain⟨_,o',e',h⟩:=fl.2.2.1.mem p;rw[eo]at e';cases e';exact h
 have nfr:∀b u,H' b=some u→b∉fx X.stack:=fun b u i p=>by
  obtain⟨_,o,eo,_⟩:=I.stack.mem p;rw[un.free b o eo (I.stkFree b p) (by simp)]at i;cases i
 have T:Un (fx X.stack) [] H H' s.heap h2:=un.onto (fun b o i nb hh=>fl2.1 b o (cov b o i nb (.inr hh))) fun b o i p _=>up b o i (hfr b p o i);have hok2:HOk X.prog X.w H' h2:=hok.onto fun b o u hu i=>fl2.1 b o (cov b o i (nfr b u hu) (.inl ⟨u,hu⟩));have I2:Inv X pins σ H' {s' with heap:=h2,toks:=t2}:=I.call' (ch:=[]) os T hok2 bare (fun b z=>absurd z (by simp))
 obtain⟨ob,hob,hcl⟩:=fl2.there;refine⟨?_,I2⟩;have new:ObjOk X.prog X.w (a9 H' e (l8 e cls)) h2 e (l8 e cls):=⟨⟨ob,hob,hcl⟩,⟨ob,hob⟩,fun h1 h2 ⟨o,a,b⟩ k=>⟨o,k o a,b⟩⟩;have hok3:HOk X.prog X.w (a9 H' e (l8 e cls)) h2:=fun b u eb=>by
  by_cases p:b=e
  ·subst p;rw[aq]at eb;cases eb;exact new
  ·rw[ak p]at eb;exact(hok2 b u eb).stay (fun c v _ q=>q) (fun c q=>by rw[ak (az q hn)];exact q) fun c xs q=>by rw[ak (az q hn)];exact q
 have un3:Un (fx X.stack) [] H (a9 H' e (l8 e cls)) s.heap h2:={
  keep:=T.keep,slot:=T.slot,there:=T.there
  free:=fun b o i n hx=>by
   have nb:b≠e:=fun z=>by rw[z,hs]at i;cases i
   rw[ak nb];exact T.free b o i n hx
  tups:=fun b xs q=>by
   have z:=T.tups b xs q;rw[ak (az z hn)];exact z
  frzs:=fun b o u q=>by
   have z:=T.frzs b o u q;rw[ak (az z hn)];exact z
  tbls:=fun b ps q=>by
   obtain⟨m,z⟩:=T.tbls b ps q;exact⟨m,by rw[ak (az z hn)];exact z⟩}
 exact I.call' (ch:=[]) os un3 hok3 bare (fun b z=>absurd z (by simp))
end
noncomputable def dI:Addr→List (Str×NameKind)→List (Str×Addr)→List (Str×Addr)
 |_,[],cs=>cs
 |k,(n,kd)::r,cs=>if (kd==.cell)=true then dI (k+1) r ((n,k)::cs) else dI k r cs
theorem ef {α:Type}{x:Str}{c:α}:∀{l:List (Str×α)},l.lookup x=some c→(x,c)∈l
 | [],h=>by simp at h
 |(n,d)::r,h=>by
  rw[lookup_cons]at h;split at h
  ·rename_i hy;cases h;have hy':x=n:=by simpa using hy
   rw[hy'];exact mem_cons_self
  ·exact eB (ef h)
theorem mZ:∀{l:List (Str×NameKind)} {k:Addr} {cs:List (Str×Addr)},(∀p∈cs,p.2<k)→(∀x y c,(x,c)∈cs→(y,c)∈cs→x=y)→∀x y c,(x,c)∈dI k l cs→(y,c)∈dI k l cs→x=y
 | [],_,_,_,h=>h
 |(n,kd)::r,k,cs,h1,h2=>by
  unfold dI;split
  ·refine mZ (fun p hp=>?_) fun x y c hx hy=>?_
   ·rcases mem_cons.mp hp with e|e
    ·rw[e];exact lt_succ_self _
    ·exact lt_succ_of_lt (h1 p e)
   ·rcases mem_cons.mp hx with e|e <;> rcases mem_cons.mp hy with f|f
    ·cases e;cases f;rfl
    ·cases e;exact absurd (h1 _ f) (lt_irrefl _)
    ·cases f;exact absurd (h1 _ e) (lt_irrefl _)
    ·exact h2 x y c e f
  ·exact mZ h1 h2
theorem ju {x:Str}:∀{l:List (Str×NameKind)} {k:Addr} {cs:List (Str×Addr)},(∃c,cs.lookup x=some c)→∃c,(dI k l cs).lookup x=some c
 | [],_,_,h=>h
 |(n,kd)::r,k,cs,h=>by
  unfold dI;split
  ·refine ju ?_;rw[lookup_cons];split
   ·exact⟨_,rfl⟩
   ·exact h
  ·exact ju h
theorem rD {x:Str}:∀{l:List (Str×NameKind)} {k:Addr} {cs:List (Str×Addr)},(x,NameKind.cell)∈l→∃c,(dI k l cs).lookup x=some c
 |(n,kd)::r,k,cs,h=>by
  unfold dI
  rcases mem_cons.mp h with e|e
  ·cases e;rw[if_pos (beq_self_eq_true _)];exact ju ⟨k,by rw[lookup_cons];simp⟩
  ·split <;> exact rD e
theorem m3 {x:Str}:∀{l:List (Str×NameKind)} {k:Addr} {cs:List (Str×Addr)},(x,NameKind.cell)∉l→(dI k l cs).lookup x=cs.lookup x
 | [],_,_,_=>rfl
 |(n,kd)::r,k,cs,h=>by
  have hr:(x,NameKind.cell)∉r:=fun z=>h (eB z);unfold dI;split
  ·rename_i hk;have hk':kd= .cell:=by simpa using hk
   rw[m3 hr,lookup_cons];have hne:(x==n)=false:=beq_eq_false_iff_ne.mpr fun z=>h (by rw[z,hk'];exact mem_cons_self);rw[hne]
  ·exact m3 hr
section
variable{M:Model}{A:Around}{E:Value→Shared→Prop}
theorem jX:∀(l:List (Str×NameKind)) (cs:List (Str×Addr)) (s:Shared) (Q:List (Str×Addr)→Shared→Prop),
  (∀h':Heap,(∀b o,s.heap.get? b=some o→h'.get? b=some o)→(∀x c,(x,c)∈dI s.heap.objs.size l cs→(x,c)∈cs∨(s.heap.objs.size≤c∧∃v,h'.IsCell c v))→Q (dI s.heap.objs.size l cs) {s with heap:=h'})→
  wpAny M A (forIn l cs fun x r=>if (x.2==NameKind.cell)=true then do let a ←alloc {cls:=.type "cell",data:=.cell none};pure (ForInStep.yield ((x.1,a)::r)) else pure (ForInStep.yield r):Sem (List (Str×Addr))) Q E s
 | [],cs,s,Q,h=>wpAny_pure (h s.heap (fun _ _ e=>e) fun x c hx=>.inl hx)
 |(n,kd)::r,cs,s,Q,h=>by
  rw[List.forIn_cons];by_cases hk:(kd==NameKind.cell)=true
  ·simp only[hk,if_true];refine wpAny_bind (wpAny_bind (wpAny_alloc (wpAny_pure (jX r _ _ Q fun h' k1 k2=>?_))));have hs:(s.heap.push {cls:=.type "cell",data:=.cell none}).objs.size=s.heap.objs.size+1:=Heap.size_push ..;have e:dI s.heap.objs.size ((n,kd)::r) cs=dI (s.heap.objs.size+1) r ((n,s.heap.objs.size)::cs):=by conv=>lhs;unfold dI;rw[if_pos hk]
   dsimp only at k1 k2 ⊢;rw[hs]at k2 ⊢;have key:=h h' (fun b o eb=>k1 b o (Heap.get?_push_of_some _ eb)) fun x c hx=>by
    rw[e]at hx
    rcases k2 x c hx with z|z
    ·rcases mem_cons.mp z with y|y
     ·cases y;exact .inr ⟨le_refl _,none,_,k1 _ _ (Heap.get?_push_size _ rfl),rfl⟩
     ·exact .inl y
    ·exact .inr ⟨Nat.le_of_succ_le z.1,z.2⟩
   rw[e]at key;exact key
  ·simp only[hk,if_false];refine wpAny_bind (wpAny_pure (jX r _ _ Q fun h' k1 k2=>?_));have e:dI s.heap.objs.size ((n,kd)::r) cs=dI s.heap.objs.size r cs:=by conv=>lhs;unfold dI;rw[if_neg hk]
   rw[←e]at k2 ⊢;exact h h' k1 k2
theorem An {s:Shared}{scope:Scope}{globals:Addr}{cl:List (Str×Addr)}{qual:Str}{env:Env}{Q:Env→Shared→Prop}
  (q:∀h':Heap,(∃m,h'.Ns s.heap.objs.size m)→(∀b o,s.heap.get? b=some o→h'.get? b=some o)→(∀x c,(x,c)∈dI (s.heap.objs.size+1) scope.names cl→(x,c)∈cl∨(s.heap.objs.size<c∧∃v,h'.IsCell c v))→Q {scope:=scope,locals:=s.heap.objs.size,globals:=globals,cells:=dI (s.heap.objs.size+1) scope.names cl,qual:=qual,func:=none,code:=env.code,frame:=env.frame,builtins:=env.builtins} {s with heap:=h'}) :
  wpAny M A (newFunctionEnv scope globals cl [] qual none .none (some env)) Q E s:=by
 unfold newFunctionEnv;refine wpAny_bind (wpAny_alloc (wpAny_bind ?_));have hs:(s.heap.push {cls:=.type "dict",data:=.dict #[]}).objs.size=s.heap.objs.size+1:=Heap.size_push ..;refine jX scope.names cl {s with heap:=s.heap.push {cls:=.type "dict",data:=.dict #[]}} _ fun h' k1 k2=>?_
 dsimp only at k1 k2 ⊢;rw[hs]at k2 ⊢;refine wpAny_bind (wpAny_pure (wpAny_pure (q h' ⟨fun _=>none,_,#[],0,k1 _ _ (Heap.get?_push_size _ rfl),rfl,?_,fun _=>rfl⟩ (fun b o e=>k1 b o (Heap.get?_push_of_some _ e)) fun x c hx=>k2 x c hx)));exact(by simp[StrKeys])
end
noncomputable def dJ (cells:List (Str×Addr)):List (Str×NameKind)→List (Str×Addr)→List (Str×Addr)
 | [],cs=>cs
 |(n,k)::r,cs=>dJ cells r (if k==.free then (match cells.lookup n with|some c=>(n,c)::cs|none=>cs) else cs)
theorem jM {scope:Scope}{env:Env}(h:∀y∈scope.names,y.2= .free→∃c,env.cells.lookup y.1=some c):closureFor scope env=pure (dJ env.cells scope.names []):=by
 unfold closureFor;have go:∀(l:List (Str×NameKind)) (cs:List (Str×Addr)),(∀y∈l,y.2= .free→∃c,env.cells.lookup y.1=some c)→
   (forIn l cs fun x r=>if (x.2==NameKind.free)=true then do let c ←cellOf env x.1;pure (ForInStep.yield ((x.1,c)::r)) else pure (ForInStep.yield r):Sem (List (Str×Addr)))=pure (dJ env.cells l cs):=by
  intro l
  induction l with
  |nil=>intro cs _;rfl
  |cons x r ih=>
   intro cs hl;obtain⟨n,k⟩:=x;rw[List.forIn_cons];by_cases hk:k= .free
   ·subst hk;obtain⟨c,hc⟩:=hl (n,.free) mem_cons_self rfl;have hc':env.cells.lookup n=some c:=hc;have e:cellOf env n=pure c:=by unfold cellOf;rw[hc']
    simp only[beq_self_eq_true,if_true,e,pure_bind,dJ,hc'];exact ih _ fun y hy=>hl y (eB hy)
   ·have e:(k==NameKind.free)=false:=by simpa using hk
    simp only[e,false_eq_true,if_false,pure_bind,dJ];exact ih _ fun y hy=>hl y (eB hy)
 have:=go scope.names [] h;simpa using this
theorem pc {cells:List (Str×Addr)}:∀{l:List (Str×NameKind)} {cs:List (Str×Addr)} {x:Str},(∃c,cs.lookup x=some c)→∃c,(dJ cells l cs).lookup x=some c
 | [],cs,x,h=>h
 |(n,k)::r,cs,x,⟨c,h⟩=>by
  unfold dJ;refine pc ?_;split
  ·split
   ·rw[lookup_cons];split
    ·exact⟨_,rfl⟩
    ·exact⟨c,h⟩
   ·exact⟨c,h⟩
  ·exact⟨c,h⟩
theorem m6 {cells:List (Str×Addr)}:∀{l:List (Str×NameKind)} {cs:List (Str×Addr)} {x:Str},(x,NameKind.free)∈l→(∃c,cells.lookup x=some c)→∃c,(dJ cells l cs).lookup x=some c
 |(n,k)::r,cs,x,hm,⟨c,hc⟩=>by
  rcases mem_cons.mp hm with e|hm
  ·cases e;unfold dJ;refine pc ?_;rw[if_pos (by rfl),hc];exact⟨c,by rw[lookup_cons];simp⟩
  ·unfold dJ;exact m6 hm ⟨c,hc⟩
theorem ji {env:Env}:∀{names:List (Str×NameKind)} {x:Str} {k:NameKind},
  (names.map fun (n,k)=>if (k==NameKind.free&&env.scope.kind==.function&&env.kindOf n==some .cell) then (n,NameKind.cell) else (n,k)).lookup x=some k→(k= .cell∨k= .free)→(x,NameKind.free)∈names∨(x,NameKind.cell)∈names
 | [],_,_,h,_=>by simp at h
 |(n,k0)::r,x,k,h,hk=>by
  have ih:= @ji env r x k;rw[map_cons,lookup_cons]at h;by_cases c:(k0==NameKind.free&&env.scope.kind==.function&&env.kindOf n==some .cell)=true
  ·have hf:k0= .free:=by
    simp only[and_eq_true,beq_iff_eq]at c;exact c.1.1
   subst hf;rw[if_pos c]at h;dsimp only at h;split at h
   ·rename_i hy;have:x=n:=by simpa using hy
    subst this;exact .inl mem_cons_self
   ·exact(ih h hk).imp (mem_cons_of_mem _) (mem_cons_of_mem _)
  ·rw[if_neg c]at h;dsimp only at h;split at h
   ·rename_i hy;have:x=n:=by simpa using hy
    subst this;cases h
    rcases hk with rfl|rfl
    ·exact .inr mem_cons_self
    ·exact .inl mem_cons_self
   ·exact(ih h hk).imp (mem_cons_of_mem _) (mem_cons_of_mem _)
theorem iA {env:Env}:∀{names:List (Str×NameKind)} {x:Str},names.lookup x=some .free→
  (names.map fun (n,k)=>if (k==NameKind.free&&env.scope.kind==.function&&env.kindOf n==some .cell) then (n,NameKind.cell) else (n,k)).lookup x=some .cell∨
  (names.map fun (n,k)=>if (k==NameKind.free&&env.scope.kind==.function&&env.kindOf n==some .cell) then (n,NameKind.cell) else (n,k)).lookup x=some .free
 | [],_,h=>by simp at h
 |(n,k0)::r,x,h=>by
  have ih:= @iA env r x;rw[lookup_cons]at h;rw[map_cons,lookup_cons];by_cases c:(k0==NameKind.free&&env.scope.kind==.function&&env.kindOf n==some .cell)=true
  ·rw[if_pos c];dsimp only;split at h
   ·exact .inl rfl
   ·exact ih h
  ·rw[if_neg c];dsimp only;split at h
   ·exact .inr h
   ·exact ih h
theorem iz {env:Env}:∀{names:List (Str×NameKind)} {x:Str},names.lookup x=some .cell→
  (names.map fun (n,k)=>if (k==NameKind.free&&env.scope.kind==.function&&env.kindOf n==some .cell) then (n,NameKind.cell) else (n,k)).lookup x=some .cell
 | [],_,h=>by simp at h
 |(n,k0)::r,x,h=>by
  have ih:= @iz env r x;rw[lookup_cons]at h;rw[map_cons,lookup_cons];by_cases c:(k0==NameKind.free&&env.scope.kind==.function&&env.kindOf n==some .cell)=true
  ·rw[if_pos c];dsimp only;split at h
   ·rfl
   ·exact ih h
  ·rw[if_neg c];dsimp only;split at h
   ·exact h
   ·exact ih h
theorem cX {env:Env}{scope:Scope}{x:Str}(h:tj scope x):tj (relabel scope env) x∧((scope.names.lookup x==some NameKind.cell)=true∨(relabel scope env).names.lookup x=some .local):=by
 rcases h with h|h
 ·have:=lookup_relabel_local (env:=env) h;exact⟨.inl this,.inr this⟩
 ·exact⟨.inr (iz h),.inl (by rw[h];rfl)⟩
noncomputable abbrev Cx.comp (X:Cx)(s:Shared)(H:Hp)(scope:Scope)(C:Addr)(N:List Str)(ex:List Addr):Cx:=
 {X with N:=N,s₀:=s,H₀:=H,env:=compEnvC scope (dI (C+1) scope.names (dJ X.env.cells scope.names [])) C X.env,outer:=X.stack,stack:=X.stack,ex:=ex,fn:=fun x=>scope.names.lookup x==some .cell,pn:=[],xe:=fun _ _=>False}
theorem m7 {cells:List (Str×Addr)}{x:Str}{c:Addr}:∀{l:List (Str×NameKind)} {cs:List (Str×Addr)},(x,c)∈dJ cells l cs→(∀p∈cs,cells.lookup p.1=some p.2)→cells.lookup x=some c
 | [],cs,h,hs=>hs _ h
 |(n,k)::r,cs,h,hs=>by
  unfold dJ at h;refine m7 h fun p hp=>?_;split at hp
  ·split at hp
   ·rename_i c' hc'
    rcases mem_cons.mp hp with e|e
    ·rw[e];exact hc'
    ·exact hs p e
   ·exact hs p hp
  ·exact hs p hp
theorem pb {cells:List (Str×Addr)}{x:Str}{c:Addr}:∀{l:List (Str×NameKind)} {cs:List (Str×Addr)},(x,c)∈dJ cells l cs→(x,c)∈cs∨(x,NameKind.free)∈l
 | [],cs,h=>.inl h
 |(n,k)::r,cs,h=>by
  unfold dJ at h
  rcases pb h with z|z
  ·split at z
   ·rename_i hk;have hk':k= .free:=by simpa using hk
    split at z
    ·rcases mem_cons.mp z with e|e
     ·cases e;exact .inr (by rw[hk'];exact mem_cons_self)
     ·exact .inl e
    ·exact .inl z
   ·exact .inl z
  ·exact .inr (eB z)
structure CompSc (X:Cx)(scope:Scope)(N:List Str)(caps:List (Option Nat)):Prop where
 kind:scope.kind= .function
 freek:∀y∈scope.names,y.2= .free→scope.names.lookup y.1=some .free
 cellk:∀y∈scope.names,y.2= .cell→scope.names.lookup y.1=some .cell
 names:∀y∈scope.names,y.2= .local→scope.names.lookup y.1=some .local
 free:∀y∈scope.names,y.2= .free→X.env.scope.names.lookup y.1=some .cell∨X.env.scope.names.lookup y.1=some .free
 nd:N.Nodup
 len:caps.length=N.length
 capf:∀(j k:Nat) (x:Str),caps[j]?=some (some k)→N[j]?=some x→scope.names.lookup x=some .free
 cap:∀(j k:Nat) (x:Str),caps[j]?=some (some k)→N[j]?=some x→X.N[k]?=some x∧(X.env.scope.names.lookup x=some .cell∨X.env.scope.names.lookup x=some .free)
noncomputable def fw (caps:List (Option Nat))(σ:St):St:=caps.map fun o=>o.bind fun k=>(σ[k]?).join
theorem o_ {caps:List (Option Nat)}{σ:St}{j:Nat}{v:V}(h:(fw caps σ)[j]?=some (some v)):∃k,caps[j]?=some (some k)∧σ[k]?=some (some v):=by
 unfold fw at h;rw[getElem?_map]at h;cases e:caps[j]? with
 |none=>rw[e]at h;cases h
 |some o=>
  rw[e]at h;cases o with
  |none=>simp at h
  |some k=>
   refine⟨k,rfl,?_⟩;simp only[map_some,bind_some]at h;cases e2:σ[k]? with
   |none=>rw[e2]at h;simp at h
   |some o2=>rw[e2]at h;simp at h;rw[h]
section
variable{X:Cx}{pins:List (Addr×Obj)}{σ:St}{H:Hp}{s:Shared}{scope:Scope}{N:List Str}{caps:List (Option Nat)}
theorem Inv.comp {h₁:Heap}{C:Addr}{fp:List Addr}{t':Nat}(I:Inv X pins σ H s)(S:CompSc X scope N caps)(hC:s.heap.objs.size≤C)(hf:∀b∈fp,iR X pins H b)(hfp:∀b∈fp,b<s.heap.objs.size)
  (old:∀b o,s.heap.get? b=some o→h₁.get? b=some o) (nc:∀x c,(x,c)∈dI (C+1) scope.names (dJ X.env.cells scope.names [])→(x,c)∈dJ X.env.cells scope.names []∨(C<c∧∃v,h₁.IsCell c v)) (ns:∃m,h₁.Ns C m):Inv (X.comp s H scope C N fp) [] (fw caps σ) H {s with heap:=h₁,toks:=t'}:=by
 have U:∀{x c},(x,c)∈dJ X.env.cells scope.names []→X.env.cells.lookup x=some c:=fun e=>m7 e (fun p z=>by cases z);have hcl:∀x c,(dJ X.env.cells scope.names []).lookup x=some c→X.env.cells.lookup x=some c:=fun x c e=>U (ef e);have hce:∀{x c},(dI (C+1) scope.names (dJ X.env.cells scope.names [])).lookup x=some c→X.env.cells.lookup x=some c∨(C<c∧∃v,h₁.IsCell c v):=fun e=>(nc _ _ (ef e)).imp U id;have olt:∀p∈dJ X.env.cells scope.names [],p.2<C+1:=fun p hp=>by
  obtain⟨v,z⟩:=I.cell p.1 p.2 (U hp);exact lt_succ_of_lt (lt_of_lt_of_le z.lt hC)
 have hsub:=I.stkSub;obtain⟨m1,hn1⟩:=ns;have notC:∀{b:Addr},b<s.heap.objs.size→b≠C:=fun q=>ne_of_lt (lt_of_lt_of_le q hC);have hasF:∀x,(x,NameKind.free)∈scope.names→∃c,X.env.cells.lookup x=some c:=fun x hx=>I.ok.has x (S.free (x,.free) hx rfl);refine⟨⟨I.ok.mod,S.kind,I.ok.glob,I.ok.blt,hC,fun x y c e1 e2=>mZ olt (fun x y c e1 e2=>I.ok.inj x y c (U e1) (U e2)) x y c (ef e1) (ef e2),fun x hx=>?_,fun x c hx e=>?_,I.ok.hd,I.ok.frames,.inl rfl,fun b q=>⟨notC (hfp b q),fun x c e=>(hce e).elim ((hf b q).2.2.2.2.1 x c) fun z=>ne_of_gt (lt_of_lt_of_le (hfp b q) (le_trans hC (le_of_lt z.1)))⟩,I.bs,le_trans I.ok.bsz I.sz,fun b o e q=>?_,fun b q z=>?_,I.stack,I.stkFree⟩,
  rfl,I.bare,Un.kept old,⟨m1,hn1,fun j y v e1 e2 e3=>?_⟩,fun x c e=>?_,I.hok.fresh hC,fun x c e=>(hce e).elim (I.freeC x c) fun z=>I.hok.fresh (le_trans hC (le_of_lt z.1)),fun p hp=>absurd (show p∈([]:List (Addr×Obj)) from hp) (by simp),I.hok.kept old,by rw[show (fw caps σ).length=caps.length by simp[fw]];exact S.len⟩
 ·have hx':(relabel scope X.env).names.lookup x=some .cell∨(relabel scope X.env).names.lookup x=some .free:=hx;have hm:(x,NameKind.free)∈scope.names∨(x,NameKind.cell)∈scope.names:=by
   rcases hx' with e|e
   ·exact ji e (.inl rfl)
   ·exact ji e (.inr rfl)
  rcases hm with hm|hm
  ·exact ju (m6 hm (hasF x hm))
  ·exact rD hm
 ·have hx:(scope.names.lookup x==some NameKind.cell)=true:=hx;have ho:(dI (C+1) scope.names (dJ X.env.cells scope.names [])).lookup x=some c:=e
  rcases nc x c (ef ho) with z|z
  ·rw[S.freek _ ((pb z).resolve_left fun y=>by cases y) rfl]at hx;cases hx
  ·exact le_trans hC (le_of_lt z.1)
 ·obtain⟨f0,f1,f2,f3,_⟩:=hf b q
  rcases f3 with z|z
  ·exact I.ok.noex b o e z
  ·exact absurd (lt_of_lt_of_le (Heap.lt_size e) (le_trans I.ok.bsz z)) (lt_irrefl _)
 ·obtain⟨f0,f1,f2,_⟩:=hf b q
  rcases mem_cons.mp (hsub b z) with e|e
  ·exact f1 e
  ·exact f2 e
 ·obtain⟨k,c1,c2⟩:=o_ e2;obtain⟨c3,c4⟩:=S.cap j k y c1 e1;obtain⟨m,hn,hl⟩:=I.loc;obtain⟨u,r,l⟩:=hl k y v c3 c2 (by rcases c4 with z|z;exact .inr (.inl z);exact .inr (.inr z))
  refine⟨u,r,.inr ?_⟩;have hv:(relabel scope X.env).names.lookup y=some .cell∨(relabel scope X.env).names.lookup y=some .free:=iA (S.capf j k y c1 e1);have hfr:=S.capf j k y c1 e1;have hm:(y,NameKind.free)∈scope.names:=ef hfr;obtain⟨c,hc⟩:=m6 (cells:=X.env.cells) (cs:=[]) hm (hasF y hm);refine⟨hv,c,(m3 (fun z=>by have:=S.cellk _ z rfl;rw[hfr]at this;cases this)).trans hc,?_⟩
  rcases l with ⟨k1,_⟩|⟨_,c',hc',z⟩
  ·exfalso;have k1':X.env.scope.names.lookup y=some .local:=k1
   rcases c4 with z|z <;> (rw[k1']at z;cases z)
  ·rw[hcl y c hc]at hc';cases hc';obtain⟨o,eo,d⟩:=z;exact⟨o,old _ _ eo,d⟩
 ·rcases hce e with z|z
  ·obtain⟨v,o,eo,d⟩:=I.cell x c z;exact⟨v,o,old _ _ eo,d⟩
  ·exact z.2
end
section
variable{prog:Program}{w:World}{A:Around}{E:Value→Shared→Prop}{R:Result→Shared→Prop}{s:Shared}
theorem vN {elt target iter:Expr}{ifs:List Expr}{scope:Scope}{pos:Pos}{it acc:Value}{env:Env}(I:Nat→Shared→Prop)
  (turn:∀n s,I n s→wpAny (model prog w) A (pyNext it) (fun r s₁=>match r with
   |none=>R (.ok .next) s₁
   |some v=>wpAny (model prog w) A (letOwnedTupleGo target it v) (fun _ s₁'=>wpAny (model prog w) A (assign target env v) (fun _ s₂=>
     wpAny (model prog w) A (forIn ifs true fun c r=>if r=true then do let ok ←isTrue c env (eval c env);pure (ForInStep.yield ok) else pure (ForInStep.yield r)) (fun ok s₃=>
      if ok=true then wpAny (model prog w) A (eval elt env) (fun x s₄=>
       wpAny (model prog w) A (call (.builtin "list.append") [acc,x]) (fun _ s₅=>∃m,m<n∧I m s₅) (notedBy (model prog w) A env fun e s'=>R (.error e) s') s₄) (notedBy (model prog w) A env fun e s'=>R (.error e) s') s₃
      else ∃m,m<n∧I m s₃) (notedBy (model prog w) A env fun e s'=>R (.error e) s') s₂) (notedBy (model prog w) A env fun e s'=>R (.error e) s') s₁') (notedBy (model prog w) A env fun e s'=>R (.error e) s') s₁) (notedBy (model prog w) A env fun e s'=>R (.error e) s') s)
  (n:Nat) (h:I n s) :
  codeAny (model prog w) A (.compLoop (.ListComp elt [⟨target,iter,ifs,0⟩] scope pos) 0 it acc env) R s:=by
 refine codeAny_loop rfl I (fun n s hI=>?_) n h;show wpAny _ A ((compTurn (.ListComp elt [⟨target,iter,ifs,0⟩] scope pos) 0 it acc env).onRaise (fun x=>do noteFrame x env;theTreesLotGoes x)) _ _ s
 refine wpAny_noted ?_;rw[compTurn_list];refine wpAny_bind (wpAny_standAt (wpAny_bind (wpAny_mono (turn n s hI) (fun r s₁ h₁=>?_) fun _ _ B=>B)));cases r with
 |none=>exact wpAny_pure h₁
 |some v=>
  refine wpAny_bind (wpAny_mono h₁ (fun _ s₁' h₁'=>?_) fun _ _ B=>B);refine wpAny_bind (wpAny_mono h₁' (fun _ s₂ h₂=>wpAny_bind (wpAny_mono h₂ (fun ok s₃ h₃=>?_) fun _ _ B=>B)) fun _ _ B=>B);cases ok with
  |false=>exact wpAny_pure ⟨rfl,h₃⟩
  |true=>
   exact wpAny_bind (wpAny_bind (wpAny_mono h₃ (fun x s₄ h₄=>wpAny_bind (wpAny_mono h₄ (fun _ s₅ h₅=>wpAny_pure (wpAny_pure ⟨rfl,h₅⟩)) fun _ _ B=>B)) fun _ _ B=>B))
end
noncomputable def Du (X:Cx)(ifs:List Expr)(t:TT):Prop:=
 ∀(pins:List (Addr×Obj)) (s:Shared) (σ:St) (H:Hp) (Q:Bool→Hp→Prop),Inv X pins σ H s→t σ H Q→
  wpAny (model X.prog X.w) X.A (forIn ifs true fun c r=>if r=true then do let ok ←isTrue c X.env (eval c X.env);pure (ForInStep.yield ok) else pure (ForInStep.yield r)) (TP X pins σ Q) X.xe s
theorem AG {X:Cx}:Du X [] (fun _ H Q=>Q true H):=fun _ _ _ H _ I h=>wpAny_tests_nil ⟨H,I,h⟩
theorem AH {X:Cx}{c:Expr}{t:TT}(h:PT X c t):Du X [c] t:=fun pins s σ H Q I q=>wpAny_tests_one (h pins s σ H Q I q)
noncomputable def za (wi:TI)(caps:List (Option Nat))(g:TG)(tc:TT)(te:TE):TE:=fun σ H Q=>wi σ H fun J H1=>∃W:Nat→Nat→List V→Hp→Prop,(∃m,W 0 m [] H1)∧∀i m ys H2,W i m ys H2→
 (J.stop i H2∧ys.length≤sizeLine∧∀p,H2 p=none→Q (.ref p) (a9 H2 p (.lst ys)))∨
 (J.go i H2∧∃Nx:List V→Hp→Prop,(∀ys' H',Nx ys' H'→∃m',m'<m∧W (i+1) m' ys' H')∧
  ∀x H',J.yld i H2 x H'→g x (fw caps σ) H' fun σ2 H3=>tc σ2 H3 fun b H4=>if b=true then ys.length≤sizeLine∧te σ2 H4 (fun y H5=>Nx (ys ++ [y]) H5) else Nx ys H4)
section
variable{X:Cx}{pins:List (Addr×Obj)}{σ:St}{H:Hp}{s:Shared}{scope:Scope}{N:List Str}{caps:List (Option Nat)}
noncomputable abbrev kK (us:List Value):Obj:={cls:=.type "list",data:=.seq us.toArray us.length}
theorem wu (ys:List Value)(y:Value):({cls:=.type "list",data:=.seq (ys.toArray.push y) (ys.length+1)}:Obj)=kK (ys ++ [y]):=by
 show ({cls:=.type "list",data:=.seq (ys.toArray.push y) (ys.length+1)}:Obj)={cls:=.type "list",data:=.seq (ys ++ [y]).toArray (ys ++ [y]).length};rw[length_append,length_singleton,List.push_toArray]
noncomputable def ke (caps:List (Option Nat))(g:TG):Prop:=∀x σ0 H Q,g x σ0 H Q→g x σ0 H fun σ2 H2=>Q σ2 H2∧σ2.length=σ0.length∧∀(j k:Nat) (v:V),caps[j]?=some (some k)→σ0[j]?=some (some v)→σ2[j]?=some (some v)
theorem kO {i:Nat}(h:caps[i]?=some none):ke caps (ck i):=fun x σ0 H Q q=>by
 refine⟨q,by simp,fun j k v hj hv=>?_⟩;have:j≠i:=fun z=>by rw[z,h]at hj;cases hj
 rw[getElem?_set_ne (Ne.symm this)];exact hv
theorem m_ {elt tg iter:Expr}{ifs:List Expr}{pos:Pos}{it:Addr}{fp:List Addr}{tn:Nat→Heap→Prop}{J:It}{g:TG}{tc:TT}{te:TE}{RR:Value→Addr→Result→Shared→Prop}{E:Value→Shared→Prop}
  (hc:X.calm=true) (I:Inv X pins σ H s) (S:CompSc X scope N caps) (T:Turn X.prog X.w X.K tg J fp it tn) (st:tn 0 s.heap) (hf:∀b∈fp,iR X pins H b)
  (hg:∀C ex,PG (X.comp s H scope C N ex) tg g) (ho:ke caps g) (ht:∀C ex,Du (X.comp s H scope C N ex) ifs tc) (he:∀C ex,PE (X.comp s H scope C N ex) elt te)
  (W:Nat→Nat→List V→Hp→Prop) (m0:Nat) (w0:W 0 m0 [] H) {Q:VK}
  (turn:∀i m ys H2,W i m ys H2→(J.stop i H2∧ys.length≤sizeLine∧∀p,H2 p=none→Q (.ref p) (a9 H2 p (.lst ys)))∨
   (J.go i H2∧∃Nx:List V→Hp→Prop,(∀ys' H',Nx ys' H'→∃m',m'<m∧W (i+1) m' ys' H')∧
    ∀x H',J.yld i H2 x H'→g x (fw caps σ) H' fun σ2 H3=>tc σ2 H3 fun b H4=>if b=true then ys.length≤sizeLine∧te σ2 H4 (fun y H5=>Nx (ys ++ [y]) H5) else Nx ys H4))
  (hRR:∀(D C:Addr) (s':Shared) (m:Str→Option Value) (H':Hp),s'.heap.Ns C m→Inv X pins σ H' s'→iR X pins H' C→Q (.ref D) H'→RR (.ref D) C (.ok .next) s') :
  wpAny (model X.prog X.w) X.A (newList []) (fun acc s₃=>wpAny (model X.prog X.w) X.A (newFunctionEnv scope X.env.globals (dJ X.env.cells scope.names []) [] X.env.qual none .none (some X.env)) (fun cenv s₄=>
   codeAny (model X.prog X.w) X.A (.compStart (.ListComp elt [⟨tg,iter,ifs,0⟩] scope pos) 0 (.ref it) acc {cenv with scope:=relabel scope X.env}) (RR acc cenv.locals) s₄) E s₃) E s:=by
 refine wpAny_newObj_type (An fun F f Y a=>?_);dsimp only at f Y a ⊢;generalize hH2:s.heap.push {cls:=.type "list",dict:=none,data:=.seq ([]:List Value).toArray}=H2 at f Y a ⊢;have hC:H2.objs.size=s.heap.objs.size+1:=by rw[←hH2,Heap.size_push]
 have hDC:s.heap.objs.size≠H2.objs.size:=by rw[hC];exact ne_of_lt (lt_succ_self _)
 have h:s.heap.objs.size≤H2.objs.size:=by rw[hC];exact le_succ _
 have old:∀b o,s.heap.get? b=some o→F.get? b=some o:=fun b o e=>
  Y b o (hH2 ▸ Heap.get?_push_of_some _ e)
 have hacc:F.get? s.heap.objs.size=some (kK []):=Y _ _ (hH2 ▸ Heap.get?_push_size _ rfl);have P:∀b∈fp,b<s.heap.objs.size:=fun b t=>by
  obtain⟨o,e,_⟩:=T.obj _ _ st b t;exact Heap.lt_size e
 have U:tn 0 F:=T.keep _ _ _ st fun b t o e=>old b o e;have I₁:Inv (X.comp s H scope H2.objs.size N fp) [] (fw caps σ) H {s with heap:=F}:=I.comp (t':=s.toks) S h hf P old a f
 have cne:∀x c,(dI (H2.objs.size+1) scope.names (dJ X.env.cells scope.names [])).lookup x=some c→X.env.cells.lookup x=some c∨H2.objs.size<c:=fun x c e=>(a x c (ef e)).imp (fun z=>m7 z (fun p M=>by cases M)) And.left;have nfs:∀{b:Addr},s.heap.objs.size≤b→b∉fx X.stack:=fun t z=>by
  obtain⟨_,o,ho,_⟩:=I.stack.mem z;exact absurd (lt_of_lt_of_le (Heap.lt_size ho) t) (lt_irrefl _)
 -- what stays true of the iterator's and the gathered list's objects
 have Z:∀{H':Hp},(∀b∈fp,H' b=none)→∀b∈fp,iR (X.comp s H scope H2.objs.size N fp) [] H' b:=fun hn b t=>
  ⟨hn b t,ne_of_lt (lt_of_lt_of_le (P b t) h),fun z=>(by
   obtain⟨f0,f1,f2,_⟩:=hf b t
   rcases mem_cons.mp (I.stkSub b z) with e|e
   ·exact f1 e
   ·exact f2 e),.inl t,fun x c e=>(cne x c e).elim ((hf b t).2.2.2.2.1 x c) fun z=>ne_of_gt (lt_of_lt_of_le (P b t) (le_trans h (le_of_lt z))),fun p M=>absurd (show p∈([]:List (Addr×Obj)) from M) (by simp)⟩
 have statD:∀{H':Hp},H' s.heap.objs.size=none→iR (X.comp s H scope H2.objs.size N fp) [] H' s.heap.objs.size:=fun hn=>
  ⟨hn,hDC,nfs (le_refl _),.inr (le_refl _),fun x c e=>(cne x c e).elim (fun z=>by obtain⟨v,y⟩:=I.cell x c z;exact ne_of_lt y.lt) fun z=>ne_of_gt (Nat.lt_of_le_of_lt h z),fun p M=>absurd (show p∈([]:List (Addr×Obj)) from M) (by simp)⟩
 have loop:∀s₃:Shared,s₃={s with heap:=F}→
   codeAny (model X.prog X.w) X.A (.compLoop (.ListComp elt [⟨tg,iter,ifs,0⟩] scope pos) 0 (.ref it) (.ref s.heap.objs.size) (compEnvC scope (dI (H2.objs.size+1) scope.names (dJ X.env.cells scope.names [])) H2.objs.size X.env))
    (RR (.ref s.heap.objs.size) H2.objs.size) s₃:=by
  rintro s₃ rfl;refine vN (fun n s'=>∃i ys l H',Inv (X.comp s H scope H2.objs.size N fp) [] (fw caps σ) H' s'∧tn i s'.heap∧(∀b∈fp,H' b=none)∧s'.heap.get? s.heap.objs.size=some (kK l)∧H' s.heap.objs.size=none∧Vals ys l∧W i n ys H') ?_ m0
   ⟨0,[],[],H,I₁,U,fun b t=>(hf b t).1,hacc,I.hok.fresh (le_refl _),.nil,w0⟩
  intro n s3 hZ1;obtain⟨i,ys,l,H3,I3,st3,fr3,ha3,hd3,rv3,w3⟩:=hZ1;have pinD:∀{B:St} {H':Hp} {s':Shared},Inv (X.comp s H scope H2.objs.size N fp) [] B H' s'→s'.heap.get? s.heap.objs.size=some (kK l)→H' s.heap.objs.size=none→Inv (X.comp s H scope H2.objs.size N fp) [(s.heap.objs.size,kK l)] B H' s':=fun I' e n=>
   I'.pins_of fun p M=>by
    obtain rfl:=mem_singleton.mp M;exact⟨e,n,hDC,nfs (le_refl _),fun v z=>by cases z⟩
  have L:∀{H':Hp},(∀b∈fp,H' b=none)→∀b∈fp,iR (X.comp s H scope H2.objs.size N fp) [(s.heap.objs.size,kK l)] H' b:=fun hn b t=>
   ⟨(Z hn b t).1,(Z hn b t).2.1,(Z hn b t).2.2.1,(Z hn b t).2.2.2.1,(Z hn b t).2.2.2.2.1,fun p M=>by
    obtain rfl:=mem_singleton.mp (show p∈[(s.heap.objs.size,kK l)] from M);exact ne_of_gt (P b t)⟩
  have I3':=pinD I3 ha3 hd3;have atD:∀{pl:List (Addr×Obj)} {B:St} {H':Hp} {s':Shared},Inv (X.comp s H scope H2.objs.size N fp) ([(s.heap.objs.size,kK l)] ++ pl) B H' s'→s'.heap.get? s.heap.objs.size=some (kK l)∧H' s.heap.objs.size=none:=fun {pl B H' s'} I'=>
   ⟨(I'.pin (s.heap.objs.size,kK l) (by simp)).1,(I'.pin (s.heap.objs.size,kK l) (by simp)).2.1⟩
  rcases turn i n ys H3 w3 with ⟨stop,hsz,fin⟩|⟨go,Nx,hN,step⟩
  ·refine aW (wpAny_noRaise (T.done (X.comp s H scope H2.objs.size N fp) rfl rfl rfl hc i [(s.heap.objs.size,kK l)] s3 _ H3 (fun _ _=>False) I3' (L fr3) st3 stop)) fun r s4 hZ76=>?_;obtain⟨hr,I4⟩:=hZ76;subst hr;obtain⟨ha4,O⟩:=atD (pl:=[]) I4;obtain⟨m4,hn4,_⟩:=id I4.loc;have G:Un (fx X.stack) fp H H3 s.heap s4.heap:=I4.base;have bC:∀{b:Addr} {o:Obj},s.heap.get? b=some o→b≠H2.objs.size∧b≠s.heap.objs.size:=fun e=>⟨by rw[hC];exact ne_of_lt (lt_succ_of_lt (Heap.lt_size e)),ne_of_lt (Heap.lt_size e)⟩;have freeC:H3 H2.objs.size=none:=I4.free;have un':Un (fx X.stack) fp H (a9 H3 s.heap.objs.size (.lst ys)) s.heap s4.heap:={
    keep:=fun b o e n t hx=>(G.keep b o e n t hx)
    slot:=fun b o e n t hx=>by
     obtain⟨sl,z⟩:=G.slot b o e n t hx;exact⟨sl,z⟩
    free:=fun b o e n hx=>by rw[ak (bC e).2];exact G.free b o e n hx
    there:=fun b o e hx=>by
     obtain⟨o',z⟩:=G.there b o e hx;exact⟨o',z⟩
    tups:=fun b xs q=>by
     have z:=G.tups b xs q;rw[ak (az z O)];exact z
    frzs:=fun b o u q=>by
     have z:=G.frzs b o u q;rw[ak (az z O)];exact z
    tbls:=fun b ps q=>by
     obtain⟨mo,z⟩:=G.tbls b ps q;exact⟨mo,by rw[ak (az z O)];exact z⟩}
   have hok':HOk X.prog X.w (a9 H3 s.heap.objs.size (.lst ys)) s4.heap:=fun b u eb=>by
    by_cases t:b=s.heap.objs.size
    ·subst t;rw[aq]at eb;cases eb;exact⟨hsz,l,_,rv3,ha4⟩
    ·rw[ak t]at eb;exact(I4.hok b u eb).stay (fun c v hcc q=>q) (fun c q=>by rw[ak (az q O)];exact q) fun c xs q=>by rw[ak (az q O)];exact q
   have I4':Inv X pins σ (a9 H3 s.heap.objs.size (.lst ys)) s4:=I.call' (ch:=fp) I4.os un' hok' I4.bare (fun b t=>⟨(hf b t).2.2.2.1,(hf b t).2.1,(hf b t).2.2.2.2.1,(hf b t).2.2.2.2.2⟩);exact hRR _ _ s4 m4 _ hn4 I4' (I.fpOk h (by rw[ak (Ne.symm hDC)];exact freeC)) (fin _ O)
  ·refine aW (wpAny_noRaise (T.item (X.comp s H scope H2.objs.size N fp) rfl rfl rfl hc i [(s.heap.objs.size,kK l)] s3 _ H3 (fun _ _=>False) I3' (L fr3) st3 go)) fun r s4 hZ77=>?_;obtain⟨u,hr,h4⟩:=hZ77;subst hr;refine aW (wpAny_noRaise h4) fun _ s5 hZ78=>?_;obtain⟨x,H5,I5,r5,y5,st5,fr5⟩:=hZ78;have I5':=I5.pinned (L fr5) (T.obj _ _ st5);refine aW (wpAny_noRaise (hg _ _ _ s5 _ H5 x u _ I5' r5 (ho _ _ _ _ (step x H5 y5)))) fun _ s6 hZ79=>?_;obtain⟨σ6,H6,I6,q6,l6,k6⟩:=hZ79;have weak6:∀{pl:List (Addr×Obj)} {H':Hp} {s':Shared},Inv (X.comp s H scope H2.objs.size N fp) pl σ6 H' s'→Inv (X.comp s H scope H2.objs.size N fp) pl (fw caps σ) H' s':=fun I'=>I'.weak l6.symm fun j v e=>by
    obtain⟨k,c1,c2⟩:=o_ e;exact k6 j k v c1 e
   refine aW (wpAny_noRaise (ht _ _ _ s6 σ6 H6 _ I6 q6)) fun b s7 hZ80=>?_;obtain⟨H7,I7,q7⟩:=hZ80;have R:∀{B:St} {H':Hp} {s':Shared},Inv (X.comp s H scope H2.objs.size N fp) ([(s.heap.objs.size,kK l)] ++ nX fp s5.heap) B H' s'→tn (i+1) s'.heap∧∀b∈fp,H' b=none:=fun {B H' s'} I'=>
    ⟨T.keep _ _ _ st5 fun b t o e=>(I'.pin (b,o) (mem_append_right _ (mem_append_right _ (ik t e)))).1,fun b t=>by
     obtain⟨o,e,d⟩:=T.obj _ _ st5 b t;exact(I'.pin (b,o) (mem_append_right _ (mem_append_right _ (ik t e)))).2.1⟩
   cases b with
   |false=>
    have q7':Nx ys H7:=q7;obtain⟨m',hm,w7⟩:=hN _ _ q7';obtain⟨ha7,hd7⟩:=atD I7;obtain⟨st7,fr7⟩:=R I7;exact⟨m',hm,i+1,ys,l,H7,weak6 (I7.pins_of fun p M=>absurd M (by simp)),st7,fr7,ha7,hd7,rv3,w7⟩
   |true=>
    obtain⟨hsz,q7'⟩:ys.length≤sizeLine∧te σ6 H7 (fun y H5=>Nx (ys ++ [y]) H5):=q7;show wpAny _ _ (eval elt _) _ _ s7;refine aW (wpAny_noRaise (he _ _ _ s7 σ6 H7 _ I7 q7')) fun yv s8 hZ81=>?_;obtain⟨y,H8,I8,r8,q8⟩:=hZ81;obtain⟨ha8,hd8⟩:=atD I8;obtain⟨st8,fr8⟩:=R I8;refine append_at ha8 (fun h9 sb hD9=>?_) (by rw[size_toArray,←rv3.length];exact hsz);obtain⟨m',hm,w8⟩:=hN _ _ q8;have I8':Inv (X.comp s H scope H2.objs.size N fp) [] (fw caps σ) H8 s8:=weak6 (I8.pins_of fun p M=>absurd M (by simp));have dD:=statD hd8;refine⟨m',hm,i+1,ys ++ [y],l ++ [yv],H8,I8'.turned (t':=s8.toks) (fun b o t e=>(sb.2 b t).trans e) hd8 dD.2.1 dD.2.2.2.1 dD.2.2.2.2.1 dD.2.2.2.2.2,T.keep _ _ _ st8 fun b t o e=>(sb.2 b (ne_of_lt (P b t))).trans e,fr8,?_,hd8,rv3.append (.cons r8 .nil),w8⟩;rw[hD9,wu]
 exact codeAny_compStart_list (loop _ rfl) (T.self X.A 0 _ _ _ U (loop _ rfl))
theorem vm {elt tg iter:Expr}{ifs:List Expr}{pos:Pos}{wi:TI}{g:TG}{tc:TT}{te:TE}(hc:X.calm=true)(S:CompSc X scope N caps)(hi:PI X tg iter wi)
  (hg:∀s H C ex,PG (X.comp s H scope C N ex) tg g) (ho:ke caps g) (ht:∀s H C ex,Du (X.comp s H scope C N ex) ifs tc) (he:∀s H C ex,PE (X.comp s H scope C N ex) elt te)
  (hs:∀x,foldedSetIterable iter X.env x=pure x:=by intro _;rfl):PE X (.ListComp elt [⟨tg,iter,ifs,0⟩] scope pos) (za wi caps g tc te):=by
 intro pins s σ H Q I h;rw[eval_ListComp];have hcl:closureFor scope X.env=pure (dJ X.env.cells scope.names []):=jM fun y hy hk=>I.ok.has y.1 (S.free y hy hk);refine wpAny_comprehension_free (use:=none) rfl hs hcl S.kind S.names (aW (hi pins s σ H _ I h) fun v s1 h1=>aW h1 fun itv s2 h2=>?_);obtain⟨it,fp,tn,J,H2,e,I2,T,st2,f2,W,⟨m0,w0⟩,turn⟩:=h2;subst e;refine m_ (RR:=fun acc C=>compPost (model X.prog X.w) X.A X.xe none (EP X pins σ Q) acc C) hc I2 S T st2 f2 (hg _ _) ho (ht _ _) (he _ _) W m0 w0 turn ?_;intro D C s' m H' hn I' fC q;exact⟨m,hn,fun h' sb=>⟨.ref D,H',I'.turned (t':=s'.toks) (fun b o hb e=>(sb.2 b hb).trans e) fC.1 fC.2.1 fC.2.2.2.1 fC.2.2.2.2.1 fC.2.2.2.2.2,rfl,q⟩⟩
theorem nZ {elt tg iter:Expr}{ifs:List Expr}{pos py spos:Pos}{wi:TI}{g:TG}{tc:TT}{te:TE}{y:Str}{i:Nat}(hN:X.N.Nodup)(hi:X.N[i]?=some y)(hy:X.env.scope.names.lookup y=some .local)
  (hc:X.calm=true) (S:CompSc X scope N caps) (hit:PI X tg iter wi)
  (hg:∀s H C ex,PG (X.comp s H scope C N ex) tg g) (ho:ke caps g) (ht:∀s H C ex,Du (X.comp s H scope C N ex) ifs tc) (he:∀s H C ex,PE (X.comp s H scope C N ex) elt te)
  (hsw:swapsWith (.ListComp elt [⟨tg,iter,ifs,0⟩] scope pos) (some (.Name y py)) spos.line X.env=pure true:=by rfl)
  (hs:∀x,foldedSetIterable iter X.env x=pure x:=by intro _;rfl):PS X (.Assign [.Name y py] (.ListComp elt [⟨tg,iter,ifs,0⟩] scope pos) spos) (uz (za wi caps g tc te) (ck i)):=by
 intro u s σ H D I h;have hcl:closureFor scope X.env=pure (dJ X.env.cells scope.names []):=jM fun y hy hk=>I.ok.has y.1 (S.free y hy hk);rw[exec_Assign_Name_used _ _ _ _ hsw];refine wpAny_bind (wpAny_standAt (wpAny_bind ?_));show wpAny _ X.A (do let _ ←comprehension (.ListComp elt [⟨tg,iter,ifs,0⟩] scope pos) scope X.env _ (newList []) false (eval iter X.env) (some (assign (.Name y py) X.env))) _ _ s
 refine wpAny_bind (wpAny_mono (wpAny_comprehension_free (use:=some (assign (.Name y py) X.env)) (Q:=fun _ s'=>SP X u D .next s') rfl hs hcl S.kind S.names
  (aW (hit u s σ H _ I h) fun v s1 h1=>aW h1 fun itv s2 h2=>?_)) (fun _ s' hq=>wpAny_pure (wpAny_pure hq)) fun _ _ e=>e)
 obtain⟨it,fp,tn,J,H2,e,I2,T,st2,f2,W,⟨m0,w0⟩,turn⟩:=h2;subst e;refine m_ (RR:=fun acc C=>compPost (model X.prog X.w) X.A X.xe (some (assign (.Name y py) X.env)) (fun _ s'=>SP X u D .next s') acc C) (Q:=fun x H1=>ck i x σ H1 D.nx) hc I2 S T st2 f2 (hg _ _) ho (ht _ _) (he _ _) W m0 w0 turn ?_;intro Dd C s' m H' hn I' fC q;show wpAny _ _ (assign (.Name y py) X.env (.ref Dd)) _ _ s';refine wpAny_assign_Name (pS I' (i:=i) hN hi (.inl hy) (v:=.ref Dd) rfl (fun s5 I5 hZ82=>?_) (.inr hy));obtain⟨a,sb,ha⟩:=hZ82;have ha':a≠C:=by
  rcases ha with z|z
  ·rw[z];exact Ne.symm fC.2.1
  ·exact fC.2.2.2.2.1 _ _ z
 refine⟨m,hn.sameBut sb (Ne.symm ha'),fun h' sb2=>⟨_,H',I5.turned (t':=s5.toks) (fun b o hb e=>(sb2.2 b hb).trans e) fC.1 fC.2.1 fC.2.2.2.1 fC.2.2.2.2.1 fC.2.2.2.2.2,q⟩⟩
end
section
variable{X:Cx}
end
section
variable{X:Cx}{pins:List (Addr×Obj)}{σ:St}{H:Hp}{s:Shared}
structure ExcK (K:W.Frag)(D:Addr):Prop where
 ga:W.findIn K (.ref D) "__getattribute__" =some (some (.builtin "BaseException.__getattribute__"))
 gh:W.findIn K (.ref D) "__getattr__" =some none
 ha:W.findIn K (.ref D) "__class__" =some (some (.builtin "object.__class__"))
 hn:W.specialIn K (.builtin "object.__class__") "__get__" =some (some (.builtin "getset_descriptor.__get__"))
 htk:W.takesIn K (.builtin "object.__class__")=some true
 hm:W.mroIn K D (.type "object")=some true
 hb:W.mroIn K D (.type "BaseException")=some true
 hc:(W.clsIn K D).isSome=true
noncomputable def oV (e D:Addr)(h:Heap):Prop:=∃o,h.get? e=some o∧o.cls= .ref D
theorem i4 {e D:Addr}{M:Model}{h:Heap}(p:oV e D h):W.Looks M h (typeOf (.ref e)) (.ref D):=by
 obtain⟨o,h1,h2⟩:=p;exact h2 ▸ (W.Looks.ld h1).andThen .now
end
end L2
namespace PySem.W
open PySem PySem.Spec PySem.Calls PyProof.Rows Builtin Builtin.ObjectAttr Builtin.Getset_descriptor
section
variable{prog:Program}{w:World}{A:Around}{E:Value→Shared→Prop}{s:Shared}{K:Frag}{x C:Addr}
theorem oF {R:Result→Shared→Prop}{tp:Value}(X:K.In s.heap)(I:L2.oV x C s.heap)(hm:mroIn K C (.type "object")=some true)
  (h:R (.ok (.ret (.ref C))) s):codeAny (model prog w) A (.call (.builtin "getset_descriptor.__get__") ⟨[.builtin "object.__class__",.ref x,tp],[]⟩) R s:=by
 obtain⟨hh,g,dr,t,os⟩:=s;have L0:=L2.i4 (M:=model prog w) I;have L1:=looks_mroIn (M:=model prog w) X hm;refine codeAny_call_builtin KF.slot_gs.plain KF.entry_gs (KF.slot_gs.check _ _ _ _ _ _ _ _ KF.type_class (KF.args_gs _ _ _) ?_);unfold Builtin.«getset_descriptor.__get__» descrGet;rw[dga_obj];refine wpAny_bind (wpAny_pure ?_);unfold descrGetter descrCheckInstance descrNameAndClass isInstance;simp only[KF.owner_class]
 repeat lk
 refine⟨Code.quiet_builtin _ (by decide +kernel),codeAny_builtin KF.entry_class ?_⟩;unfold Builtin.«object.__class__» shownTypeOf
 repeat lk
 exact h
theorem xG {M:Model}(X:K.In s.heap)(k:L2.ExcK K C):Looks M s.heap (find (.ref x) (.ref C) "__class__") (.bind (.builtin "getset_descriptor.__get__") (.builtin "object.__class__")):=by
 have L1:=looks_findIn (M:=M) X k.ha;have L2:Looks M s.heap (getOf (some (.builtin "object.__class__"))) (some (.builtin "getset_descriptor.__get__")):=looks_specialIn X k.hn;have L3:=looks_takesIn (M:=M) X k.htk;exact L1.andThen (L2.andThen ((show Looks M s.heap (dataDescriptor? (some (.builtin "object.__class__")) (some (.builtin "getset_descriptor.__get__"))) (some (.builtin "getset_descriptor.__get__",.builtin "object.__class__")) from L3.andThen .now).andThen (Looks.tag .now)))
theorem vY {tk:Tok}{Q:PySem.Fin→Shared→Prop}(X:K.In s.heap)(I:L2.oV x C s.heap)(k:L2.ExcK K C)(h:Q (.done (.ret (.ref C))) s) :
  wpAny (model prog w) A (Builtin.«object.__getattribute__» ⟨[.ref x,.str "__class__" tk],[]⟩) Q E s:=by
 obtain⟨hh,g,d,t,os⟩:=s;have L0:=L2.i4 (M:=model prog w) I;have LF:=xG (M:=model prog w) (x:=x) X k;unfold Builtin.«object.__getattribute__»;refine wpAny_bind (wpAny_pure ?_);refine wpAny_bind (wpAny_pure ?_);refine wpAny_bind (L0.at (wpAny_bind (LF.at ?_)));show wpAny _ _ (holding [.builtin "object.__class__"] (call (.builtin "getset_descriptor.__get__") [.builtin "object.__class__",.ref x,.ref C]) >>= fun v=>ret v) _ _ _;refine wpAny_bind (wpAny_holding (wpAny_call (oF (s:=⟨hh,g,d,t,os⟩) X I k.hm ?_)));exact wpAny_pure h
theorem vX {M:Model}{nameV:Value}{Q:Unit→Shared→Prop}(X:K.In s.heap)(I:L2.oV x C s.heap)(k:L2.ExcK K C)(hq:Q () s):wpAny M A (checkBuiltinCall "BaseException.__getattribute__" ⟨[.ref x,nameV],[]⟩) Q E s:=by
 obtain⟨hh,g,d,t,os⟩:=s;have L0:=L2.i4 (M:=M) I;have L3:=looks_mroIn (M:=M) X k.hb;have hk:builtinKind "BaseException.__getattribute__" =some .slot:=by decide +kernel
 have j:splitId "BaseException.__getattribute__" =some ("BaseException","__getattribute__"):=by decide +kernel
 have hargs:=PySem.F.args_bexc_ga (.ref x) nameV;simp only[checkBuiltinCall,hk,j];refine wpAny_bind ?_;unfold isInstance;refine wpAny_bind (L0.at (L3.at ?_));simp only[if_true,Bool.not_true,false_eq_true,if_false]
 repeat (first|assumption|wp_step)
theorem exc_class {Q:Option Value→Shared→Prop}(X:K.In s.heap)(I:L2.oV x C s.heap)(k:L2.ExcK K C)(h:Q (some (.ref C)) {s with toks:=s.toks+1}):wpAny (model prog w) A (getAttr? (.ref x) "__class__") Q E s:=by
 obtain⟨hh,g,d,t,os⟩:=s;have L0:=L2.i4 (M:=model prog w) I;have L1:=looks_findIn (M:=model prog w) X k.ga;have L2':=looks_findIn (M:=model prog w) X k.gh;unfold getAttr? getAttrBy? getAttrBy;refine wpAny_bind (wpAny_mkText (wpAny_bind (wpAny_attempt (wpAny_holding (wpAny_bind (L0.at (wpAny_bind (L1.at ?_))))))));dsimp only;have hx:(onTheHeap (Value.ref C)&&Value.builtin "BaseException.__getattribute__"==Value.builtin "object.__getattribute__")=false:=by
  have hx2:(Value.builtin "BaseException.__getattribute__"==Value.builtin "object.__getattribute__")=false:=by decide +kernel
  rw[hx2];rfl
 rw[hx];rw[if_neg Bool.false_ne_true];have f3:=PySem.F.excAttr_ValueError.ga.bind (.ref x);unfold getAttrByItsOwn;refine wpAny_bind ?_;show wpAny _ _ (typeLookup (.ref C) "__getattr__") _ _ _;refine L2'.at ?_;refine wpAny_bind (wpAny_attempt (wpAny_holding ?_));show wpAny _ _ (bindSpecial (.builtin "BaseException.__getattribute__") (.ref x) >>= fun p=>call p.1 (p.2 ++ [.str "__class__" t])) _ _ _;refine wpAny_bind (wpAny_of_eq f3 ?_);show wpAny _ _ (call (.builtin "BaseException.__getattribute__") [.ref x,.str "__class__" t]) _ _ _;refine wpAny_call (codeAny_call_builtin PySem.F.excAttr_ValueError.ga.plain PySem.F.entry_bexc_ga ?_);refine vX (s:=⟨hh,g,d,t+1,os⟩) X I k ?_;refine vY (s:=⟨hh,g,d,t+1,os⟩) X I k ?_;exact handed_on rfl (wpAny_pure h)
end
end PySem.W
namespace L2
open PySem PySem.Spec PyProof.Rows
theorem xY {K:W.Frag}{e D:Addr}(k:ExcK K D):W.KitX K (.ref e) (.ref D) (oV e D) where
 ty:=fun _ _ _ p=>i4 p
 it:=fun _ _ X _=>by
  have hc:=k.hc;unfold W.clsIn at hc;split at hc
  ·rename_i c' d' cd' sl' ho;intro A' Q' E' s' k q;unfold isType loadHead;exact wpAny_bind (wpAny_loadPart (k _ _ (X _ _ ho)) (wpAny_pure q))
  ·cases hc
 ne:=fun h tp dd its n sl X htp=>by
  have hc:=k.hc;refine Bool.eq_false_iff.mpr fun q=>?_;have e:D=tp:=Value.ref.inj (beq_iff_eq.mp q);subst e;unfold W.clsIn at hc;split at hc
  ·rename_i c' d' cd' sl' ho;have z:=(X _ _ ho).symm.trans htp;cases z
  ·cases hc
 ca:=fun X I h=>W.exc_class X I k h
section
variable{X:Cx}{pins:List (Addr×Obj)}{σ:St}{H:Hp}{s:Shared}
noncomputable def cV:V→Value
 |.ref a=>.ref a
 |.ty n=>.type n
 |_=>.none
theorem BZ {v:V}{u:Value}(h:RelV v u)(hv:cV v≠ .none):u=cV v:=by
 cases v with
 |ref a=>exact h
 |ty n=>exact h
 |_=>exact absurd rfl hv
end
inductive D where
 |non|bl (b:Bool)|int (i:Int)|str (x:Str)|lst (l:List D)|tup (l:List D)
 |ins (C:Addr) (ns:List Str) (l:List D)
 |dct (ks:List (List bw)) (l:List D)
 |scr (ns:List Int)
 |xc (C:Addr)
 |fdc (ks:List (List bw)) (l:List D)
inductive Res (α:Type) where
 |ok (a:α)|exc (c:Addr)|bad
noncomputable def Res.bind {α β:Type}:Res α→(α→Res β)→Res β
 |.ok a,f=>f a
 |.exc c,_=>.exc c
 |.bad,_=>.bad
structure LsS (K:W.Frag)(G:Hp)(a:Addr)(xs:List V):Prop where
 h:G a=some (.lst xs)
theorem LsS.of {K:W.Frag}{G:Hp}{a:Addr}{xs:List V}(h:G a=some (.lst xs)):LsS K G a xs:=⟨h⟩
theorem LsS.sq {K:W.Frag}{G:Hp}{a:Addr}{xs:List V}(h:LsS K G a xs):gB K G a xs:=.inl (.inl h.h)
structure TpS (K:W.Frag)(G:Hp)(a:Addr)(xs:List V):Prop where
 h:G a=some (.tup xs)
theorem TpS.of {K:W.Frag}{G:Hp}{a:Addr}{xs:List V}(h:G a=some (.tup xs)):TpS K G a xs:=⟨h⟩
theorem TpS.sq {K:W.Frag}{G:Hp}{a:Addr}{xs:List V}(h:TpS K G a xs):mj K G a xs:=.inl (.inl h.h)
instance {K:W.Frag}{G:Hp}{a:Addr}{xs:List V}:Coe (TpS K G a xs) (mj K G a xs):=⟨TpS.sq⟩
mutual
noncomputable def Rep (K:W.Frag)(G:Hp):D→V→Prop
 |.non,v=>v= .non
 |.bl b,v=>v= .bl b
 |.int i,v=>v= .int i
 |.str x,v=>v= .str x
 |.lst ds,v=>∃a xs,v= .ref a∧LsS K G a xs∧RepL K G ds xs
 |.tup ds,v=>∃a xs,v= .ref a∧TpS K G a xs∧RepL K G ds xs
 |.ins C ns ds,v=>∃a dx fs,v= .ref a∧G a=some (.ins C dx fs)∧fs.map (·.1)=ns∧RepL K G ds (fs.map (·.2))
 |.dct ks ds,v=>∃a kvs,v= .ref a∧Rd G a (.dT kvs)∧kvs.map (·.1)=ks∧RepL K G ds (kvs.map (·.2))
 |.scr ns,v=>∃a,v= .ref a∧gB K G a (ns.map V.int)
 |.xc C,v=>∃a,v= .ref a∧G a=some (l8 a (.ref C))∧ExcK K C
 |.fdc ks ds,v=>∃a o kvs,v= .ref a∧G a=some (.frz o (.dT kvs))∧kvs.map (·.1)=ks∧RepL K G ds (kvs.map (·.2))
noncomputable def RepL (K:W.Frag)(G:Hp):List D→List V→Prop
 | [],vs=>vs=[]
 |d::ds,vs=>∃v r,vs=v::r∧Rep K G d v∧RepL K G ds r
end
theorem Same.seqT {K:W.Frag}{H H':Hp}{a:Addr}{xs:List V}(e:Same H H')(h:mj K H a xs):mj K H' a xs:=by
 rcases h with (h|⟨o,h⟩)|h
 ·exact .inl (.inl (e _ _ h))
 ·exact .inl (.inr ⟨o,e _ _ h⟩)
 ·exact .inr h
mutual
theorem Rep.mono {K:W.Frag}{G G':Hp}(e:Same G G'):∀{d:D} {v:V},Rep K G d v→Rep K G' d v
 |.non,_,h=>h
 |.bl _,_,h=>h
 |.int _,_,h=>h
 |.str _,_,h=>h
 |.lst _,_,h=>by
  unfold Rep at h ⊢;obtain⟨a,xs,r,s,t⟩:=h;exact⟨a,xs,r,⟨e _ _ s.h⟩,RepL.mono e t⟩
 |.tup _,_,h=>by
  unfold Rep at h ⊢;obtain⟨a,xs,r,s,t⟩:=h;exact⟨a,xs,r,⟨e _ _ s.h⟩,RepL.mono e t⟩
 |.ins _ _ _,_,h=>by
  unfold Rep at h ⊢;obtain⟨a,dx,fs,r,s,n,t⟩:=h;exact⟨a,dx,fs,r,e _ _ s,n,RepL.mono e t⟩
 |.dct _ _,_,h=>by
  unfold Rep at h ⊢;obtain⟨a,kvs,r,s,n,t⟩:=h;refine⟨a,kvs,r,?_,n,RepL.mono e t⟩
  rcases s with s|⟨o,s⟩
  ·exact .inl (e _ _ s)
  ·exact .inr ⟨o,e _ _ s⟩
 |.scr _,_,h=>by
  unfold Rep at h ⊢;obtain⟨a,r,s⟩:=h;exact⟨a,r,e.seq s⟩
 |.xc _,_,h=>by
  unfold Rep at h ⊢;obtain⟨a,r,s,k⟩:=h;exact⟨a,r,e _ _ s,k⟩
 |.fdc _ _,_,h=>by
  unfold Rep at h ⊢;obtain⟨a,o,kvs,r,s,n,t⟩:=h;exact⟨a,o,kvs,r,e _ _ s,n,RepL.mono e t⟩
theorem RepL.mono {K:W.Frag}{G G':Hp}(e:Same G G'):∀{ds:List D} {vs:List V},RepL K G ds vs→RepL K G' ds vs
 | [],_,h=>h
 |_::_,_,h=>by
  unfold RepL at h ⊢;obtain⟨v,r,q,a,b⟩:=h;exact⟨v,r,q,Rep.mono e a,RepL.mono e b⟩
end
theorem RepL.length {K:W.Frag}{G:Hp}:∀{ds:List D} {vs:List V},RepL K G ds vs→ds.length=vs.length
 | [],vs,h=>by unfold RepL at h;rw[h];rfl
 |d::ds,vs,h=>by
  unfold RepL at h;obtain⟨v,r,rfl,_,b⟩:=h;rw[length_cons,length_cons,RepL.length b]
theorem RepL.nil {K:W.Frag}{G:Hp}:RepL K G [] []:=by unfold RepL;rfl
theorem RepL.cons {K:W.Frag}{G:Hp}{d:D}{v:V}{ds:List D}{vs:List V}(a:Rep K G d v)(b:RepL K G ds vs):RepL K G (d::ds) (v::vs):=by unfold RepL;exact⟨v,vs,rfl,a,b⟩
theorem RepL.inv {K:W.Frag}{G:Hp}{d:D}{ds:List D}{vs:List V}(h:RepL K G (d::ds) vs):∃v r,vs=v::r∧Rep K G d v∧RepL K G ds r:=by unfold RepL at h;exact h
theorem RepL.inv0 {K:W.Frag}{G:Hp}{vs:List V}(h:RepL K G [] vs):vs=[]:=by unfold RepL at h;exact h
theorem RepL.append {K:W.Frag}{G:Hp}:∀{ds es:List D} {vs ws:List V},RepL K G ds vs→RepL K G es ws→RepL K G (ds ++ es) (vs ++ ws)
 | [],_,_,_,h,h'=>by rw[h.inv0];exact h'
 |_::_,_,_,_,h,h'=>by
  obtain⟨v,r,rfl,a,b⟩:=h.inv;exact .cons a (RepL.append b h')
theorem RepL.get {K:W.Frag}{G:Hp}:∀{ds:List D} {vs:List V} {i:Nat} {d:D},RepL K G ds vs→ds[i]?=some d→∃v,vs[i]?=some v∧Rep K G d v
 | [],_,_,_,_,e=>by simp at e
 |_::_,_,0,_,h,e=>by
  obtain⟨v,r,rfl,a,b⟩:=h.inv;simp at e;subst e;exact⟨v,rfl,a⟩
 |_::_,_,i+1,_,h,e=>by
  obtain⟨v,r,rfl,a,b⟩:=h.inv;obtain⟨w,h1,h2⟩:=RepL.get (i:=i) b (by simpa using e);exact⟨w,by simpa using h1,h2⟩
theorem RepL.take {K:W.Frag}{G:Hp}:∀{ds:List D} {vs:List V} (n:Nat),RepL K G ds vs→RepL K G (ds.take n) (vs.take n)
 |_,_,0,_=>by simpa using RepL.nil
 | [],_,_+1,h=>by rw[h.inv0];simpa using RepL.nil
 |_::_,_,n+1,h=>by
  obtain⟨v,r,rfl,a,b⟩:=h.inv;exact .cons a (RepL.take n b)
theorem RepL.drop {K:W.Frag}{G:Hp}:∀{ds:List D} {vs:List V} (n:Nat),RepL K G ds vs→RepL K G (ds.drop n) (vs.drop n)
 |_,_,0,h=>h
 | [],_,_+1,h=>by rw[h.inv0];simpa using RepL.nil
 |_::_,_,n+1,h=>by
  obtain⟨v,r,rfl,a,b⟩:=h.inv;exact RepL.drop n b
theorem RepL.reverse {K:W.Frag}{G:Hp}:∀{ds:List D} {vs:List V},RepL K G ds vs→RepL K G ds.reverse vs.reverse
 | [],_,h=>by rw[h.inv0];simpa using RepL.nil
 |_::_,_,h=>by
  obtain⟨v,r,rfl,a,b⟩:=h.inv;rw[reverse_cons,reverse_cons];exact(RepL.reverse b).append (.cons a .nil)
theorem RepL.ints {K:W.Frag}{G:Hp}:∀{ns:List Int} {vs:List V},RepL K G (ns.map D.int) vs→vs=ns.map V.int
 | [],_,h=>h.inv0
 |n::ns,_,h=>by
  obtain⟨v,r,rfl,a,b⟩:=RepL.inv (by simpa using h);rw[RepL.ints b];have a':v= .int n:=by unfold Rep at a;exact a
  rw[a'];rfl
theorem RepL.of_ints {K:W.Frag}{G:Hp}:∀(ns:List Int),RepL K G (ns.map D.int) (ns.map V.int)
 | []=>.nil
 |n::ns=>.cons (by unfold Rep;rfl) (RepL.of_ints ns)
noncomputable def oG (o:HO):Prop:=∃ks:List bw,o= .tup (ks.map kV)
structure Ext (G H G' H':Hp):Prop where
 hh:Same H H'
 gg:Same G G'
 gh:Same G' H'
 nw:∀b o,G' b=some o→G b=some o∨H b=none∨oG o
theorem Ext.refl {G H:Hp}(s:Same G H):Ext G H G H:=⟨.refl _,.refl _,s,fun _ _ h=>.inl h⟩
theorem Ext.trans {G H G1 H1 G2 H2:Hp}(a:Ext G H G1 H1)(b:Ext G1 H1 G2 H2):Ext G H G2 H2:=
 ⟨a.hh.trans b.hh,a.gg.trans b.gg,b.gh,fun c o h=>(b.nw c o h).elim (fun z=>a.nw c o z) fun z=>.inr (z.imp a.hh.free id)⟩
theorem Ext.new {G H:Hp}(s:Same G H){p:Addr}(hp:H p=none)(o:HO):Ext G H (a9 G p o) (a9 H p o):=
 ⟨fun b u e=>by rw[ak (az e hp)];exact e,fun b u e=>by rw[ak (az (s b u e) hp)];exact e,
  fun b u e=>by
   by_cases hb:b=p
   ·subst hb;rw[aq]at e ⊢;exact e
   ·rw[ak hb]at e ⊢;exact s b u e,
  fun b u e=>by
   by_cases hb:b=p
   ·subst hb;exact .inr (.inl hp)
   ·rw[ak hb]at e;exact .inl e⟩
noncomputable def OkR {α:Type}(E:XK)(H:Hp):Res α→Prop
 |.ok _=>True
 |.exc c=>∀H',Same H H'→E (.ref c) none H'
 |.bad=>False
theorem OkR.fst {α β:Type}{E:XK}{H:Hp}{x:Res α}{f:α→Res β}(h:OkR E H (x.bind f)):OkR E H x:=by
 cases x with
 |ok a=>trivial
 |exc c=>exact h
 |bad=>exact h
theorem OkR.snd {α β:Type}{E:XK}{H H1:Hp}{x:Res α}{f:α→Res β}{a:α}(h:OkR E H (x.bind f))(e:x= .ok a)(s:Same H H1):OkR E H1 (f a):=by
 subst e;have h':OkR E H (f a):=h;cases q:f a with
 |ok b=>trivial
 |exc c=>rw[q]at h';exact fun H' s'=>h' H' (s.trans s')
 |bad=>rw[q]at h';exact h'
theorem OkR.le {α:Type}{E:XK}{H H1:Hp}{x:Res α}(h:OkR E H x)(s:Same H H1):OkR E H1 x:=by
 cases x with
 |ok b=>trivial
 |exc c=>exact fun H' s'=>h H' (s.trans s')
 |bad=>exact h
theorem am {α β:Type}{x:Res α}{f:α→Res β}{a:α}{b:β}(e:x= .ok a)(h:f a= .ok b):x.bind f= .ok b:=by subst e;exact h
noncomputable abbrev DS:=List (Option D)
noncomputable def Ro (K:W.Frag)(G:Hp)(σ:St)(ρ:DS):Prop:=∀(i:Nat) (d:D),ρ[i]?=some (some d)→∃v,σ[i]?=some (some v)∧Rep K G d v
theorem Ro.mono {K:W.Frag}{G G':Hp}{σ:St}{ρ:DS}(h:Ro K G σ ρ)(s:Same G G'):Ro K G' σ ρ:=fun i d e=>let ⟨v,a,b⟩:=h i d e;⟨v,a,b.mono s⟩
theorem Ro.nil {K:W.Frag}{G:Hp}{σ:St}:Ro K G σ []:=fun i d e=>by simp at e
theorem Ro.cons {K:W.Frag}{G:Hp}{σ:St}{ρ:DS}{v:V}{d:D}(a:Rep K G d v)(h:Ro K G σ ρ):Ro K G (some v::σ) (some d::ρ):=fun i e q=>by
 cases i with
 |zero=>simp at q;subst q;exact⟨v,rfl,a⟩
 |succ i=>simpa using h i e (by simpa using q)
theorem Ro.skip {K:W.Frag}{G:Hp}{σ:St}{ρ:DS}{o:Option V}(h:Ro K G σ ρ):Ro K G (o::σ) (none::ρ):=fun i e q=>by
 cases i with
 |zero=>simp at q
 |succ i=>simpa using h i e (by simpa using q)
inductive DQ (X:Cx)(pins:List (Addr×Obj))(σ:St)(G H:Hp)(o:Res D)(u:Value)(s':Shared):Prop
 |mk (d:D) (e:o= .ok d) (v:V) (G' H':Hp) (i:Inv X pins σ H' s') (r:RelV v u) (x:Ext G H G' H') (p:Rep X.K G' d v)
inductive DAQ (X:Cx)(pins:List (Addr×Obj))(σ:St)(G H:Hp)(o:Res (List D))(us:List Value)(s':Shared):Prop
 |mk (ds:List D) (e:o= .ok ds) (vs:List V) (G' H':Hp) (i:Inv X pins σ H' s') (r:Vals vs us) (x:Ext G H G' H') (p:RepL X.K G' ds vs)
inductive DTQ (X:Cx)(pins:List (Addr×Obj))(σ:St)(G H:Hp)(o:Res Bool)(b:Bool)(s':Shared):Prop
 |mk (e:o= .ok b) (G' H':Hp) (i:Inv X pins σ H' s') (x:Ext G H G' H')
noncomputable def PD (X:Cx)(E:XK)(e:Expr)(f:DS→Res D):Prop:=
 ∀(pins:List (Addr×Obj)) (s:Shared) (σ:St) (G H:Hp) (ρ:DS),Inv X pins σ H s→Same G H→Ro X.K G σ ρ→OkR E H (f ρ)→
  wpAny (model X.prog X.w) X.A (eval e X.env) (DQ X pins σ G H (f ρ)) X.xe s
noncomputable def lm (X:Cx)(E:XK)(es:List Expr)(f:DS→Res (List D)):Prop:=
 ∀(pos:Pos) (pins:List (Addr×Obj)) (s:Shared) (σ:St) (G H:Hp) (ρ:DS),Inv X pins σ H s→Same G H→Ro X.K G σ ρ→OkR E H (f ρ)→
  wpAny (model X.prog X.w) X.A (spliced (backTo pos (starEach es X.env))) (DAQ X pins σ G H (f ρ)) X.xe s
noncomputable def tm (X:Cx)(E:XK)(e:Expr)(f:DS→Res Bool):Prop:=
 ∀(pins:List (Addr×Obj)) (s:Shared) (σ:St) (G H:Hp) (ρ:DS),Inv X pins σ H s→Same G H→Ro X.K G σ ρ→OkR E H (f ρ)→
  wpAny (model X.prog X.w) X.A (isTrue e X.env (eval e X.env)) (DTQ X pins σ G H (f ρ)) X.xe s
noncomputable def PDW (X:Cx)(E:XK)(e:Expr)(f:DS→Res Bool):Prop:=
 ∀(whole:Sem Value) (pins:List (Addr×Obj)) (s:Shared) (σ:St) (G H:Hp) (ρ:DS),Inv X pins σ H s→Same G H→Ro X.K G σ ρ→OkR E H (f ρ)→
  wpAny (model X.prog X.w) X.A (isTrue e X.env whole) (DTQ X pins σ G H (f ρ)) X.xe s
theorem PDW.pt {X:Cx}{E:XK}{e:Expr}{f:DS→Res Bool}(h:PDW X E e f):tm X E e f:=h _
inductive tD (K:W.Frag)(E:XK)(f:DS→Res D)(σ:St)(H:Hp)(Q:VK):Prop
 |mk (G:Hp) (ρ:DS) (s:Same G H) (r:Ro K G σ ρ) (o:OkR E H (f ρ)) (k:∀d,f ρ= .ok d→∀v G' H',Ext G H G' H'→Rep K G' d v→Q v H')
theorem du {X:Cx}{E:XK}{e:Expr}{f:DS→Res D}(h:PD X E e f):PE X e (tD X.K E f):=by
 intro pins s σ H Q I hZ2;obtain⟨G,ρ,hs,hr,ho,k⟩:=hZ2;refine aW (h pins s σ G H ρ I hs hr ho) fun u s' hZ83=>(by obtain⟨d,e,v,G',H',I',rv,x,rp⟩:=hZ83;exact⟨v,H',I',rv,k d e v G' H' x rp⟩)
inductive tDT (K:W.Frag)(E:XK)(f:DS→Res Bool)(σ:St)(H:Hp)(Q:Bool→Hp→Prop):Prop
 |mk (G:Hp) (ρ:DS) (s:Same G H) (r:Ro K G σ ρ) (o:OkR E H (f ρ)) (k:∀b,f ρ= .ok b→∀G' H',Ext G H G' H'→Q b H')
theorem E8 {X:Cx}{E:XK}{e:Expr}{f:DS→Res Bool}(h:tm X E e f):PT X e (tDT X.K E f):=by
 intro pins s σ H Q I hZ3;obtain⟨G,ρ,hs,hr,ho,k⟩:=hZ3;refine aW (h pins s σ G H ρ I hs hr ho) fun b s' hZ84=>(by obtain⟨e,G',H',I',x⟩:=hZ84;exact⟨H',I',k b e G' H' x⟩)
inductive tDA (K:W.Frag)(E:XK)(f:DS→Res (List D))(σ:St)(H:Hp)(Q:List V→Hp→Prop):Prop
 |mk (G:Hp) (ρ:DS) (s:Same G H) (r:Ro K G σ ρ) (o:OkR E H (f ρ)) (k:∀ds,f ρ= .ok ds→∀vs G' H',Ext G H G' H'→RepL K G' ds vs→Q vs H')
theorem im {X:Cx}{E:XK}{es:List Expr}{f:DS→Res (List D)}(h:lm X E es f):PA X es (tDA X.K E f):=by
 intro pos pins s σ H Q I hZ4;obtain⟨G,ρ,hs,hr,ho,k⟩:=hZ4;refine aW (h pos pins s σ G H ρ I hs hr ho) fun us s' hZ85=>(by obtain⟨ds,e,vs,G',H',I',rv,x,rp⟩:=hZ85;exact⟨vs,H',I',rv,k ds e vs G' H' x rp⟩)
section
variable{X:Cx}{E:XK}
theorem C4 {i:Nat}{x:Str}{pos:Pos}(hN:X.N[i]?=some x)(hv:uJ X.env.scope x)(hd:(x==("__debug__" :Str))=false:=by decide)(hcd:(x==("__classdict__" :Str))=false:=by decide) :
  PD X E (.Name x pos) (fun ρ=>match ρ[i]? with|some (some d)=>.ok d|_=>.bad):=by
 intro pins s σ G H ρ I hs hr ho;cases e:ρ[i]? with
 |none=>simp only[e]at ho;exact ho.elim
 |some o=>
  cases o with
  |none=>simp only[e]at ho;exact ho.elim
  |some d=>
   obtain⟨v,hv',rp⟩:=hr i d e;exact aW (fH hN hv hd hcd pins s σ H (fun v' H'=>H'=H∧v'=v) I ⟨v,hv',rfl,rfl⟩) fun u s' hZ86=>by
    obtain⟨v',H',I',r,e1,e2⟩:=hZ86;subst e1 e2;exact⟨d,by simp only[e],v',G,H',I',r,.refl hs,rp⟩
theorem kQ {e:Expr}{t:TE}{d:D}(h:PE X e t)(ht:∀σ H,t σ H fun v H'=>H'=H∧∀G,Rep X.K G d v):PD X E e (fun _=>.ok d):=by
 intro pins s σ G H ρ I hs hr ho;refine aW (h pins s σ H _ I (ht σ H)) fun u s' hZ87=>?_;obtain⟨v,H',I',r,e1,e2⟩:=hZ87;subst e1;exact⟨d,rfl,v,G,H',I',r,.refl hs,e2 G⟩
theorem ag {i j pos}:PD X E (.Constant (.int i) j pos) (fun _=>.ok (.int i)):=kQ C7 fun _ _=>⟨rfl,fun _=>by unfold Rep;rfl⟩
theorem fV {b j pos}:PD X E (.Constant (.bool b) j pos) (fun _=>.ok (.bl b)):=kQ En fun _ _=>⟨rfl,fun _=>by unfold Rep;rfl⟩
theorem yn {j pos}:PD X E (.Constant .none j pos) (fun _=>.ok .non):=kQ C8 fun _ _=>⟨rfl,fun _=>by unfold Rep;rfl⟩
theorem uf {x j pos}:PD X E (.Constant (.str x) j pos) (fun _=>.ok (.str x)):=kQ yw fun _ _=>⟨rfl,fun _=>by unfold Rep;rfl⟩
theorem yk {x:Str}{i:Int}{u:Value}{pos:Pos}(hg:Gl X x)(hm:X.mg x=some u)(r:∃t,u= .int i t)(hd:(x==("__debug__" :Str))=false:=by decide):PD X E (.Name x pos) (fun _=>.ok (.int i)):=
 kQ (vp (v:=.int i) hg hm r hd) fun _ _=>⟨rfl,fun _=>by unfold Rep;rfl⟩
theorem af:lm X E [] (fun _=>.ok []):=fun _ _ _ _ G H _ I hs _ _=>Calls.spliced_nil ⟨[],rfl,[],G,H,I,.nil,.refl hs,.nil⟩
theorem aa {e:Expr}{es:List Expr}{f:DS→Res D}{g:DS→Res (List D)}(ha:PD X E e f)(hr:lm X E es g)(hs:starEach (e::es) X.env=(false,eval e X.env)::starEach es X.env:=by rfl) :
  lm X E (e::es) (fun ρ=>(f ρ).bind fun d=>(g ρ).bind fun ds=>.ok (d::ds)):=by
 intro pos pins s σ G H ρ I hsm hro ho;have key:PA X (e::es) (vF (tD X.K E f) (tDA X.K E g)):=bH (du ha) (im hr) hs;refine aW (key pos pins s σ H (fun vs H'=>∃ds,((f ρ).bind fun d=>(g ρ).bind fun ds=>.ok (d::ds))= .ok ds∧∃G',Ext G H G' H'∧RepL X.K G' ds vs) I ?_) fun us s' hZ88=>(by obtain⟨vs,H',I',r,ds,e1,G',x,rp⟩:=hZ88;exact⟨ds,e1,vs,G',H',I',r,x,rp⟩);refine⟨G,ρ,hsm,hro,ho.fst,fun d ed v G1 H1 x1 r1=>⟨G1,ρ,x1.gh,hro.mono x1.gg,(ho.snd ed x1.hh).fst,fun ds eds vs G2 H2 x2 r2=>⟨d::ds,am ed (am eds rfl),G2,x1.trans x2,.cons (r1.mono x2.gg) r2⟩⟩⟩
noncomputable def DOp (X:Cx)(E:XK)(f:Value→Value→Sem Value)(g:D→D→Res D):Prop:=
 ∀(pins:List (Addr×Obj)) (s:Shared) (σ:St) (G H:Hp) (x y:V) (dx dy:D) (v u:Value),Inv X pins σ H s→Same G H→Rep X.K G dx x→Rep X.K G dy y→RelV x v→RelV y u→OkR E H (g dx dy)→
  wpAny (model X.prog X.w) X.A (f v u) (DQ X pins σ G H (g dx dy)) X.xe s
theorem DOp.of {f:Value→Value→Sem Value}{r:R2}{g:D→D→Res D}(ho:rh X f r)
  (h:∀(G H:Hp) (x y:V) (dx dy:D),Same G H→Rep X.K G dx x→Rep X.K G dy y→OkR E H (g dx dy)→r x y H (fun v' H'=>∃d G',g dx dy= .ok d∧Ext G H G' H'∧Rep X.K G' d v')):DOp X E f g:=by
 intro pins s σ G H x y dx dy v u I hs rx ry rv ru ok;refine aW (ho pins s σ H x y v u _ I rv ru (h G H x y dx dy hs rx ry ok)) fun w s' hZ89=>(by obtain⟨v',H',I',r',d,G',e,x',rp⟩:=hZ89;exact⟨d,e,v',G',H',I',r',x',rp⟩)
noncomputable def ae (f:DS→Res D)(g:DS→Res D)(o:D→D→Res D):DS→Res D:=fun ρ=>(f ρ).bind fun a=>(g ρ).bind fun b=>o a b
theorem ug {a b:Expr}{fa fb:DS→Res D}(ha:PD X E a fa)(hb:PD X E b fb){op:Value→Value→Sem Value}{o:D→D→Res D}(hop:DOp X E op o){pins:List (Addr×Obj)}{s:Shared}{σ:St}{G H:Hp}{ρ:DS}(I:Inv X pins σ H s)(hs:Same G H)(hro:Ro X.K G σ ρ)(ho:OkR E H (ae fa fb o ρ)) :
  wpAny (model X.prog X.w) X.A (eval a X.env) (fun v s₁=>wpAny (model X.prog X.w) X.A (eval b X.env) (fun u s₂=>wpAny (model X.prog X.w) X.A (op v u) (DQ X pins σ G H (ae fa fb o ρ)) X.xe s₂) X.xe s₁) X.xe s:=by
 refine aW (ha pins s σ G H ρ I hs hro ho.fst) fun v s1 hZ90=>?_;obtain⟨d1,e1,v1,G1,H1,I1,r1,x1,p1⟩:=hZ90;refine aW (hb pins s1 σ G1 H1 ρ I1 x1.gh (hro.mono x1.gg) (ho.snd e1 x1.hh).fst) fun u s2 hZ91=>?_;obtain⟨d2,e2,v2,G2,H2,I2,r2,x2,p2⟩:=hZ91;refine aW (hop pins s2 σ G2 H2 v1 v2 d1 d2 v u I2 x2.gh (p1.mono x2.gg) p2 r1 r2 ((ho.snd e1 x1.hh).snd e2 x2.hh)) fun w s3 hZ92=>?_;obtain⟨d,e,v3,G3,H3,I3,r3,x3,p3⟩:=hZ92;exact⟨d,am e1 (am e2 e),v3,G3,H3,I3,r3,(x1.trans x2).trans x3,p3⟩
theorem ax {op:Operator}{a b:Expr}{fa fb:DS→Res D}{o:D→D→Res D}{pos:Pos}(hop:DOp X E (binaryOp op) o)(ha:PD X E a fa)(hb:PD X E b fb):PD X E (.BinOp a op b pos) (ae fa fb o):=
 fun pins s σ G H ρ I hs hro ho=>wpAny_BinOp (ug ha hb hop I hs hro ho)
theorem nQ {op:CmpOp}{a b:Expr}{fa fb:DS→Res D}{o:D→D→Res D}{pos:Pos}(hop:DOp X E (compareOp op) o)(ha:PD X E a fa)(hb:PD X E b fb)(hm:behindInMarks op b=false):PD X E (.Compare a [op] [b] pos) (ae fa fb o):=
 fun pins s σ G H ρ I hs hro ho=>wpAny_Compare1 (ug ha hb hop I hs hro ho) hm
noncomputable def cZ (f:DS→Res D):DS→Res Bool:=fun ρ=>(f ρ).bind fun d=>match d with|.bl b=>.ok b|_=>.bad
theorem aP {op:CmpOp}{a b:Expr}{fa fb:DS→Res D}{o:D→D→Res D}{pos:Pos}(hop:DOp X E (compareOp op) o)(ha:PD X E a fa)(hb:PD X E b fb)(hm:behindInMarks op b=false):tm X E (.Compare a [op] [b] pos) (cZ (ae fa fb o)):=by
 intro pins s σ G H ρ I hs hro ho;refine wpAny_isTrue_Compare1 (aW (ug ha hb hop I hs hro ho.fst) fun v s1 h1=>aW h1 fun u s2 h2=>aW h2 fun c s3 hZ93=>?_) hm;obtain⟨d,e,v3,G3,H3,I3,r3,x3,p3⟩:=hZ93;have k:=ho.snd e (Same.refl H);cases d with
 |bl b=>
  unfold Rep at p3;subst p3;cases r3;exact wpAny_truthy_bool ⟨am e rfl,G3,H3,I3,x3⟩
 |_=>exact k.elim
theorem jE {e:Expr}{f:DS→Res D}(h:PD X E e f)(he:∀whole,isTrue e X.env whole=(do let v ←whole;standAt e.pos;holding [v] (truthy v)):=by intro _;rfl):tm X E e (cZ f):=by
 intro pins s σ G H ρ I hs hro ho;refine isTrue_plain (aW (h pins s σ G H ρ I hs hro ho.fst) fun v s1 hZ94=>?_) (he _);obtain⟨d,e,v3,G3,H3,I3,r3,x3,p3⟩:=hZ94;have k:=ho.snd e (Same.refl H);cases d with
 |bl b=>
  unfold Rep at p3;subst p3;cases r3;exact wpAny_truthy_bool ⟨am e rfl,G3,H3,I3,x3⟩
 |_=>exact k.elim
end
theorem rep_int {K:W.Frag}{G:Hp}{i:Int}{v:V}:Rep K G (.int i) v↔v= .int i:=by unfold Rep;exact Iff.rfl
theorem rep_bl {K:W.Frag}{G:Hp}{i:Bool}{v:V}:Rep K G (.bl i) v↔v= .bl i:=by unfold Rep;exact Iff.rfl
theorem rep_non {K:W.Frag}{G:Hp}{v:V}:Rep K G .non v↔v= .non:=by unfold Rep;exact Iff.rfl
theorem rep_str {K:W.Frag}{G:Hp}{i:Str}{v:V}:Rep K G (.str i) v↔v= .str i:=by unfold Rep;exact Iff.rfl
theorem rep_lst {K:W.Frag}{G:Hp}{ds:List D}{v:V}:Rep K G (.lst ds) v↔∃a xs,v= .ref a∧LsS K G a xs∧RepL K G ds xs:=by unfold Rep;exact Iff.rfl
theorem rep_tup {K:W.Frag}{G:Hp}{ds:List D}{v:V}:Rep K G (.tup ds) v↔∃a xs,v= .ref a∧TpS K G a xs∧RepL K G ds xs:=by unfold Rep;exact Iff.rfl
theorem vB {K:W.Frag}{G:Hp}{ns:List Int}{v:V}:Rep K G (.scr ns) v↔∃a,v= .ref a∧gB K G a (ns.map V.int):=by unfold Rep;exact Iff.rfl
theorem rep_xc {K:W.Frag}{G:Hp}{C:Addr}{v:V}:Rep K G (.xc C) v↔∃a,v= .ref a∧G a=some (l8 a (.ref C))∧ExcK K C:=by unfold Rep;exact Iff.rfl
theorem rep_fdc {K:W.Frag}{G:Hp}{ks:List (List bw)}{ds:List D}{v:V}:Rep K G (.fdc ks ds) v↔∃a o kvs,v= .ref a∧G a=some (.frz o (.dT kvs))∧kvs.map (·.1)=ks∧RepL K G ds (kvs.map (·.2)):=by unfold Rep;exact Iff.rfl
theorem rep_dct {K:W.Frag}{G:Hp}{ks:List (List bw)}{ds:List D}{v:V}:Rep K G (.dct ks ds) v↔∃a kvs,v= .ref a∧Rd G a (.dT kvs)∧kvs.map (·.1)=ks∧RepL K G ds (kvs.map (·.2)):=by unfold Rep;exact Iff.rfl
theorem rep_ins {K:W.Frag}{G:Hp}{C:Addr}{ns:List Str}{ds:List D}{v:V}:Rep K G (.ins C ns ds) v↔∃a dx fs,v= .ref a∧G a=some (.ins C dx fs)∧fs.map (·.1)=ns∧RepL K G ds (fs.map (·.2)):=by unfold Rep;exact Iff.rfl
noncomputable def iO (c:Int→Int→Bool)(g:Int→Int→D):D→D→Res D
 |.int i,.int j=>if c i j=true then .ok (g i j) else .bad
 |_,_=>.bad
section
variable{X:Cx}{E:XK}
theorem qh {f:Value→Value→Sem Value}{C:Int→Int→Prop}{g:Int→Int→V}{c:Int→Int→Bool}{gD:Int→Int→D}(ho:rh X f (rI C g))(hc:∀i j,c i j=true→C i j)(hg:∀i j G,Rep X.K G (gD i j) (g i j)):DOp X E f (iO c gD):=
 DOp.of ho fun G H x y dx dy hs rx ry ok=>by
  unfold iO at ok ⊢;split at ok
  ·rename_i i j;rw[rep_int]at rx ry;subst rx ry;by_cases h:c i j=true
   ·rw[if_pos h];exact⟨i,j,rfl,rfl,hc i j h,_,G,rfl,.refl hs,hg i j G⟩
   ·rw[if_neg h]at ok;exact ok.elim
  ·exact ok.elim
theorem iX {f:Value→Value→Sem Value}{g:Int→Int→V}{gD:Int→Int→D}(ho:rh X f (BI g))(hg:∀i j G,Rep X.K G (gD i j) (g i j)):DOp X E f (iO (fun _ _=>true) gD):=
 DOp.of ho fun G H x y dx dy hs rx ry ok=>by
  unfold iO at ok ⊢;split at ok
  ·rename_i i j;rw[rep_int]at rx ry;subst rx ry;exact⟨i,j,rfl,rfl,_,G,rfl,.refl hs,hg i j G⟩
  ·exact ok.elim
instance (i j:Int):Decidable (CMul i j):=by unfold CMul;infer_instance
instance (i j:Int):Decidable (w6 i j):=by unfold w6;infer_instance
noncomputable def xg:D→D→Res D:=iO (fun _ _=>true) fun i j=>.int (i+j)
noncomputable def qX:D→D→Res D:=iO (fun _ _=>true) fun i j=>.int (i-j)
noncomputable def wy:D→D→Res D:=iO (fun i j=>decide (CMul i j)) fun i j=>.int (i*j)
noncomputable def uY:D→D→Res D:=iO (fun i j=>decide (w6 i j)) fun i j=>.int (i / j)
noncomputable def qG:D→D→Res D:=iO (fun _ j=>decide (0<j)) fun i j=>.int (i % j)
noncomputable def CN:D→D→Res D:=iO (fun _ _=>true) fun i j=>.bl (decide (i<j))
noncomputable def tt:D→D→Res D:=iO (fun _ _=>true) fun i j=>.bl (decide (i≤j))
noncomputable def Dv:D→D→Res D:=iO (fun _ _=>true) fun i j=>.bl (decide (j<i))
noncomputable def Fz:D→D→Res D:=iO (fun _ _=>true) fun i j=>.bl (decide (j≤i))
theorem do_add:DOp X E (binaryOp .Add) xg:=iX CV fun _ _ _=>rep_int.mpr rfl
theorem ng:DOp X E (binaryOp .Sub) qX:=iX C0 fun _ _ _=>rep_int.mpr rfl
theorem do_mul:DOp X E (binaryOp .Mult) wy:=qh CY (fun _ _ h=>of_decide_eq_true h) fun _ _ _=>rep_int.mpr rfl
theorem zD:DOp X E (binaryOp .FloorDiv) uY:=qh Ax (fun _ _ h=>of_decide_eq_true h) fun _ _ _=>rep_int.mpr rfl
theorem lu:DOp X E (binaryOp .Mod) qG:=qh CW (fun _ _ h=>of_decide_eq_true h) fun _ _ _=>rep_int.mpr rfl
theorem rK:DOp X E (compareOp .Lt) CN:=iX Ek fun _ _ _=>rep_bl.mpr rfl
theorem iI:DOp X E (compareOp .LtE) tt:=iX Ej fun _ _ _=>rep_bl.mpr rfl
theorem Bm:DOp X E (compareOp .Gt) Dv:=iX Ei fun _ _ _=>rep_bl.mpr rfl
noncomputable def CS:D→Res D
 |.int i=>.ok (.int (-i))
 |_=>.bad
theorem qJ {a:Expr}{fa:DS→Res D}{pos:Pos}(ha:PD X E a fa):PD X E (.UnaryOp .USub a pos) (fun ρ=>(fa ρ).bind CS):=by
 intro pins s σ G H ρ I hs hro ho;refine UnaryOp_ (aW (ha pins s σ G H ρ I hs hro ho.fst) fun v s1 hZ95=>?_);obtain⟨d1,e1,v1,G1,H1,I1,r1,x1,p1⟩:=hZ95;have k:=ho.snd e1 x1.hh;cases d1 with
 |int i=>
  rw[rep_int]at p1;subst p1;exact aW (Ds pins s1 σ H1 (.int i) v (fun v' H'=>H'=H1∧v'= .int (-i)) I1 r1 ⟨i,rfl,rfl,rfl⟩) fun w s2 hZ96=>by
   obtain⟨v2,H2,I2,r2,h1,h2⟩:=hZ96;subst h1 h2;exact⟨.int (-i),am e1 rfl,_,G1,_,I2,r2,x1,rep_int.mpr rfl⟩
 |_=>exact k.elim
noncomputable def EJ (d:D):Bool:=match d with|.non=>true|_=>false
noncomputable def EZ (d e:D):Res D:=match e with|.non=>.ok (.bl (EJ d))|_=>.bad
noncomputable def Eg (d e:D):Res D:=match e with|.non=>.ok (.bl (!EJ d))|_=>.bad
theorem yq {a:Expr}{pos:Pos}{f:DS→Res Bool}(ha:tm X E a f):PDW X E (.BoolOp .And [a] pos) f:=by
 intro wh pins s σ G H ρ I hs hro ho;refine isTrue_and (aW (ha pins s σ G H ρ I hs hro ho) fun c s1 e=>?_);cases c with
 |true=>exact isTrue_and_nil e
 |false=>exact e
theorem kU {a:Expr}{pos:Pos}{f:DS→Res Bool}(ha:tm X E a f):PDW X E (.BoolOp .Or [a] pos) f:=by
 intro wh pins s σ G H ρ I hs hro ho;refine isTrue_or (aW (ha pins s σ G H ρ I hs hro ho) fun c s1 e=>?_);cases c with
 |false=>exact isTrue_or_nil e
 |true=>exact e
noncomputable def zq (f g:DS→Res Bool):DS→Res Bool:=fun ρ=>(f ρ).bind fun b=>if b=true then g ρ else .ok false
noncomputable def BE (f g:DS→Res Bool):DS→Res Bool:=fun ρ=>(f ρ).bind fun b=>if b=true then .ok true else g ρ
theorem AA {a b:Expr}{rest:List Expr}{pos:Pos}{f g:DS→Res Bool}(ha:tm X E a f)(hb:PDW X E (.BoolOp .And (b::rest) pos) g):PDW X E (.BoolOp .And (a::b::rest) pos) (zq f g):=by
 intro wh pins s σ G H ρ I hs hro ho;refine isTrue_and (aW (ha pins s σ G H ρ I hs hro ho.fst) fun c s1 hZ97=>?_);obtain⟨e,G1,H1,I1,x1⟩:=hZ97;cases c with
 |true=>exact aW (hb wh pins s1 σ G1 H1 ρ I1 x1.gh (hro.mono x1.gg) (ho.snd e x1.hh)) fun c2 s2 hZ98=>(by obtain⟨e2,G2,H2,I2,x2⟩:=hZ98;exact⟨am e (by rw[if_pos rfl];exact e2),G2,H2,I2,x1.trans x2⟩)
 |false=>exact⟨am e rfl,G1,H1,I1,x1⟩
theorem lH {a b:Expr}{rest:List Expr}{pos:Pos}{f g:DS→Res Bool}(ha:tm X E a f)(hb:PDW X E (.BoolOp .Or (b::rest) pos) g):PDW X E (.BoolOp .Or (a::b::rest) pos) (BE f g):=by
 intro wh pins s σ G H ρ I hs hro ho;refine isTrue_or (aW (ha pins s σ G H ρ I hs hro ho.fst) fun c s1 hZ99=>?_);obtain⟨e,G1,H1,I1,x1⟩:=hZ99;cases c with
 |false=>exact aW (hb wh pins s1 σ G1 H1 ρ I1 x1.gh (hro.mono x1.gg) (ho.snd e x1.hh)) fun c2 s2 hZ100=>(by obtain⟨e2,G2,H2,I2,x2⟩:=hZ100;exact⟨am e (by rw[if_neg Bool.false_ne_true];exact e2),G2,H2,I2,x1.trans x2⟩)
 |true=>exact⟨am e rfl,G1,H1,I1,x1⟩
noncomputable def jJ (f:DS→Res Bool):DS→Res Bool:=fun ρ=>(f ρ).bind fun b=>.ok (!b)
theorem cD {a:Expr}{pos:Pos}{f:DS→Res Bool}(ha:tm X E a f):tm X E (.UnaryOp .Not a pos) (jJ f):=by
 intro pins s σ G H ρ I hs hro ho;exact isTrue_not (aW (ha pins s σ G H ρ I hs hro ho.fst) fun c s1 hZ101=>(by obtain⟨e,G1,H1,I1,x1⟩:=hZ101;exact⟨am e rfl,G1,H1,I1,x1⟩))
noncomputable def xi (f g:DS→Res D):DS→Res D:=fun ρ=>(f ρ).bind fun d=>match d with|.bl true=>g ρ|.bl false=>.ok (.bl false)|_=>.bad
noncomputable def CT (f:DS→Res D):DS→Res D:=fun ρ=>(f ρ).bind fun d=>match d with|.bl b=>.ok (.bl (!b))|_=>.bad
theorem ue {op}{a:Expr}{pos:Pos}{f:DS→Res D}(h:PD X E a f):PD X E (.BoolOp op [a] pos) f:=fun pins s σ G H ρ I hs hro ho=>BoolOp_one (h pins s σ G H ρ I hs hro ho)
theorem ub {a b:Expr}{rest:List Expr}{pos:Pos}{f g:DS→Res D}(ha:PD X E a f)(hb:PD X E (.BoolOp .And (b::rest) pos) g):PD X E (.BoolOp .And (a::b::rest) pos) (xi f g):=by
 intro pins s σ G H ρ I hs hro ho;refine BoolOp_and (aW (ha pins s σ G H ρ I hs hro ho.fst) fun v s1 hZ102=>?_);obtain⟨d1,e1,v1,G1,H1,I1,r1,x1,p1⟩:=hZ102;have k:=ho.snd e1 x1.hh;cases d1 with
 |bl c=>
  rw[rep_bl]at p1;subst p1;cases r1;refine wpAny_truthy_bool ?_;cases c with
  |true=>exact aW (hb pins s1 σ G1 H1 ρ I1 x1.gh (hro.mono x1.gg) k) fun w s2 hZ103=>(by obtain⟨d2,e2,v2,G2,H2,I2,r2,x2,p2⟩:=hZ103;exact⟨d2,am e1 e2,v2,G2,H2,I2,r2,x1.trans x2,p2⟩)
  |false=>exact⟨_,am e1 rfl,.bl false,G1,H1,I1,rfl,x1,rep_bl.mpr rfl⟩
 |_=>exact k.elim
theorem C2 {a:Expr}{pos:Pos}{f:DS→Res D}(ha:PD X E a f):PD X E (.UnaryOp .Not a pos) (CT f):=by
 intro pins s σ G H ρ I hs hro ho;refine UnaryOp_ (aW (ha pins s σ G H ρ I hs hro ho.fst) fun v s1 hZ104=>?_);obtain⟨d1,e1,v1,G1,H1,I1,r1,x1,p1⟩:=hZ104;have k:=ho.snd e1 x1.hh;cases d1 with
 |bl c=>
  rw[rep_bl]at p1;subst p1;cases r1;exact not_of (wpAny_truthy_bool ⟨_,am e1 rfl,.bl (!c),G1,H1,I1,rfl,x1,rep_bl.mpr rfl⟩)
 |_=>exact k.elim
noncomputable def ie (fa fb fc:DS→Res D)(o o':D→D→Res D):DS→Res Bool:=fun ρ=>(fa ρ).bind fun a=>(fb ρ).bind fun b=>(o a b).bind fun r=>match r with|.bl true=>(fc ρ).bind fun c=>(o' b c).bind fun q=>(match q with|.bl k=>.ok k|_=>.bad)|.bl false=>.ok false|_=>.bad
noncomputable def aM (n:Nat):Bool:=decide (n≤100000)
theorem bu {n:Nat}(h:aM n=true):n≤sizeLine:=le_trans (of_decide_eq_true h) (by decide)
noncomputable def dM (f:DS→Res (List D)):DS→Res D:=fun ρ=>(f ρ).bind fun ds=>if aM ds.length=true then .ok (.lst ds) else .bad
noncomputable def cS (f:DS→Res (List D)):DS→Res D:=fun ρ=>(f ρ).bind fun ds=>if aM ds.length=true then .ok (.tup ds) else .bad
theorem iq {es:List Expr}{pos:Pos}{f:DS→Res (List D)}(h:lm X E es f):PD X E (.List es pos) (dM f):=by
 intro pins s σ G H ρ I hs hro ho;refine aW (ui (im h) pins s σ H (fun v H'=>∃d G',dM f ρ= .ok d∧Ext G H G' H'∧Rep X.K G' d v) I ?_) fun u s' hZ105=>(by obtain⟨v,H',I',r,d,G',e,x,rp⟩:=hZ105;exact⟨d,e,v,G',H',I',r,x,rp⟩);refine⟨G,ρ,hs,hro,ho.fst,fun ds e vs G1 H1 x1 r1=>?_⟩;have k:=ho.snd e x1.hh;by_cases hl:aM ds.length=true
 ·refine⟨by rw[←r1.length];exact bu hl,fun p hp=>⟨.lst ds,a9 G1 p (.lst vs),am e (if_pos hl),x1.trans (.new x1.gh hp _),rep_lst.mpr ⟨p,vs,rfl,.of aq,r1.mono (Ext.new x1.gh hp _).gg⟩⟩⟩
 ·rw[if_neg hl]at k;exact k.elim
theorem cx {es:List Expr}{x1}{pos:Pos}{f:DS→Res (List D)}(h:lm X E es f):PD X E (.Tuple es x1 pos) (cS f):=by
 intro pins s σ G H ρ I hs hro ho;refine aW (uj (im h) pins s σ H (fun v H'=>∃d G',cS f ρ= .ok d∧Ext G H G' H'∧Rep X.K G' d v) I ?_) fun u s' hZ106=>(by obtain⟨v,H',I',r,d,G',e,x,rp⟩:=hZ106;exact⟨d,e,v,G',H',I',r,x,rp⟩);refine⟨G,ρ,hs,hro,ho.fst,fun ds e vs G1 H1 x1 r1=>?_⟩;have k:=ho.snd e x1.hh;by_cases hl:aM ds.length=true
 ·refine⟨by rw[←r1.length];exact bu hl,fun p hp=>⟨.tup ds,a9 G1 p (.tup vs),am e (if_pos hl),x1.trans (.new x1.gh hp _),rep_tup.mpr ⟨p,vs,rfl,.of aq,r1.mono (Ext.new x1.gh hp _).gg⟩⟩⟩
 ·rw[if_neg hl]at k;exact k.elim
end
section
variable{X:Cx}{E:XK}
theorem C3 {e:Expr}{r:R2}{fa fb:DS→Res D}{o:D→D→Res D}(he:PE X e (Fl r (tD X.K E fa) (tD X.K E fb)))
  (h:∀(G H:Hp) (x y:V) (dx dy:D) (Q:VK),Same G H→Rep X.K G dx x→Rep X.K G dy y→OkR E H (o dx dy)→(∀d v' G' H',o dx dy= .ok d→Ext G H G' H'→Rep X.K G' d v'→Q v' H')→r x y H Q):PD X E e (ae fa fb o):=by
 intro pins s σ G H ρ I hs hro ho;refine aW (he pins s σ H (fun v H'=>∃d G',ae fa fb o ρ= .ok d∧Ext G H G' H'∧Rep X.K G' d v) I ?_) fun u s' hZ107=>(by obtain⟨v,H',I',r',d,G',e,x,rp⟩:=hZ107;exact⟨d,e,v,G',H',I',r',x,rp⟩);refine⟨G,ρ,hs,hro,ho.fst,fun d1 e1 v1 G1 H1 x1 p1=>⟨G1,ρ,x1.gh,hro.mono x1.gg,(ho.snd e1 x1.hh).fst,fun d2 e2 v2 G2 H2 x2 p2=>?_⟩⟩;exact h G2 H2 v1 v2 d1 d2 _ x2.gh (p1.mono x2.gg) p2 ((ho.snd e1 x1.hh).snd e2 x2.hh) fun d v' G' H' ed xx rp=>⟨d,G',am e1 (am e2 ed),(x1.trans x2).trans xx,rp⟩
theorem RepL.atI {K:W.Frag}{G:Hp}{ds:List D}{vs:List V}{i:Int}{d:D}(h:RepL K G ds vs)(e:atI ds i=some d):∃v,L2.atI vs i=some v∧Rep K G d v:=by
 unfold L2.atI at e ⊢;rw[←h.length];cases q:qy ds.length i with
 |none=>rw[q]at e;cases e
 |some j=>
  rw[q]at e;exact h.get (by simpa using e)
noncomputable def aH:D→D→Res D
 |.lst l,.int i=>match L2.atI l i with|some d=>.ok d|none=>.bad
 |.tup l,.int i=>match L2.atI l i with|some d=>.ok d|none=>.bad
 |.scr ns,.int i=>match L2.atI ns i with|some n=>.ok (.int n)|none=>.bad
 |.str z,.int i=>match L2.atI z.cps.toList i with|some c=>if aM z.length=true then .ok (.str ⟨#[c]⟩) else .bad|none=>.bad
 |_,_=>.bad
theorem zr {α β:Type}{f:α→β}{xs:List α}{i:Int}{a:α}(h:L2.atI xs i=some a):L2.atI (xs.map f) i=some (f a):=by
 unfold L2.atI at h ⊢;rw[length_map];cases q:qy xs.length i with
 |none=>rw[q]at h;cases h
 |some j=>
  rw[q]at h;show (xs.map f)[j]?=some (f a);have h':xs[j]?=some a:=h;rw[getElem?_map,h'];rfl
theorem ay {a b:Expr}{pos:Pos}{fa fb:DS→Res D}(ha:PD X E a fa)(hb:PD X E b fb)(hp:pY b:=by intro _ _;rfl):PD X E (.Subscript a b pos) (ae fa fb aH):=by
 refine C3 (BF CB (du ha) (du hb) hp) fun G H x y dx dy Q hs rx ry ok k=>?_;unfold aH at ok k;split at ok
 ·rename_i l i;rw[rep_lst]at rx;rw[rep_int]at ry;obtain⟨p,xs,rfl,sq,rl⟩:=rx;subst ry;dsimp only at ok k;cases q:L2.atI l i with
  |none=>rw[q]at ok;exact ok.elim
  |some d=>
   obtain⟨v,hv,rv⟩:=rl.atI q;rw[q]at k;exact .inl ⟨p,xs,i,v,rfl,rfl,hs.seq sq.sq,hv,k d v G H rfl (.refl hs) rv⟩
 ·rename_i l i;rw[rep_tup]at rx;rw[rep_int]at ry;obtain⟨p,xs,rfl,sq,rl⟩:=rx;subst ry;dsimp only at ok k;cases q:L2.atI l i with
  |none=>rw[q]at ok;exact ok.elim
  |some d=>
   obtain⟨v,hv,rv⟩:=rl.atI q;rw[q]at k;exact .inr (.inl ⟨p,xs,i,v,rfl,rfl,hs.seqT sq,hv,k d v G H rfl (.refl hs) rv⟩)
 ·rename_i ns i;rw[vB]at rx;rw[rep_int]at ry;obtain⟨p,rfl,sq⟩:=rx;subst ry;dsimp only at ok k;cases q:L2.atI ns i with
  |none=>rw[q]at ok;exact ok.elim
  |some n=>
   rw[q]at k;exact .inl ⟨p,_,i,.int n,rfl,rfl,hs.seq sq,zr q,k (.int n) (.int n) G H rfl (.refl hs) (rep_int.mpr rfl)⟩
 ·rename_i z i;rw[rep_str]at rx;rw[rep_int]at ry;subst rx ry;dsimp only at ok k;cases q:L2.atI z.cps.toList i with
  |none=>rw[q]at ok;exact ok.elim
  |some c=>
   rw[q]at k ok;dsimp only at k ok;by_cases hz:aM z.length=true
   ·rw[if_pos hz]at k;exact .inr (.inr ⟨z,i,c,rfl,rfl,bu hz,q,k _ _ G H rfl (.refl hs) (rep_str.mpr rfl)⟩)
   ·rw[if_neg hz]at ok;exact ok.elim
 ·exact ok.elim
noncomputable def Bi (K:W.Frag)(E:XK)(r:List V→Hp→VK→Prop)(g:List D→Res D):Prop:=
 ∀(G H:Hp) (vs:List V) (ds:List D) (Q:VK),Same G H→RepL K G ds vs→OkR E H (g ds)→(∀d v' G' H',g ds= .ok d→Ext G H G' H'→Rep K G' d v'→Q v' H')→r vs H Q
noncomputable def bf (fs:DS→Res (List D))(g:List D→Res D):DS→Res D:=fun ρ=>(fs ρ).bind g
theorem yo {e:Expr}{r:List V→Hp→VK→Prop}{fs:DS→Res (List D)}{g:List D→Res D}(he:PE X e (Fg r (tDA X.K E fs)))(h:Bi X.K E r g):PD X E e (bf fs g):=by
 intro pins s σ G H ρ I hs hro ho;refine aW (he pins s σ H (fun v H'=>∃d G',bf fs g ρ= .ok d∧Ext G H G' H'∧Rep X.K G' d v) I ?_) fun u s' hZ108=>(by obtain⟨v,H',I',r',d,G',e,x,rp⟩:=hZ108;exact⟨d,e,v,G',H',I',r',x,rp⟩);refine⟨G,ρ,hs,hro,ho.fst,fun ds e1 vs G1 H1 x1 p1=>?_⟩;exact h G1 H1 vs ds _ x1.gh p1 (ho.snd e1 x1.hh) fun d v' G' H' ed xx rp=>⟨d,G',am e1 ed,x1.trans xx,rp⟩
theorem kP {x:Str}{p pos:Pos}{e:Expr}{es:List Expr}{id:String}{r:List V→Hp→VK→Prop}{fs:DS→Res (List D)}{g:List D→Res D}(hc:d7 X (.builtin id) r)(h:Bi X.K E r g)(hg:Gl X x)(hm:X.mg x=none)(hv:bootBuiltins x=some (.builtin id))(ha:lm X E (e::es) fs)
  (hn:x≠ "__name__" :=by decide) (hdb:(x==("__debug__" :Str))=false:=by decide)
  (he:starEach (e::es) X.env=(false,eval e X.env)::starEach es X.env:=by rfl) (hpl:(backTo pos (starEach es X.env)).any (·.1)=false:=by rfl):PD X E (.Call (.Name x p) (e::es) [] pos) (bf fs g):=
 yo (nV hc hg hm hv (im ha) hn hdb he hpl) h
theorem lG {x:Str}{p pos:Pos}{e:Expr}{es:List Expr}{T:String}{r:List V→Hp→VK→Prop}{fs:DS→Res (List D)}{g:List D→Res D}(hc:d7 X (.type T) r)(h:Bi X.K E r g)(hg:Gl X x)(hm:X.mg x=none)(hv:bootBuiltins x=some (.type T))(ha:lm X E (e::es) fs)
  (hn:x≠ "__name__" :=by decide) (hdb:(x==("__debug__" :Str))=false:=by decide)
  (he:starEach (e::es) X.env=(false,eval e X.env)::starEach es X.env:=by rfl) (hpl:(backTo pos (starEach es X.env)).any (·.1)=false:=by rfl):PD X E (.Call (.Name x p) (e::es) [] pos) (bf fs g):=
 yo (cW hc hg hm hv (im ha) hn hdb he hpl) h
noncomputable def bq:List D→Res D
 | [.lst l]=>.ok (.int l.length)
 | [.tup l]=>.ok (.int l.length)
 | [.scr ns]=>.ok (.int ns.length)
 |_=>.bad
theorem B0 {K:W.Frag}:Bi K E (fun xs H Q=>∃p ys,xs=[.ref p]∧(gB K H p ys∨mj K H p ys)∧Q (.int ys.length) H) bq:=by
 intro G H vs ds Q hs rl ok k;unfold bq at ok k;split at ok
 ·obtain⟨v,r,rfl,l,r0⟩:=rl.inv;rw[r0.inv0];rw[rep_lst]at l;obtain⟨p,xs,rfl,sq,l⟩:=l;exact⟨p,xs,rfl,.inl (hs.seq sq.sq),k _ _ G H rfl (.refl hs) (by rw[l.length];exact rep_int.mpr rfl)⟩
 ·obtain⟨v,r,rfl,l,r0⟩:=rl.inv;rw[r0.inv0];rw[rep_tup]at l;obtain⟨p,xs,rfl,sq,l⟩:=l;exact⟨p,xs,rfl,.inr (hs.seqT sq),k _ _ G H rfl (.refl hs) (by rw[l.length];exact rep_int.mpr rfl)⟩
 ·obtain⟨v,r,rfl,l,r0⟩:=rl.inv;rw[r0.inv0];rw[vB]at l;obtain⟨p,rfl,sq⟩:=l;exact⟨p,_,rfl,.inl (hs.seq sq),k _ _ G H rfl (.refl hs) (by rw[length_map];exact rep_int.mpr rfl)⟩
 ·exact ok.elim
noncomputable def Ed:List D→Res D
 | [.int i,.int j]=>.ok (.int (min i j))
 |_=>.bad
noncomputable def Ec:List D→Res D
 | [.int i,.int j]=>.ok (.int (max i j))
 |_=>.bad
noncomputable def cE:List D→Res D
 | [.lst l]=>.ok (.lst l)
 | [.tup l]=>.ok (.lst l)
 |_=>.bad
noncomputable def oi:List D→Res D
 | [.lst l]=>.ok (.tup l)
 | [.tup l]=>.ok (.tup l)
 |_=>.bad
theorem uN {K:W.Frag}:Bi K E (fun xs H Q=>∃p ys,xs=[.ref p]∧(gB K H p ys∨mj K H p ys)∧∀l,H l=none→Q (.ref l) (a9 H l (.lst ys))) cE:=by
 intro G H vs ds Q hs rl ok k;unfold cE at ok k;split at ok
 ·obtain⟨v,r,rfl,m,r0⟩:=rl.inv;rw[r0.inv0];rw[rep_lst]at m;obtain⟨p,xs,rfl,sq,m⟩:=m;exact⟨p,xs,rfl,.inl (hs.seq sq.sq),fun l hl=>k _ _ _ _ rfl (.new hs hl _) (rep_lst.mpr ⟨l,xs,rfl,.of aq,m.mono (Ext.new hs hl _).gg⟩)⟩
 ·obtain⟨v,r,rfl,m,r0⟩:=rl.inv;rw[r0.inv0];rw[rep_tup]at m;obtain⟨p,xs,rfl,sq,m⟩:=m;exact⟨p,xs,rfl,.inr (hs.seqT sq),fun l hl=>k _ _ _ _ rfl (.new hs hl _) (rep_lst.mpr ⟨l,xs,rfl,.of aq,m.mono (Ext.new hs hl _).gg⟩)⟩
 ·exact ok.elim
theorem xr {K:W.Frag}:Bi K E (fun xs H Q=>∃p ys,xs=[.ref p]∧((gB K H p ys∧∀l,H l=none→Q (.ref l) (a9 H l (.tup ys)))∨(mj K H p ys∧Q (.ref p) H))) oi:=by
 intro G H vs ds Q hs rl ok k;unfold oi at ok k;split at ok
 ·obtain⟨v,r,rfl,m,r0⟩:=rl.inv;rw[r0.inv0];rw[rep_lst]at m;obtain⟨p,xs,rfl,sq,m⟩:=m;exact⟨p,xs,rfl,.inl ⟨hs.seq sq.sq,fun l hl=>k _ _ _ _ rfl (.new hs hl _) (rep_tup.mpr ⟨l,xs,rfl,.of aq,m.mono (Ext.new hs hl _).gg⟩)⟩⟩
 ·obtain⟨v,r,rfl,m,r0⟩:=rl.inv;rw[r0.inv0];have rx':=m;rw[rep_tup]at m;obtain⟨p,xs,rfl,sq,m⟩:=m;exact⟨p,xs,rfl,.inr ⟨hs.seqT sq,k _ _ G H rfl (.refl hs) rx'⟩⟩
 ·exact ok.elim
inductive pureSp (K:W.Frag)(m:List D→Res D)(vs:List V)(H:Hp)(Q:VK)(E:XK):Prop
 |mk (ds:List D) (G:Hp) (s:Same G H) (r:RepL K G ds vs) (o:OkR E H (m ds)) (k:∀d,m ds= .ok d→∀v G' H',Ext G H G' H'→Rep K G' d v→Q v H')
noncomputable def lS (C:Addr)(m:Str):D→Bool
 |.ins C' ns _=>C'==C&&!ns.contains m
 |_=>false
noncomputable def kM (C:Addr)(m:Str)(fo:DS→Res D)(g:List D→Res D):DS→Res D:=fun ρ=>(fo ρ).bind fun o=>if lS C m o=true then g [o] else .bad
theorem nK {fs:List (Str×V)}{m:Str}(h:(fs.map (·.1)).contains m=false):fs.lookup m=none:=by
 induction fs with
 |nil=>rfl
 |cons p r ih=>
  rw[map_cons,List.contains_cons,Bool.or_eq_false_iff]at h;rw[lookup_cons];have:(m==p.1)=false:=h.1;rw[this];exact ih h.2
theorem ym {pl:Sem Bool}{CX:rj}{k:Nat}{f C:Addr}{fd:FuncData}{ps:List Str}{g:List D→Res D}{m:Str}{apos pos:Pos}{o:Expr}{fo:DS→Res D}(hoo:PD X E o fo)(c:Cls X.K C)(hm:Meth X.K C m f)(F:FnOk X.prog X.w X.K X.mg X.base CX k f fd ps (pureSp X.K g))(hr:Room k X.A)(hb:Binds X.K fd ps [])(hx:cQ CX X E)
  (hpe:PE X (.Call (.Attribute o m apos) [] [] pos) (BL C m (pureSp X.K g) [] E (tD X.K E fo) Bb)):PD X E (.Call (.Attribute o m apos) [] [] pos) (kM C m fo g):=by
 intro pins s σ G H ρ I hs hro ho;refine aW (hpe pins s σ H (fun v H'=>∃d G',kM C m fo g ρ= .ok d∧Ext G H G' H'∧Rep X.K G' d v) I ?_) fun u s' hZ109=>(by obtain⟨v,H',I',r',d,G',e,x,rp⟩:=hZ109;exact⟨d,e,v,G',H',I',r',x,rp⟩);refine⟨G,ρ,hs,hro,ho.fst,fun dO e1 v G1 H1 x1 p1=>?_⟩;have kk:=ho.snd e1 x1.hh;by_cases hi:lS C m dO=true
 ·rw[if_pos hi]at kk;cases dO with
  |ins C' ns l=>
   have hi':=hi;unfold lS at hi';rw[and_eq_true,beq_iff_eq,Bool.not_eq_true']at hi';obtain⟨rfl,hn⟩:=hi';have p1':=p1;rw[rep_ins]at p1;obtain⟨a,dx,fs,rfl,ha,hns,_⟩:=p1;refine⟨a,dx,fs,rfl,x1.gh _ _ ha,nK (by rw[hns];exact hn),?_⟩;exact⟨[.ins C' ns l],G1,x1.gh,.cons p1' .nil,kk,fun d ed v G' H' xx rp=>⟨d,G',am e1 (by rw[if_pos hi];exact ed),x1.trans xx,rp⟩⟩
  |_=>cases hi
 ·rw[if_neg hi]at kk;exact kk.elim
noncomputable def r6:List Str→List D→Str→Option D
 |n::ns,d::ds,f=>if n=f then some d else r6 ns ds f
 |_,_,_=>none
noncomputable def kz (C:Addr)(f:Str):D→Res D
 |.ins C' ns ds=>if C'=C then (match r6 ns ds f with|some d=>.ok d|none=>.bad) else .bad
 |_=>.bad
theorem lX {K:W.Frag}{G:Hp}{f:Str}{d:D}:∀{fs:List (Str×V)} {ds:List D},RepL K G ds (fs.map (·.2))→r6 (fs.map (·.1)) ds f=some d→∃v,fs.lookup f=some v∧Rep K G d v
 | [],ds,_,h=>by cases ds <;> cases h
 |(n,v)::r,[],_,h=>by cases h
 |(n,v)::r,e::ds,hr,h=>by
  obtain⟨v',r',q,a,b⟩:=hr.inv;rw[map_cons]at q;cases q;rw[map_cons]at h;unfold r6 at h;rw[lookup_cons];by_cases hn:n=f
  ·subst hn;rw[if_pos rfl]at h;cases h;rw[show (n==n)=true by simp];exact⟨v,rfl,a⟩
  ·rw[if_neg hn]at h;rw[show (f==n)=false by simpa using Ne.symm hn];exact lX b h
theorem yj {C:Addr}{o:Expr}{f:Str}{pos:Pos}{fo:DS→Res D}(ho:PD X E o fo)(c:Cls X.K C)(n:NoAttr X.K C f)(hb:attributeBase o f X.env (eval o X.env)=eval o X.env:=by rfl):PD X E (.Attribute o f pos) (fun ρ=>(fo ρ).bind (kz C f)):=by
 intro pins s σ G H ρ I hs hro hok;refine aW (C6 (du ho) hb pins s σ H (fun v H'=>∃d G',((fo ρ).bind (kz C f))= .ok d∧Ext G H G' H'∧Rep X.K G' d v) I ?_) fun u s' hZ110=>(by obtain⟨v,H',I',r',d,G',e,x,rp⟩:=hZ110;exact⟨d,e,v,G',H',I',r',x,rp⟩);refine⟨G,ρ,hs,hro,hok.fst,fun dO e1 v G1 H1 x1 p1=>?_⟩;have kk:=hok.snd e1 x1.hh;cases dO with
 |ins C' ns l=>
  unfold kz at kk;dsimp only at kk;by_cases hc:C'=C
  ·subst hc;rw[if_pos rfl]at kk;rw[rep_ins]at p1;obtain⟨a,dx,fs,rfl,ha,hns,rl⟩:=p1;subst hns;cases q:r6 (fs.map (·.1)) l f with
   |none=>rw[q]at kk;exact kk.elim
   |some d=>
    obtain⟨v,hv,rv⟩:=lX rl q;exact⟨a,C',dx,fs,v,rfl,x1.gh _ _ ha,c,n,hv,d,G1,am e1 (by unfold kz;dsimp only;rw[if_pos rfl,q]),x1,rv⟩
  ·rw[if_neg hc]at kk;exact kk.elim
 |_=>exact kk.elim
theorem e_ {op op':CmpOp}{a b c:Expr}{pos:Pos}{fa fb fc:DS→Res D}{o o':D→D→Res D}(ho:DOp X E (compareOp op) o)(ho':DOp X E (compareOp op') o')(ha:PD X E a fa)(hb:PD X E b fb)(hc:PD X E c fc)
  (hm:lastMarks [op,op'] [b,c]=false:=by with_unfolding_all rfl):tm X E (.Compare a [op,op'] [b,c] pos) (ie fa fb fc o o'):=by
 intro w s σ G H ρ I hs hro hok;refine isTrue_chain (aW (ha w s σ G H ρ I hs hro hok.fst) fun v s1 ⟨d1,e1,v1,G1,H1,I1,r1,x1,p1⟩=>test_link (aW (hb w s1 σ G1 H1 ρ I1 x1.gh (hro.mono x1.gg) (hok.snd e1 x1.hh).fst) fun u s2 hZ112=>?_)) hm;obtain⟨d2,e2,v2,G2,H2,I2,r2,x2,p2⟩:=hZ112;have k2:=(hok.snd e1 x1.hh).snd e2 x2.hh;refine aW (ho w s2 σ G2 H2 v1 v2 d1 d2 v u I2 x2.gh (p1.mono x2.gg) p2 r1 r2 k2.fst) fun d s3 hZ113=>?_;obtain⟨d3,e3,v3,G3,H3,I3,r3,x3,p3⟩:=hZ113;have k3:=k2.snd e3 x3.hh;cases d3 with
 |bl k=>
  rw[rep_bl]at p3;subst p3;cases r3;refine wpAny_truthy_bool ?_;cases k with
  |false=>exact ite_ff ⟨am e1 (am e2 (am e3 rfl)),G3,H3,I3,(x1.trans x2).trans x3⟩
  |true=>
   refine ite_tt (test_last (aW (hc w s3 σ G3 H3 ρ I3 x3.gh (hro.mono ((x1.gg.trans x2.gg).trans x3.gg)) k3.fst) fun w' s4 hZ114=>?_));obtain⟨d4,e4,v4,G4,H4,I4,r4,x4,p4⟩:=hZ114;have k4:=k3.snd e4 x4.hh;refine aW (ho' w s4 σ G4 H4 v2 v4 d2 d4 u w' I4 x4.gh (p2.mono (x3.gg.trans x4.gg)) p4 r2 r4 k4.fst) fun d' s5 hZ115=>?_;obtain⟨d5,e5,v5,G5,H5,I5,r5,x5,p5⟩:=hZ115;have k5:=k4.snd e5 x5.hh;cases d5 with
   |bl k=>
    rw[rep_bl]at p5;subst p5;cases r5;exact wpAny_truthy_bool ⟨am e1 (am e2 (am e3 (am e4 (am e5 rfl)))),G5,H5,I5,(((x1.trans x2).trans x3).trans x4).trans x5⟩
   |_=>exact k5.elim
 |_=>exact k3.elim
end
mutual
noncomputable def b0:D→D→Bool
 |.non,.non=>true
 |.bl a,.bl b=>a==b
 |.int a,.int b=>a==b
 |.bl a,.int b=>(if a then (1:Int) else 0)==b
 |.int a,.bl b=>a==(if b then (1:Int) else 0)
 |.str a,.str b=>a==b
 |.lst a,.lst b=>eqBL a b
 |.tup a,.tup b=>eqBL a b
 |_,_=>false
noncomputable def eqBL:List D→List D→Bool
 | [],[]=>true
 |a::as,b::bs=>b0 a b&&eqBL as bs
 |_,_=>false
end
mutual
noncomputable def a_:Nat→D→Bool
 |_,.non=>true
 |_,.bl _=>true
 |_,.int _=>true
 |_,.str _=>true
 |n,.lst l=>decide (1≤n)&&plL (n-1) l
 |n,.tup l=>decide (1≤n)&&plL (n-1) l
 |_,.ins _ _ _=>false
 |_,.dct _ _=>false
 |_,.scr _=>false
 |_,.xc _=>false
 |_,.fdc _ _=>false
noncomputable def plL:Nat→List D→Bool
 |_,[]=>true
 |n,d::ds=>a_ n d&&plL n ds
end
theorem vt:∀{n:Nat} {ds:List D} {i:Nat} {d:D},plL n ds=true→ds[i]?=some d→a_ n d=true
 |_,[],_,_,_,e=>by simp at e
 |n,a::as,0,_,h,e=>by
  simp at e;subst e;unfold plL at h;rw[and_eq_true]at h;exact h.1
 |n,a::as,i+1,d,h,e=>by
  unfold plL at h;rw[and_eq_true]at h;exact vt (i:=i) h.2 (by simpa using e)
theorem rM:∀{as bs:List D} {n:Nat} {e:Nat→Bool},as.length=bs.length→(∀(i:Nat) (a b:D),as[i]?=some a→bs[i]?=some b→e i=b0 a b)→n=as.length→(List.range n).all e=eqBL as bs
 | [],[],_,_,_,_,hn=>by subst hn;unfold eqBL;rfl
 | [],_::_,_,_,h,_,_=>by simp at h
 |_::_,[],_,_,h,_,_=>by simp at h
 |a::as,b::bs,n,e,h,he,hn=>by
  subst hn;unfold eqBL;rw[length_cons,List.range_succ_eq_map,List.all_cons,he 0 a b rfl rfl,List.all_map];congr 1;exact rM (e:=e ∘ Nat.succ) (by simpa using h) (fun i x y hx hy=>he (i+1) x y (by simpa using hx) (by simpa using hy)) rfl
theorem nk:∀{as bs:List D},as.length≠bs.length→eqBL as bs=false
 | [],[],h=>absurd rfl h
 | [],_::_,_=>by unfold eqBL;rfl
 |_::_,[],_=>by unfold eqBL;rfl
 |a::as,b::bs,h=>by
  unfold eqBL;rw[nk (as:=as) (bs:=bs) (fun z=>h (by simp[z])),Bool.and_false]
mutual
theorem rN:∀{n:Nat} {d:D},a_ n d=true→b0 d d=true
 |_,.non,_=>by unfold b0;rfl
 |_,.bl b,_=>by unfold b0;simp
 |_,.int b,_=>by unfold b0;simp
 |_,.str b,_=>by unfold b0;simp
 |n,.lst l,h=>by
  unfold a_ at h;rw[and_eq_true]at h;unfold b0;exact eqBL_refl h.2
 |n,.tup l,h=>by
  unfold a_ at h;rw[and_eq_true]at h;unfold b0;exact eqBL_refl h.2
 |_,.ins _ _ _,h=>by unfold a_ at h;cases h
theorem eqBL_refl:∀{n:Nat} {ds:List D},plL n ds=true→eqBL ds ds=true
 |_,[],_=>by unfold eqBL;rfl
 |n,d::ds,h=>by
  unfold plL at h;rw[and_eq_true]at h;unfold eqBL;rw[rN h.1,eqBL_refl h.2];rfl
end
section
variable{X:Cx}{E:XK}{pins:List (Addr×Obj)}{σ:St}{G H:Hp}{s:Shared}
theorem Inv.isTup (I:Inv X pins σ H s){a:Addr}{xs:List V}(h:mj X.K H a xs):∃its:List Value,Vals xs its∧s.heap.IsTuple a its.toArray:=by
 obtain⟨its,r,p,_⟩:=I.tuple h;exact⟨its,r,p⟩
theorem Inv.isLst (I:Inv X pins σ H s){a:Addr}{xs:List V}(h:gB X.K H a xs):∃its:List Value,Vals xs its∧s.heap.IsList a its.toArray:=by
 obtain⟨its,r,p,_⟩:=I.list h;exact⟨its,r,p.isList⟩
mutual
theorem Rep.inj (I:Inv X pins σ H s)(hs:Same G H):∀{n m:Nat} {d e:D} {x:V},a_ n d=true→a_ m e=true→Rep X.K G d x→Rep X.K G e x→d=e
 |_,_,.non,e,x,_,he,hx,hy=>by
  rw[rep_non]at hx;subst hx;cases e with
  |non=>rfl
  |bl b=>rw[rep_bl]at hy;cases hy
  |int b=>rw[rep_int]at hy;cases hy
  |str b=>rw[rep_str]at hy;cases hy
  |lst b=>rw[rep_lst]at hy;obtain⟨_,_,q,_⟩:=hy;cases q
  |tup b=>rw[rep_tup]at hy;obtain⟨_,_,q,_⟩:=hy;cases q
  |ins _ _ _=>unfold a_ at he;cases he
  |dct _ _=>unfold a_ at he;cases he
  |scr _=>unfold a_ at he;cases he
  |xc _=>unfold a_ at he;cases he
  |fdc _ _=>unfold a_ at he;cases he
 |_,_,.bl c,e,x,_,he,hx,hy=>by
  rw[rep_bl]at hx;subst hx;cases e with
  |non=>rw[rep_non]at hy;cases hy
  |bl b=>rw[rep_bl]at hy;cases hy;rfl
  |int b=>rw[rep_int]at hy;cases hy
  |str b=>rw[rep_str]at hy;cases hy
  |lst b=>rw[rep_lst]at hy;obtain⟨_,_,q,_⟩:=hy;cases q
  |tup b=>rw[rep_tup]at hy;obtain⟨_,_,q,_⟩:=hy;cases q
  |ins _ _ _=>unfold a_ at he;cases he
  |dct _ _=>unfold a_ at he;cases he
  |scr _=>unfold a_ at he;cases he
  |xc _=>unfold a_ at he;cases he
  |fdc _ _=>unfold a_ at he;cases he
 |_,_,.int c,e,x,_,he,hx,hy=>by
  rw[rep_int]at hx;subst hx;cases e with
  |non=>rw[rep_non]at hy;cases hy
  |bl b=>rw[rep_bl]at hy;cases hy
  |int b=>rw[rep_int]at hy;cases hy;rfl
  |str b=>rw[rep_str]at hy;cases hy
  |lst b=>rw[rep_lst]at hy;obtain⟨_,_,q,_⟩:=hy;cases q
  |tup b=>rw[rep_tup]at hy;obtain⟨_,_,q,_⟩:=hy;cases q
  |ins _ _ _=>unfold a_ at he;cases he
  |dct _ _=>unfold a_ at he;cases he
  |scr _=>unfold a_ at he;cases he
  |xc _=>unfold a_ at he;cases he
  |fdc _ _=>unfold a_ at he;cases he
 |_,_,.str c,e,x,_,he,hx,hy=>by
  rw[rep_str]at hx;subst hx;cases e with
  |non=>rw[rep_non]at hy;cases hy
  |bl b=>rw[rep_bl]at hy;cases hy
  |int b=>rw[rep_int]at hy;cases hy
  |str b=>rw[rep_str]at hy;cases hy;rfl
  |lst b=>rw[rep_lst]at hy;obtain⟨_,_,q,_⟩:=hy;cases q
  |tup b=>rw[rep_tup]at hy;obtain⟨_,_,q,_⟩:=hy;cases q
  |ins _ _ _=>unfold a_ at he;cases he
  |dct _ _=>unfold a_ at he;cases he
  |scr _=>unfold a_ at he;cases he
  |xc _=>unfold a_ at he;cases he
  |fdc _ _=>unfold a_ at he;cases he
 |n,m,.lst c,e,x,hd,he,hx,hy=>by
  rw[rep_lst]at hx;obtain⟨a,xs,rfl,sq,rl⟩:=hx;unfold a_ at hd;rw[and_eq_true]at hd;cases e with
  |non=>rw[rep_non]at hy;cases hy
  |bl b=>rw[rep_bl]at hy;cases hy
  |int b=>rw[rep_int]at hy;cases hy
  |str b=>rw[rep_str]at hy;cases hy
  |lst b=>
   rw[rep_lst]at hy;obtain⟨a',ys,q,l,o⟩:=hy;cases q;rw[I.list_inj (hs.seq l.sq) (hs.seq sq.sq)]at o;unfold a_ at he;rw[and_eq_true]at he;rw[RepL.inj I hs hd.2 he.2 rl o]
  |tup b=>
   rw[rep_tup]at hy;obtain⟨a',ys,q,l,o⟩:=hy;cases q;obtain⟨_,_,p1⟩:=I.isLst (hs.seq sq.sq);obtain⟨_,_,p2⟩:=I.isTup (hs.seqT l.sq);exact absurd rfl (SeqAt.ne_of_list_tuple p1 p2)
  |ins _ _ _=>unfold a_ at he;cases he
  |dct _ _=>unfold a_ at he;cases he
  |scr _=>unfold a_ at he;cases he
  |xc _=>unfold a_ at he;cases he
  |fdc _ _=>unfold a_ at he;cases he
 |n,m,.tup c,e,x,hd,he,hx,hy=>by
  rw[rep_tup]at hx;obtain⟨a,xs,rfl,sq,rl⟩:=hx;unfold a_ at hd;rw[and_eq_true]at hd;cases e with
  |non=>rw[rep_non]at hy;cases hy
  |bl b=>rw[rep_bl]at hy;cases hy
  |int b=>rw[rep_int]at hy;cases hy
  |str b=>rw[rep_str]at hy;cases hy
  |tup b=>
   rw[rep_tup]at hy;obtain⟨a',ys,q,l,o⟩:=hy;cases q;rw[I.tuple_inj (hs.seqT l.sq) (hs.seqT sq.sq)]at o;unfold a_ at he;rw[and_eq_true]at he;rw[RepL.inj I hs hd.2 he.2 rl o]
  |lst b=>
   rw[rep_lst]at hy;obtain⟨a',ys,q,l,o⟩:=hy;cases q;obtain⟨_,_,p1⟩:=I.isLst (hs.seq l.sq);obtain⟨_,_,p2⟩:=I.isTup (hs.seqT sq.sq);exact absurd rfl (SeqAt.ne_of_list_tuple p1 p2)
  |ins _ _ _=>unfold a_ at he;cases he
  |dct _ _=>unfold a_ at he;cases he
  |scr _=>unfold a_ at he;cases he
  |xc _=>unfold a_ at he;cases he
  |fdc _ _=>unfold a_ at he;cases he
 |_,_,.ins _ _ _,_,_,hd,_,_,_=>by unfold a_ at hd;cases hd
theorem RepL.inj (I:Inv X pins σ H s)(hs:Same G H):∀{n m:Nat} {ds es:List D} {xs:List V},plL n ds=true→plL m es=true→RepL X.K G ds xs→RepL X.K G es xs→ds=es
 |_,_,[],es,_,_,_,h,h'=>by
  rw[h.inv0]at h';cases es with
  |nil=>rfl
  |cons e es=>obtain⟨_,_,q,_⟩:=h'.inv;cases q
 |_,_,d::ds,es,_,hd,he,h,h'=>by
  obtain⟨v,r,rfl,a,b⟩:=h.inv;cases es with
  |nil=>have z:=h'.inv0;cases z
  |cons e es=>
   obtain⟨v',r',q,a',b'⟩:=h'.inv;cases q;unfold plL at hd he;rw[and_eq_true]at hd he;rw[Rep.inj I hs hd.1 he.1 a a',RepL.inj I hs hd.2 he.2 b b']
end
end
end L2
namespace L2
open PySem PySem.Spec PyProof.Rows PySem.SeqAt
section
variable{X:Cx}{E:XK}{pins:List (Addr×Obj)}{σ:St}{G H:Hp}{s:Shared}
noncomputable def EL (A:Around)(s:Shared)(u v:Value)(b:Bool):Prop:=EqAt A s u v b∧RcAt A s u v b∧RcNeAt A s u v (!b)
theorem vG {xs:List V}{us:List Value}(r:Vals xs us){j:Nat}(h:j<us.toArray.size):∃x,xs[j]?=some x∧RelV x us.toArray[j]:=by
 have hl:=r.length;have h':j<us.length:=by simpa using h
 have hx:j<xs.length:=by omega
 obtain⟨u,hu,ru⟩:=r.get (i:=j) (x:=xs[j]) (by simp[hx]);refine⟨xs[j],by simp[hx],?_⟩;have e:us.toArray[j]=u:=by
  have q:us[j]?=some us[j]:=by simp[h']
  rw[q]at hu;cases hu;simp
 rw[e];exact ru
theorem km {n:Nat}{ds es:List D}{xs ys:List V}{us vs:List Value}{A:Around}(rd:RepL X.K G ds xs)(re:RepL X.K G es ys)(ru:Vals xs us)(rv:Vals ys vs)
  (ih:∀(d e:D) (x y:V) (u v:Value),d∈ds→e∈es→Rep X.K G d x→Rep X.K G e y→RelV x u→RelV y v→EqAt A s u v (b0 d e)) :
  ∀j (h1:j<us.toArray.size) (h2:j<vs.toArray.size),EqAt A s us.toArray[j] vs.toArray[j] (b0 (ds.getD j .non) (es.getD j .non)):=by
 intro j h1 h2;obtain⟨x,hx,rx⟩:=vG ru h1;obtain⟨y,hy,ry⟩:=vG rv h2;have l1:=rd.length;have l2:=re.length;have jx:j<ds.length:=by rw[l1];exact(gz hx).1
 have jy:j<es.length:=by rw[l2];exact(gz hy).1
 have e1:ds[j]?=some ds[j]:=by simp[jx]
 have e2:es[j]?=some es[j]:=by simp[jy]
 obtain⟨x',hx',px⟩:=rd.get e1;obtain⟨y',hy',py⟩:=re.get e2;rw[hx]at hx';cases hx';rw[hy]at hy';cases hy';have g1:ds.getD j .non=ds[j]:=by simp[List.getD,e1]
 have g2:es.getD j .non=es[j]:=by simp[List.getD,e2]
 rw[g1,g2];exact ih _ _ x y _ _ (getElem_mem jx) (getElem_mem jy) px py rx ry
theorem u5 {ds:List D}{i:Nat}{d:D}(h:ds[i]?=some d):ds.getD i .non=d:=by simp[List.getD,h]
theorem nq {ds es:List D}{us vs:List Value}{xs ys:List V}(rd:RepL X.K G ds xs)(re:RepL X.K G es ys)(ru:Vals xs us)(rv:Vals ys vs)(hsz:us.toArray.size=vs.toArray.size) :
  (List.range us.toArray.size).all (fun j=>b0 (ds.getD j .non) (es.getD j .non))=eqBL ds es:=by
 have l1:=rd.length;have l2:=re.length;have l3:=ru.length;have l4:=rv.length;have h1:us.length=vs.length:=by simpa using hsz
 refine rM (by omega) (fun i a b ha hb=>?_) (by simp;omega);rw[u5 ha,u5 hb]
noncomputable def EO (K:W.Frag)(G:Hp)(s:Shared):D→Value→Prop
 |.non,u=>u= .none
 |.bl b,u=>u= .bool b
 |.int i,u=>∃t,u= .int i t
 |.str x,u=>∃t,u= .str x t
 |.lst ds,u=>∃a its xs,u= .ref a∧s.heap.IsList a its.toArray∧RepL K G ds xs∧Vals xs its
 |.tup ds,u=>∃a its xs,u= .ref a∧s.heap.IsTuple a its.toArray∧RepL K G ds xs∧Vals xs its
 |.ins _ _ _,_=>True
 |.dct _ _,_=>True
 |.scr _,_=>True
 |.xc _,_=>True
 |.fdc _ _,_=>True
theorem kH (I:Inv X pins σ H s)(hs:Same G H){d:D}{x:V}{u:Value}(rx:Rep X.K G d x)(ru:RelV x u):EO X.K G s d u:=by
 cases d with
 |non=>rw[rep_non]at rx;subst rx;exact ru
 |bl b=>rw[rep_bl]at rx;subst rx;exact ru
 |int i=>rw[rep_int]at rx;subst rx;exact ru
 |str i=>rw[rep_str]at rx;subst rx;exact ru
 |lst l=>
  rw[rep_lst]at rx;obtain⟨a,xs,rfl,sq,rl⟩:=rx;obtain⟨its,r,p⟩:=I.isLst (hs.seq sq.sq);exact⟨a,its,xs,ru,p,rl,r⟩
 |tup l=>
  rw[rep_tup]at rx;obtain⟨a,xs,rfl,sq,rl⟩:=rx;obtain⟨its,r,p⟩:=I.isTup (hs.seqT sq.sq);exact⟨a,its,xs,ru,p,rl,r⟩
 |ins _ _ _=>trivial
 |dct _ _=>trivial
 |scr _=>trivial
 |xc _=>trivial
 |fdc _ _=>trivial
theorem vS {n m:Nat}{ds es:List D}{a b:Addr}{xs ys:List V}{us vs:List Value}{A:Around}(hu:A.units<cLine)(ha:s.heap.IsList a us.toArray)(hb:s.heap.IsList b vs.toArray)(rd:RepL X.K G ds xs)(re:RepL X.K G es ys)(ru:Vals xs us)(rv:Vals ys vs)
  (same:a=b→eqBL ds es=true)
  (ih:∀(d e:D) (x y:V) (u v:Value),d∈ds→e∈es→Rep X.K G d x→Rep X.K G e y→RelV x u→RelV y v→EqAt A.in1 s u v (b0 d e)):EL A s (.ref a) (.ref b) (eqBL ds es):=by
 have l1:=rd.length;have l2:=re.length;have l3:=ru.length;have l4:=rv.length;have rc:RcAt A s (.ref a) (.ref b) (eqBL ds es)∧RcNeAt A s (.ref a) (.ref b) (!eqBL ds es):=by
  by_cases o:us.toArray.size=vs.toArray.size
  ·have e1:=nq rd re ru rv o;rw[←e1];exact⟨RcAt.lists ha hb o hu (km (n:=n) rd re ru rv ih),RcNeAt.lists ha hb o hu (km (n:=n) rd re ru rv ih)⟩
  ·have e1:eqBL ds es=false:=nk fun z=>o (by simp;omega);rw[e1];have hne:(us.toArray.size != vs.toArray.size)=true:=by simpa using o
   exact⟨RcAt.lists_lengths ha hb hne hu,RcNeAt.lists_lengths ha hb hne hu⟩
 refine⟨?_,rc.1,rc.2⟩;by_cases hab:a=b
 ·subst hab;rw[same rfl];exact EqAt.same _
 ·exact EqAt.of_refs hab rc.1
theorem tK {n m:Nat}{ds es:List D}{a b:Addr}{xs ys:List V}{us vs:List Value}{A:Around}(hu:A.units<cLine)(ha:s.heap.IsTuple a us.toArray)(hb:s.heap.IsTuple b vs.toArray)(rd:RepL X.K G ds xs)(re:RepL X.K G es ys)(ru:Vals xs us)(rv:Vals ys vs)
  (same:a=b→eqBL ds es=true)
  (ih:∀(d e:D) (x y:V) (u v:Value),d∈ds→e∈es→Rep X.K G d x→Rep X.K G e y→RelV x u→RelV y v→EqAt A.in1 s u v (b0 d e)):EL A s (.ref a) (.ref b) (eqBL ds es):=by
 have l1:=rd.length;have l2:=re.length;have l3:=ru.length;have l4:=rv.length;have val:((List.range (min us.toArray.size vs.toArray.size)).all (fun j=>b0 (ds.getD j .non) (es.getD j .non))&&us.toArray.size==vs.toArray.size)=eqBL ds es:=by
  by_cases o:us.toArray.size=vs.toArray.size
  ·have e1:=nq rd re ru rv o;rw[←o,Nat.min_self,e1];simp
  ·have e1:eqBL ds es=false:=nk fun z=>o (by simp;omega);have e2:(us.toArray.size==vs.toArray.size)=false:=by simpa using o
   rw[e1,e2,Bool.and_false]
 have rc:RcAt A s (.ref a) (.ref b) (eqBL ds es)∧RcNeAt A s (.ref a) (.ref b) (!eqBL ds es):=by
  rw[←val];exact⟨RcAt.tuples ha hb hu (km (n:=n) rd re ru rv ih),RcNeAt.tuples ha hb hu (km (n:=n) rd re ru rv ih)⟩
 refine⟨?_,rc.1,rc.2⟩;by_cases hab:a=b
 ·subst hab;rw[same rfl];exact EqAt.same _
 ·exact EqAt.of_refs hab rc.1
theorem dw {n:Nat}{ds:List D}{d:D}(h:plL n ds=true)(hd:d∈ds):a_ n d=true:=by
 obtain⟨i,hi⟩:=List.getElem?_of_mem hd;exact vt h hi
theorem nh (I:Inv X pins σ H s)(hs:Same G H):∀(n m:Nat) (d e:D) (x y:V) (u v:Value) (A:Around),a_ n d=true→a_ m e=true→Rep X.K G d x→Rep X.K G e y→RelV x u→RelV y v→A.units+n<cLine→EL A s u v (b0 d e):=by
 intro n
 induction n with
 |zero=>
  intro m d e x y u v A w q k E N O hu;have kd:=kH I hs k N;have r:=kH I hs E O;have o:A.units<cLine:=by omega
  cases d with
  |lst l=>unfold a_ at w;simp at w
  |tup l=>unfold a_ at w;simp at w
  |ins _ _ _=>unfold a_ at w;cases w
  |dct _ _=>unfold a_ at w;cases w
  |scr _=>unfold a_ at w;cases w
  |xc _=>unfold a_ at w;cases w
  |fdc _ _=>unfold a_ at w;cases w
  |non=>
   cases (show u= .none from kd);cases e with
   |non=>cases (show v= .none from r);unfold b0;exact⟨EqAt.same _,RcAt.none_none,RcNeAt.none_none⟩
   |bl b=>cases (show v= .bool b from r);unfold b0;exact⟨EqAt.none_bool _,RcAt.none_bool _,RcNeAt.none_bool _⟩
   |int b=>obtain⟨t,rfl⟩:=r;unfold b0;exact⟨EqAt.none_int _ _,RcAt.none_int _ _,RcNeAt.none_int _ _⟩
   |str b=>obtain⟨t,rfl⟩:=r;unfold b0;exact⟨EqAt.none_str _ _,RcAt.none_str _ _,RcNeAt.none_str _ _⟩
   |lst b=>obtain⟨a,C,M,rfl,p,_⟩:=r;unfold b0;exact⟨EqAt.none_list p o,RcAt.none_list p o,RcNeAt.none_list p o⟩
   |tup b=>obtain⟨a,C,M,rfl,p,_⟩:=r;unfold b0;exact⟨EqAt.none_tuple p o,RcAt.none_tuple p o,RcNeAt.none_tuple p o⟩
   |ins _ _ _=>unfold a_ at q;cases q
   |dct _ _=>unfold a_ at q;cases q
   |scr _=>unfold a_ at q;cases q
   |xc _=>unfold a_ at q;cases q
   |fdc _ _=>unfold a_ at q;cases q
  |bl c=>
   cases (show u= .bool c from kd);cases e with
   |non=>cases (show v= .none from r);unfold b0;exact⟨EqAt.bool_none _,RcAt.bool_none _,RcNeAt.bool_none _⟩
   |bl b=>cases (show v= .bool b from r);unfold b0;exact⟨EqAt.bool_bool _ _,RcAt.bool_bool _ _,RcNeAt.bool_bool _ _⟩
   |int b=>obtain⟨t,rfl⟩:=r;unfold b0;exact⟨EqAt.bool_int _ _ _,RcAt.bool_int _ _ _,RcNeAt.bool_int _ _ _⟩
   |str b=>obtain⟨t,rfl⟩:=r;unfold b0;exact⟨EqAt.bool_str _ _ _,RcAt.bool_str _ _ _,RcNeAt.bool_str _ _ _⟩
   |lst b=>obtain⟨a,C,M,rfl,p,_⟩:=r;unfold b0;exact⟨EqAt.bool_list _ p o,RcAt.bool_list _ p o,RcNeAt.bool_list _ p o⟩
   |tup b=>obtain⟨a,C,M,rfl,p,_⟩:=r;unfold b0;exact⟨EqAt.bool_tuple _ p o,RcAt.bool_tuple _ p o,RcNeAt.bool_tuple _ p o⟩
   |ins _ _ _=>unfold a_ at q;cases q
   |dct _ _=>unfold a_ at q;cases q
   |scr _=>unfold a_ at q;cases q
   |xc _=>unfold a_ at q;cases q
   |fdc _ _=>unfold a_ at q;cases q
  |int c=>
   obtain⟨t0,rfl⟩:=kd;cases e with
   |non=>cases (show v= .none from r);unfold b0;exact⟨EqAt.int_none _ _,RcAt.int_none _ _,RcNeAt.int_none _ _⟩
   |bl b=>cases (show v= .bool b from r);unfold b0;exact⟨EqAt.int_bool _ _ _,RcAt.int_bool _ _ _,RcNeAt.int_bool _ _ _⟩
   |int b=>obtain⟨t,rfl⟩:=r;unfold b0;exact⟨EqAt.int_int _ _ _ _,RcAt.int_int _ _ _ _,RcNeAt.int_int _ _ _ _⟩
   |str b=>obtain⟨t,rfl⟩:=r;unfold b0;exact⟨EqAt.int_str _ _ _ _,RcAt.int_str _ _ _ _,RcNeAt.int_str _ _ _ _⟩
   |lst b=>obtain⟨a,C,M,rfl,p,_⟩:=r;unfold b0;exact⟨EqAt.int_list _ _ p o,RcAt.int_list _ _ p o,RcNeAt.int_list _ _ p o⟩
   |tup b=>obtain⟨a,C,M,rfl,p,_⟩:=r;unfold b0;exact⟨EqAt.int_tuple _ _ p o,RcAt.int_tuple _ _ p o,RcNeAt.int_tuple _ _ p o⟩
   |ins _ _ _=>unfold a_ at q;cases q
   |dct _ _=>unfold a_ at q;cases q
   |scr _=>unfold a_ at q;cases q
   |xc _=>unfold a_ at q;cases q
   |fdc _ _=>unfold a_ at q;cases q
  |str c=>
   obtain⟨t0,rfl⟩:=kd;cases e with
   |non=>cases (show v= .none from r);unfold b0;exact⟨EqAt.str_none _ _,RcAt.str_none _ _,RcNeAt.str_none _ _⟩
   |bl b=>cases (show v= .bool b from r);unfold b0;exact⟨EqAt.str_bool _ _ _,RcAt.str_bool _ _ _,RcNeAt.str_bool _ _ _⟩
   |int b=>obtain⟨t,rfl⟩:=r;unfold b0;exact⟨EqAt.str_int _ _ _ _,RcAt.str_int _ _ _ _,RcNeAt.str_int _ _ _ _⟩
   |str b=>obtain⟨t,rfl⟩:=r;unfold b0;exact⟨EqAt.str_str _ _ _ _,RcAt.str_str _ _ _ _,RcNeAt.str_str _ _ _ _⟩
   |lst b=>obtain⟨a,C,M,rfl,p,_⟩:=r;unfold b0;exact⟨EqAt.str_list _ _ p o,RcAt.str_list _ _ p o,RcNeAt.str_list _ _ p o⟩
   |tup b=>obtain⟨a,C,M,rfl,p,_⟩:=r;unfold b0;exact⟨EqAt.str_tuple _ _ p o,RcAt.str_tuple _ _ p o,RcNeAt.str_tuple _ _ p o⟩
   |ins _ _ _=>unfold a_ at q;cases q
   |dct _ _=>unfold a_ at q;cases q
   |scr _=>unfold a_ at q;cases q
   |xc _=>unfold a_ at q;cases q
   |fdc _ _=>unfold a_ at q;cases q
 |succ n ih=>
  intro m d e x y u v A w q k E N O hu;have kd:=kH I hs k N;have r:=kH I hs E O;have o:A.units<cLine:=by omega
  have hu1:A.in1.units+n<cLine:=by show A.units+1+n<cLine;omega
  have L:∀(c:D),a_ (n+1) c=true→(match c with|.lst _=>False|.tup _=>False|_=>True)→a_ n c=true:=fun c h hc=>by cases c <;> first|exact hc.elim|(unfold a_ at h ⊢;exact h)
  cases d with
  |lst l=>
   obtain⟨a,us,M,rfl,B,rl,r1⟩:=kd;have hd':=w;unfold a_ at hd';rw[and_eq_true]at hd';cases e with
   |non=>cases (show v= .none from r);unfold b0;exact⟨EqAt.list_none B o,RcAt.list_none B o,RcNeAt.list_none B o⟩
   |bl b=>cases (show v= .bool b from r);unfold b0;exact⟨EqAt.list_bool _ B o,RcAt.list_bool _ B o,RcNeAt.list_bool _ B o⟩
   |int b=>obtain⟨t,rfl⟩:=r;unfold b0;exact⟨EqAt.list_int _ _ B o,RcAt.list_int _ _ B o,RcNeAt.list_int _ _ B o⟩
   |str b=>obtain⟨t,rfl⟩:=r;unfold b0;exact⟨EqAt.list_str _ _ B o,RcAt.list_str _ _ B o,RcNeAt.list_str _ _ B o⟩
   |lst l2=>
    obtain⟨b,vs,ys,rfl,J,F,r2⟩:=r;have he':=q;unfold a_ at he';rw[and_eq_true]at he';unfold b0;refine vS (X:=X) (n:=n) (m:=m) o B J rl F r1 r2 (fun hab=>?_) fun d' e' x' y' u' v' hm1 hm2 q1 q2 q3 q4=>(ih (m-1) d' e' x' y' u' v' A.in1 (dw hd'.2 hm1) (dw he'.2 hm2) q1 q2 q3 q4 hu1).1;subst hab;have ex:x= .ref a:=by rw[rep_lst]at k;obtain⟨a',_,rfl,_⟩:=k;cases N;rfl
    have ey:y= .ref a:=by rw[rep_lst]at E;obtain⟨a',_,rfl,_⟩:=E;cases O;rfl
    subst ex ey;have z:=Rep.inj I hs w q k E;cases z;exact eqBL_refl hd'.2
   |tup l2=>
    obtain⟨b,vs,ys,rfl,J,F,r2⟩:=r;unfold b0;exact⟨EqAt.list_tuple B J o,RcAt.list_tuple B J o,RcNeAt.list_tuple B J o⟩
   |ins _ _ _=>unfold a_ at q;cases q
   |dct _ _=>unfold a_ at q;cases q
   |scr _=>unfold a_ at q;cases q
   |xc _=>unfold a_ at q;cases q
   |fdc _ _=>unfold a_ at q;cases q
  |tup l=>
   obtain⟨a,us,M,rfl,B,rl,r1⟩:=kd;have hd':=w;unfold a_ at hd';rw[and_eq_true]at hd';cases e with
   |non=>cases (show v= .none from r);unfold b0;exact⟨EqAt.tuple_none B o,RcAt.tuple_none B o,RcNeAt.tuple_none B o⟩
   |bl b=>cases (show v= .bool b from r);unfold b0;exact⟨EqAt.tuple_bool _ B o,RcAt.tuple_bool _ B o,RcNeAt.tuple_bool _ B o⟩
   |int b=>obtain⟨t,rfl⟩:=r;unfold b0;exact⟨EqAt.tuple_int _ _ B o,RcAt.tuple_int _ _ B o,RcNeAt.tuple_int _ _ B o⟩
   |str b=>obtain⟨t,rfl⟩:=r;unfold b0;exact⟨EqAt.tuple_str _ _ B o,RcAt.tuple_str _ _ B o,RcNeAt.tuple_str _ _ B o⟩
   |tup l2=>
    obtain⟨b,vs,ys,rfl,J,F,r2⟩:=r;have he':=q;unfold a_ at he';rw[and_eq_true]at he';unfold b0;refine tK (X:=X) (n:=n) (m:=m) o B J rl F r1 r2 (fun hab=>?_) fun d' e' x' y' u' v' hm1 hm2 q1 q2 q3 q4=>(ih (m-1) d' e' x' y' u' v' A.in1 (dw hd'.2 hm1) (dw he'.2 hm2) q1 q2 q3 q4 hu1).1;subst hab;have ex:x= .ref a:=by rw[rep_tup]at k;obtain⟨a',_,rfl,_⟩:=k;cases N;rfl
    have ey:y= .ref a:=by rw[rep_tup]at E;obtain⟨a',_,rfl,_⟩:=E;cases O;rfl
    subst ex ey;have z:=Rep.inj I hs w q k E;cases z;exact eqBL_refl hd'.2
   |lst l2=>
    obtain⟨b,vs,ys,rfl,J,F,r2⟩:=r;unfold b0;exact⟨EqAt.tuple_list B J o,RcAt.tuple_list B J o,RcNeAt.tuple_list B J o⟩
   |ins _ _ _=>unfold a_ at q;cases q
   |dct _ _=>unfold a_ at q;cases q
   |scr _=>unfold a_ at q;cases q
   |xc _=>unfold a_ at q;cases q
   |fdc _ _=>unfold a_ at q;cases q
  |ins _ _ _=>unfold a_ at w;cases w
  |dct _ _=>unfold a_ at w;cases w
  |scr _=>unfold a_ at w;cases w
  |xc _=>unfold a_ at w;cases w
  |fdc _ _=>unfold a_ at w;cases w
  |non=>exact ih m _ e x y u v A (L _ w trivial) q k E N O (by omega)
  |bl c=>exact ih m _ e x y u v A (L _ w trivial) q k E N O (by omega)
  |int c=>exact ih m _ e x y u v A (L _ w trivial) q k E N O (by omega)
  |str c=>exact ih m _ e x y u v A (L _ w trivial) q k E N O (by omega)
noncomputable def pf (d e:D):Res D:=if a_ 20 d=true∧a_ 20 e=true then .ok (.bl (b0 d e)) else .bad
noncomputable def qH (d e:D):Res D:=if a_ 20 d=true∧a_ 20 e=true then .ok (.bl (!b0 d e)) else .bad
theorem iH (hu:X.A.units+64<cLine):DOp X E (compareOp .Eq) pf:=by
 intro pins s σ G H x y dx dy v u I hs rx ry rv ru ok;unfold pf at ok ⊢;by_cases h:a_ 20 dx=true∧a_ 20 dy=true
 ·rw[if_pos h];exact(nh I hs 20 20 dx dy x y v u X.A h.1 h.2 rx ry rv ru (by omega)).2.1 _ _ _ _ ⟨_,rfl,.bl (b0 dx dy),G,H,I,rfl,.refl hs,rep_bl.mpr rfl⟩
 ·rw[if_neg h]at ok;exact ok.elim
theorem jN (hu:X.A.units+64<cLine):DOp X E (compareOp .NotEq) qH:=by
 intro pins s σ G H x y dx dy v u I hs rx ry rv ru ok;unfold qH at ok ⊢;by_cases h:a_ 20 dx=true∧a_ 20 dy=true
 ·rw[if_pos h];exact(nh I hs 20 20 dx dy x y v u X.A h.1 h.2 rx ry rv ru (by omega)).2.2 _ _ _ _ ⟨_,rfl,.bl (!b0 dx dy),G,H,I,rfl,.refl hs,rep_bl.mpr rfl⟩
 ·rw[if_neg h]at ok;exact ok.elim
end
section
variable{X:Cx}{E:XK}{pins:List (Addr×Obj)}{σ:St}{G H:Hp}{s:Shared}
open Classical in
noncomputable def wY (K:W.Frag)(G:Hp)(ds:List D)(dx:D)(u:Value):Bool:=decide (∃d x,d∈ds∧Rep K G d x∧RelV x u∧b0 d dx=true)
theorem gj (I:Inv X pins σ H s)(hs:Same G H){ds:List D}{dx d:D}{x:V}{u:Value}(hp:plL 19 ds=true)(hd:d∈ds)(rx:Rep X.K G d x)(ru:RelV x u):wY X.K G ds dx u=b0 d dx:=by
 unfold wY;cases e:b0 d dx with
 |true=>exact @decide_eq_true _ (Classical.propDecidable _) ⟨d,x,hd,rx,ru,e⟩
 |false=>
  refine @decide_eq_false _ (Classical.propDecidable _) fun hZ116=>?_;obtain⟨d',x',hd',rx',ru',e'⟩:=hZ116;have hx:x'=x:=RelV.inj ru' ru;subst hx;rw[Rep.inj I hs (dw hp hd') (dw hp hd) rx' rx,e]at e';cases e'
theorem g_ {ds:List D}{xs:List V}{us:List Value}{f:Value→Bool}{g:D→Bool}:RepL X.K G ds xs→Vals xs us→(∀d x u,d∈ds→Rep X.K G d x→RelV x u→f u=g d)→us.any f=ds.any g:=by
 intro rd
 induction ds generalizing xs us with
 |nil=>intro r _;rw[rd.inv0]at r;cases r;rfl
 |cons d ds ih=>
  intro r h;obtain⟨v,q,rfl,a,b⟩:=rd.inv;cases r with
  |cons r1 r2=>
   rw[any_cons,any_cons,h d v _ mem_cons_self a r1,ih b r2 fun d' x' u' hm=>h d' x' u' (eB hm)]
noncomputable def lh (neg:Bool)(d e:D):Res D:=match e with
 |.lst l=>if plL 19 l=true∧a_ 19 d=true then .ok (.bl (if neg then !(l.any fun y=>b0 y d) else l.any fun y=>b0 y d)) else .bad
 |.tup l=>if plL 19 l=true∧a_ 19 d=true then .ok (.bl (if neg then !(l.any fun y=>b0 y d) else l.any fun y=>b0 y d)) else .bad
 |_=>.bad
theorem kL {ds:List D}{xs:List V}{us:List Value}{u:Value}(rd:RepL X.K G ds xs)(r:Vals xs us)(hu:u∈us):∃d x,d∈ds∧Rep X.K G d x∧RelV x u:=by
 induction ds generalizing xs us with
 |nil=>rw[rd.inv0]at r;cases r;cases hu
 |cons d ds ih=>
  obtain⟨v,q,rfl,a,b⟩:=rd.inv;cases r with
  |cons r1 r2=>
   rcases mem_cons.mp hu with rfl|hu
   ·exact⟨d,v,mem_cons_self,a,r1⟩
   ·obtain⟨d',x',h1,h2,h3⟩:=ih b r2 hu;exact⟨d',x',eB h1,h2,h3⟩
theorem xt (hu:X.A.units+64<cLine):DOp X E (compareOp .In) (lh false):=by
 intro pins s σ G H x y B dy v u I j rx ry rv ru ok;unfold lh at ok ⊢;cases dy with
 |lst l=>
  dsimp only at ok ⊢;by_cases h:plL 19 l=true∧a_ 19 B=true
  ·rw[if_pos h];rw[rep_lst]at ry;obtain⟨a,xs,rfl,sq,rl⟩:=ry;cases (show u= .ref a from ru);obtain⟨its,r,p⟩:=I.isLst (j.seq sq.sq);refine in_listAt (wY X.K G l B) p (fun w hw=>?_) ?_
   ·obtain⟨d,z,h1,t,C⟩:=kL rl r (by simpa using hw);rw[gj I j h.1 h1 t C];exact(nh I j 19 19 d B z x w v X.A.in1 (dw h.1 h1) h.2 t rx C rv (by show X.A.units+1+19<cLine;omega)).1
   ·have e1:its.toArray.any (wY X.K G l B)=l.any fun y=>b0 y B:=by
     rw[any_toArray];exact g_ rl r fun d z w hm t C=>gj I j h.1 hm t C
    rw[e1];exact⟨_,rfl,.bl (l.any fun y=>b0 y B),G,H,I,rfl,.refl j,rep_bl.mpr rfl⟩
  ·rw[if_neg h]at ok;exact ok.elim
 |tup l=>
  dsimp only at ok ⊢;by_cases h:plL 19 l=true∧a_ 19 B=true
  ·rw[if_pos h];rw[rep_tup]at ry;obtain⟨a,xs,rfl,sq,rl⟩:=ry;cases (show u= .ref a from ru);obtain⟨its,r,p⟩:=I.isTup (j.seqT sq.sq);refine in_tupleAt (wY X.K G l B) p (fun w hw=>?_) ?_
   ·obtain⟨d,z,h1,t,C⟩:=kL rl r (by simpa using hw);rw[gj I j h.1 h1 t C];exact(nh I j 19 19 d B z x w v X.A.in1 (dw h.1 h1) h.2 t rx C rv (by show X.A.units+1+19<cLine;omega)).1
   ·have e1:its.toArray.any (wY X.K G l B)=l.any fun y=>b0 y B:=by
     rw[any_toArray];exact g_ rl r fun d z w hm t C=>gj I j h.1 hm t C
    rw[e1];exact⟨_,rfl,.bl (l.any fun y=>b0 y B),G,H,I,rfl,.refl j,rep_bl.mpr rfl⟩
  ·rw[if_neg h]at ok;exact ok.elim
 |_=>exact ok.elim
theorem kl (hu:X.A.units+64<cLine):DOp X E (compareOp .NotIn) (lh true):=by
 intro pins s σ G H x y B dy v u I j rx ry rv ru ok;unfold lh at ok ⊢;cases dy with
 |lst l=>
  dsimp only at ok ⊢;by_cases h:plL 19 l=true∧a_ 19 B=true
  ·rw[if_pos h];rw[rep_lst]at ry;obtain⟨a,xs,rfl,sq,rl⟩:=ry;cases (show u= .ref a from ru);obtain⟨its,r,p⟩:=I.isLst (j.seq sq.sq);refine notIn_listAt (wY X.K G l B) p (fun w hw=>?_) ?_
   ·obtain⟨d,z,h1,t,C⟩:=kL rl r (by simpa using hw);rw[gj I j h.1 h1 t C];exact(nh I j 19 19 d B z x w v X.A.in1 (dw h.1 h1) h.2 t rx C rv (by show X.A.units+1+19<cLine;omega)).1
   ·have e1:its.toArray.any (wY X.K G l B)=l.any fun y=>b0 y B:=by
     rw[any_toArray];exact g_ rl r fun d z w hm t C=>gj I j h.1 hm t C
    rw[e1];exact⟨_,rfl,.bl (!(l.any fun y=>b0 y B)),G,H,I,rfl,.refl j,rep_bl.mpr rfl⟩
  ·rw[if_neg h]at ok;exact ok.elim
 |tup l=>
  dsimp only at ok ⊢;by_cases h:plL 19 l=true∧a_ 19 B=true
  ·rw[if_pos h];rw[rep_tup]at ry;obtain⟨a,xs,rfl,sq,rl⟩:=ry;cases (show u= .ref a from ru);obtain⟨its,r,p⟩:=I.isTup (j.seqT sq.sq);refine notIn_tupleAt (wY X.K G l B) p (fun w hw=>?_) ?_
   ·obtain⟨d,z,h1,t,C⟩:=kL rl r (by simpa using hw);rw[gj I j h.1 h1 t C];exact(nh I j 19 19 d B z x w v X.A.in1 (dw h.1 h1) h.2 t rx C rv (by show X.A.units+1+19<cLine;omega)).1
   ·have e1:its.toArray.any (wY X.K G l B)=l.any fun y=>b0 y B:=by
     rw[any_toArray];exact g_ rl r fun d z w hm t C=>gj I j h.1 hm t C
    rw[e1];exact⟨_,rfl,.bl (!(l.any fun y=>b0 y B)),G,H,I,rfl,.refl j,rep_bl.mpr rfl⟩
  ·rw[if_neg h]at ok;exact ok.elim
 |_=>exact ok.elim
noncomputable def BM:D→Option Value
 |.non=>some (.type "NoneType")
 |.bl _=>some (.type "bool")
 |.int _=>some (.type "int")
 |.str _=>some (.type "str")
 |.lst _=>some (.type "list")
 |.tup _=>some (.type "tuple")
 |.ins _ _ _=>none
 |.dct _ _=>none
 |.scr _=>none
 |.xc C=>some (.ref C)
 |.fdc _ _=>none
noncomputable def ee (K:W.Frag)(c:Value)(d:D):Res D:=match BM d with
 |some t=>match W.kitOne K t c with|some b=>.ok (.bl b)|none=>.bad
 |none=>.bad
theorem xU {A:Around}{u:Value}{c:Value}{d:D}{x:V}{b:Bool}{t:Value}{Q:Value→Shared→Prop}{E':Value→Shared→Prop}(I:Inv X pins σ H s)(hs:Same G H)(rx:Rep X.K G d x)(ru:RelV x u)(ht:BM d=some t)(e:W.kitOne X.K t c=some b)(h:∀tk,Q (.bool b) {s with toks:=tk}) :
  wpAny (model X.prog X.w) A (call (.builtin "isinstance") [u,c]) Q E' s:=by
 have kv:=kH I hs rx ru;cases d with
 |non=>cases ht;cases (show u= .none from kv);exact W.kia_one W.kitx_none I.kIn True.intro e (fun z=>nomatch z) h
 |bl y=>cases ht;cases (show u= .bool y from kv);exact W.kia_one W.kitx_bool I.kIn True.intro e (fun z=>nomatch z) h
 |int i=>cases ht;obtain⟨t,rfl⟩:=kv;exact W.kia_one W.kitx_int I.kIn True.intro e (fun z=>nomatch z) h
 |str i=>cases ht;obtain⟨t,rfl⟩:=kv;exact W.kia_one W.kitx_str I.kIn True.intro e (fun z=>nomatch z) h
 |lst l=>
  cases ht;obtain⟨a,its,xs,rfl,⟨o,h1,h2,_⟩,_⟩:=kv;exact W.kia_one W.kitx_list I.kIn ⟨o,h1,h2⟩ e (fun z=>nomatch z) h
 |tup l=>
  cases ht;obtain⟨a,its,xs,rfl,⟨o,h1,h2,_⟩,_⟩:=kv;exact W.kia_one W.kitx_tuple I.kIn ⟨o,h1,h2⟩ e (fun z=>nomatch z) h
 |ins _ _ _=>cases ht
 |dct _ _=>cases ht
 |scr _=>cases ht
 |fdc _ _=>cases ht
 |xc C=>
  cases ht;rw[rep_xc]at rx;obtain⟨a,rfl,ha,kk⟩:=rx;cases (show u=Value.ref a from ru);obtain⟨p,_,_⟩:=(show ObjOk X.prog X.w H s.heap a (l8 a (.ref C)) from I.hok a _ (hs a _ ha));exact W.kia_one (xY kk) I.kIn p e (fun z=>nomatch z) h
theorem C1 {a c:Expr}{p pos:Pos}{fa:DS→Res D}{vc:V}(ha:PD X E a fa)(hcl:PE X c (tC vc))(hvc:cV vc≠ .none)(hg:Gl X "isinstance")(hm:X.mg "isinstance" =none)
  (hs1:starEach [a,c] X.env=(false,eval a X.env)::starEach [c] X.env:=by rfl) (hs2:starEach [c] X.env=(false,eval c X.env)::starEach [] X.env:=by rfl) (hpl:(backTo pos (starEach [c] X.env)).any (·.1)=false:=by rfl) :
  PD X E (.Call (.Name "isinstance" p) [a,c] [] pos) (fun ρ=>(fa ρ).bind (ee X.K (cV vc))):=by
 intro pins s σ G H ρ I hs hro ho;have hp:PA X [a,c] (vF (tD X.K E fa) (vF (tC vc) Bb)):=bH (du ha) (bH hcl dq hs2) hs1;refine wpAny_Call_Name_kw (i_ I hg hm PyProof.Rows.boot_isinstance ?_ (by decide) (by decide));refine PyProof.Rows.callWith_builtin1 (aW (hp pos pins s σ H (fun vs H'=>∃d x G',fa ρ= .ok d∧vs=[x,vc]∧Ext G H G' H'∧Rep X.K G' d x) I ?_) fun us s1 hZ117=>?_) hs1 hpl
 ·exact⟨G,ρ,hs,hro,ho.fst,fun d e v G1 H1 x1 rp=>⟨d,v,G1,e,rfl,x1,rp⟩⟩
 ·obtain⟨vs,H1,I1,r1,d,x,G1,e1,e2,x1,rp⟩:=hZ117;subst e2;obtain⟨u1,u2,rfl,q1,q2⟩:=BN r1;rw[BZ q2 hvc];have k:=ho.snd e1 x1.hh;unfold ee at k;cases ht:BM d with
  |none=>rw[ht]at k;exact k.elim
  |some t=>
   rw[ht]at k;dsimp only at k;cases hk:W.kitOne X.K t (cV vc) with
   |none=>rw[hk]at k;exact k.elim
   |some b=>exact xU I1 x1.gh rp q1 ht hk fun tk=>⟨.bl b,am e1 (by unfold ee;rw[ht];dsimp only;rw[hk]),.bl b,G1,H1,I1.tok tk,rfl,x1,rep_bl.mpr rfl⟩
end
end L2
namespace L2
open PySem PySem.Spec PyProof.Rows
noncomputable def zo (K:W.Frag)(J:It)(ds:List D)(G:Hp):Prop:=∀(G2 H2:Hp),Same G G2→Same G2 H2→∀(i:Nat),
 (∀d,ds[i]?=some d→J.go i H2∧∀x H',J.yld i H2 x H'→∃G',Ext G2 H2 G' H'∧Rep K G' d x)∧(ds.length≤i→J.stop i H2)
inductive tDI (K:W.Frag)(E:XK)(fi:DS→Res (List D))(σ:St)(H:Hp)(R:It→Hp→Prop):Prop
 |mk (G:Hp) (ρ:DS) (s:Same G H) (r:Ro K G σ ρ) (o:OkR E H (fi ρ)) (k:∀ds,fi ρ= .ok ds→∀J G' H',Ext G H G' H'→zo K J ds G'→R J H')
section
variable{X:Cx}{E:XK}{tg:Expr}
noncomputable def A4:D→Res (List D)
 |.lst l=>.ok l
 |_=>.bad
noncomputable def Dq:D→Res (List D)
 |.tup l=>.ok l
 |_=>.bad
theorem y9 {K:W.Frag}{G:Hp}{a:Addr}{xs:List V}{ds:List D}(sq:gB K G a xs)(rl:RepL K G ds xs):zo K (EG K a) ds G:=by
 intro G2 H2 g1 g2 i;have sq2:gB K H2 a xs:=g2.seq (g1.seq sq);refine⟨fun d hd=>?_,fun hl=>⟨xs,sq2,by rw[←rl.length];exact hl⟩⟩;obtain⟨v,hv,rv⟩:=rl.get hd;refine⟨⟨xs,v,sq2,hv⟩,fun y H' hZ118=>?_⟩;obtain⟨e,h⟩:=hZ118;subst e;have q:=h xs sq2;rw[hv]at q;cases q;exact⟨G2,.refl g2,rv.mono g1⟩
theorem A8 {K:W.Frag}{G:Hp}{a:Addr}{xs:List V}{ds:List D}(sq:mj K G a xs)(rl:RepL K G ds xs):zo K (EH K a) ds G:=by
 intro G2 H2 g1 g2 i;have sq2:mj K H2 a xs:=g2.seqT (g1.seqT sq);refine⟨fun d hd=>?_,fun hl=>⟨xs,sq2,by rw[←rl.length];exact hl⟩⟩;obtain⟨v,hv,rv⟩:=rl.get hd;refine⟨⟨xs,v,sq2,hv⟩,fun y H' hZ119=>?_⟩;obtain⟨e,h⟩:=hZ119;subst e;have q:=h xs sq2;rw[hv]at q;cases q;exact⟨G2,.refl g2,rv.mono g1⟩
noncomputable def me (lo:Int)(n:Nat):List D:=(List.range n).map fun (i:Nat)=>D.int (lo+(i:Int))
theorem jI {K:W.Frag}{G:Hp}(lo:Int)(n:Nat):zo K (Dz lo n) (me lo n) G:=by
 intro G2 H2 g1 g2 i;refine⟨fun d hd=>?_,fun hl=>(show n≤i by simpa [me] using hl)⟩;unfold me at hd;rw[getElem?_map]at hd;cases e:(List.range n)[i]? with
 |none=>rw[e]at hd;cases hd
 |some j=>
  rw[e]at hd;obtain⟨hj,rfl⟩:=gz e;cases hd;have hi:i<n:=by simpa using hj
  refine⟨hi,fun y H' hZ120=>?_⟩;obtain⟨e1,e2⟩:=hZ120;subst e1 e2;refine⟨G2,.refl g2,rep_int.mpr ?_⟩;rw[List.getElem_range]
theorem ce {e:Expr}{f:DS→Res D}(h:PD X E e f):PI X tg e (tDI X.K E (fun ρ=>(f ρ).bind A4)):=by
 intro pins s σ H R I hZ5;obtain⟨G,ρ,hs,hro,ho,k⟩:=hZ5;refine AF (du h) pins s σ H R I ⟨G,ρ,hs,hro,ho.fst,fun d e v G1 H1 x1 p1=>?_⟩;have kk:=ho.snd e x1.hh;cases d with
 |lst l=>
  rw[rep_lst]at p1;obtain⟨a,xs,rfl,sq,rl⟩:=p1;exact⟨a,rfl,⟨xs,x1.gh.seq sq.sq⟩,k l (am e rfl) (EG X.K a) G1 H1 x1 (y9 sq.sq rl)⟩
 |_=>exact kk.elim
theorem AD {e:Expr}{f:DS→Res D}(h:PD X E e f):PI X tg e (tDI X.K E (fun ρ=>(f ρ).bind Dq)):=by
 intro pins s σ H R I hZ6;obtain⟨G,ρ,hs,hro,ho,k⟩:=hZ6;refine C_ (du h) pins s σ H R I ⟨G,ρ,hs,hro,ho.fst,fun d e v G1 H1 x1 p1=>?_⟩;have kk:=ho.snd e x1.hh;cases d with
 |tup l=>
  rw[rep_tup]at p1;obtain⟨a,xs,rfl,sq,rl⟩:=p1;exact⟨a,rfl,⟨xs,x1.gh.seqT sq⟩,k l (am e rfl) (EH X.K a) G1 H1 x1 (A8 sq rl)⟩
 |_=>exact kk.elim
noncomputable def cj (i:Int):Bool:=decide (-(2 ^ 62)≤i)&&decide (i<2 ^ 62)
noncomputable def sN:List D→Res (List D)
 | [.int j]=>if cj j=true then .ok (me 0 j.toNat) else .bad
 |_=>.bad
noncomputable def ur:List D→Res (List D)
 | [.int i,.int j]=>if (cj i&&cj j)=true then .ok (me i (j-i).toNat) else .bad
 |_=>.bad
theorem fI {a:Expr}{p pos:Pos}{fs:DS→Res (List D)}(hg:Gl X "range")(hm:X.mg "range" =none)(ha:lm X E [a] fs)(hs:starEach [a] X.env=[(false,eval a X.env)]:=by rfl):PI X tg (.Call (.Name "range" p) [a] [] pos) (tDI X.K E (fun ρ=>(fs ρ).bind sN)):=by
 intro pins s σ H R I hZ7;obtain⟨G,ρ,hsm,hro,ho,k⟩:=hZ7;refine pL hg hm (im ha) hs pins s σ H R I ⟨G,ρ,hsm,hro,ho.fst,fun ds e vs G1 H1 x1 p1=>?_⟩;have kk:=ho.snd e x1.hh;unfold sN at kk;split at kk
 ·rename_i j;obtain⟨v,r,rfl,rv,r0⟩:=p1.inv;rw[r0.inv0];rw[rep_int]at rv;subst rv;by_cases hj:cj j=true
  ·have hj':=hj;unfold cj at hj';rw[and_eq_true]at hj';exact⟨j,rfl,of_decide_eq_true hj'.1,of_decide_eq_true hj'.2,k _ (am e (if_pos hj)) _ G1 H1 x1 (jI 0 j.toNat)⟩
  ·rw[if_neg hj]at kk;exact kk.elim
 ·exact kk.elim
theorem nW {a b:Expr}{p pos:Pos}{fs:DS→Res (List D)}(hg:Gl X "range")(hm:X.mg "range" =none)(ha:lm X E [a,b] fs)(hs:starEach [a,b] X.env=[(false,eval a X.env),(false,eval b X.env)]:=by rfl)(hs2:starEach [b] X.env=[(false,eval b X.env)]:=by rfl):PI X tg (.Call (.Name "range" p) [a,b] [] pos) (tDI X.K E (fun ρ=>(fs ρ).bind ur)):=by
 intro pins s σ H R I hZ8;obtain⟨G,ρ,hsm,hro,ho,k⟩:=hZ8;refine pM hg hm (im ha) hs hs2 pins s σ H R I ⟨G,ρ,hsm,hro,ho.fst,fun ds e vs G1 H1 x1 p1=>?_⟩;have kk:=ho.snd e x1.hh;unfold ur at kk;split at kk
 ·rename_i i j;obtain⟨v,r,rfl,rv,r0⟩:=p1.inv;obtain⟨v2,r2,rfl,rv2,r02⟩:=r0.inv;rw[r02.inv0];rw[rep_int]at rv rv2;subst rv rv2;by_cases hj:(cj i&&cj j)=true
  ·have hj':=hj;unfold cj at hj';rw[and_eq_true,and_eq_true,and_eq_true]at hj';exact⟨i,j,rfl,⟨of_decide_eq_true hj'.1.1,of_decide_eq_true hj'.1.2,of_decide_eq_true hj'.2.1,of_decide_eq_true hj'.2.2⟩,k _ (am e (if_pos hj)) _ G1 H1 x1 (jI i (j-i).toNat)⟩
  ·rw[if_neg hj]at kk;exact kk.elim
 ·exact kk.elim
noncomputable def bA (t:D→Res Bool)(f:D→Res D):List D→Res (List D)
 | []=>.ok []
 |d::ds=>match t d with
  |.ok true=>(match f d with
   |.ok e=>(bA t f ds).bind fun es=>.ok (e::es)
   |_=>.bad)
  |.ok false=>bA t f ds
  |_=>.bad
theorem lv {t:D→Res Bool}{f:D→Res D}:∀{as bs es:List D},bA t f (as ++ bs)= .ok es→∃e1 e2,bA t f as= .ok e1∧bA t f bs= .ok e2∧es=e1 ++ e2
 | [],bs,es,h=>⟨[],es,rfl,h,rfl⟩
 |a::as,bs,es,h=>by
  rw[List.cons_append]at h;unfold bA at h;cases ht:t a with
  |bad=>rw[ht]at h;cases h
  |exc c=>rw[ht]at h;cases h
  |ok b=>
   rw[ht]at h;cases b with
   |false=>
    obtain⟨e1,e2,h1,h2,h3⟩:=lv h;exact⟨e1,e2,by unfold bA;rw[ht];exact h1,h2,h3⟩
   |true=>
    cases hf:f a with
    |bad=>rw[hf]at h;cases h
    |exc c=>rw[hf]at h;cases h
    |ok e=>
     rw[hf]at h;dsimp only at h;cases hr:bA t f (as ++ bs) with
     |bad=>rw[hr]at h;cases h
     |exc c=>rw[hr]at h;cases h
     |ok es'=>
      rw[hr]at h;have h':Res.ok (e::es')=Res.ok es:=h;cases h';obtain⟨e1,e2,h1,h2,h3⟩:=lv hr;subst h3;exact⟨e::e1,e2,by unfold bA;rw[ht,hf];dsimp only;rw[h1];rfl,h2,rfl⟩
theorem ly {t:D→Res Bool}{f:D→Res D}:∀{as es:List D},bA t f as= .ok es→es.length≤as.length
 | [],es,h=>by unfold bA at h;cases h;exact le_refl _
 |a::as,es,h=>by
  unfold bA at h;cases ht:t a with
  |bad=>rw[ht]at h;cases h
  |exc c=>rw[ht]at h;cases h
  |ok b=>
   rw[ht]at h;cases b with
   |false=>exact Nat.le_succ_of_le (ly h)
   |true=>
    cases hf:f a with
    |bad=>rw[hf]at h;cases h
    |exc c=>rw[hf]at h;cases h
    |ok e=>
     rw[hf]at h;dsimp only at h;cases hr:bA t f as with
     |bad=>rw[hr]at h;cases h
     |exc c=>rw[hr]at h;cases h
     |ok es'=>
      rw[hr]at h;have h':Res.ok (e::es')=Res.ok es:=h;cases h';have:=ly hr;rw[length_cons,length_cons];omega
noncomputable def eA (caps:List (Option Nat))(ρ:DS):DS:=caps.map fun o=>o.bind fun k=>(ρ[k]?).join
theorem zx {K:W.Frag}{G:Hp}{σ:St}{ρ:DS}{caps:List (Option Nat)}(h:Ro K G σ ρ):Ro K G (fw caps σ) (eA caps ρ):=by
 intro i d e;unfold eA at e;rw[getElem?_map]at e;unfold fw;rw[getElem?_map];cases q:caps[i]? with
 |none=>rw[q]at e;cases e
 |some o=>
  rw[q]at e;cases o with
  |none=>simp at e
  |some k=>
   simp only[map_some,bind_some,Option.some.injEq]at e ⊢;cases q2:ρ[k]? with
   |none=>rw[q2]at e;simp at e
   |some o2=>
    rw[q2]at e;simp at e;subst e;obtain⟨v,hv,rv⟩:=h k d q2;exact⟨v,by rw[hv];rfl,rv⟩
theorem Ro.set {K:W.Frag}{G:Hp}{σ:St}{ρ:DS}{j:Nat}{v:V}{d:D}(h:Ro K G σ ρ)(hj:j<σ.length)(r:Rep K G d v):Ro K G (σ.set j (some v)) (ρ.set j (some d)):=by
 intro i e q;by_cases hi:i=j
 ·subst hi;by_cases hl:i<ρ.length
  ·rw[getElem?_set_self hl]at q;cases q;exact⟨v,getElem?_set_self hj,r⟩
  ·rw[getElem?_eq_none (by simpa using hl)]at q;cases q
 ·rw[getElem?_set_ne (Ne.symm hi)]at q ⊢;exact h i e q
noncomputable abbrev oz:XK:=fun _ _ _=>False
noncomputable def vJ (X:Cx)(E:XK)(ifs:List Expr)(f:DS→Res Bool):Prop:=Du X ifs (tDT X.K E f)
theorem bP:vJ X E [] (fun _=>.ok true):=fun pins s σ H Q I hZ121=>(by obtain⟨G,ρ,hs,hr,ho,k⟩:=hZ121;exact AG pins s σ H Q I (k true rfl G H (.refl hs)))
theorem en {c:Expr}{f:DS→Res Bool}(h:tm X E c f):vJ X E [c] f:=AH (E8 h)
end
section
variable{X:Cx}{E:XK}
noncomputable def allInts:List D→Option (List Int)
 | []=>some []
 |.int i::ds=>(allInts ds).map (i::·)
 |_=>none
theorem fj:∀{ds:List D} {ns:List Int},allInts ds=some ns→ds=ns.map D.int
 | [],ns,h=>by unfold allInts at h;cases h;rfl
 |d::ds,ns,h=>by
  cases d with
  |int i=>
   unfold allInts at h;cases q:allInts ds with
   |none=>rw[q]at h;cases h
   |some ms=>rw[q]at h;cases h;rw[fj q];rfl
  |_=>unfold allInts at h;cases h
theorem d9:∀(ns:List Int),allInts (ns.map D.int)=some ns
 | []=>rfl
 |n::ns=>by show (allInts (ns.map D.int)).map (n::·)=_;rw[d9 ns];rfl
noncomputable def E6:List Int→Int
 | []=>0
 | [a]=>a
 |a::as=>min a (E6 as)
noncomputable def dN:List Int→Int
 | []=>0
 | [a]=>a
 |a::as=>max a (dN as)
theorem dP:∀{ns:List Int},ns≠[]→dN ns∈ns∧∀a∈ns,a≤dN ns
 | [],h=>absurd rfl h
 | [a],_=>⟨mem_singleton.mpr rfl,fun b hb=>by rw[mem_singleton.mp hb];exact Int.le_refl _⟩
 |a::b::r,_=>by
  obtain⟨h1,h2⟩:=dP (ns:=b::r) (by simp);show max a (dN (b::r))∈_∧_;refine⟨?_,fun c hc=>?_⟩
  ·by_cases h:dN (b::r)≤a
   ·rw[Int.max_eq_left h];exact mem_cons_self
   ·rw[Int.max_eq_right (by omega)];exact eB h1
  ·show c≤max a (dN (b::r))
   rcases mem_cons.mp hc with rfl|hc
   ·exact Int.le_max_left _ _
   ·exact Int.le_trans (h2 c hc) (Int.le_max_right _ _)
noncomputable def oO:List D→Res D
 | [.lst l]=>match allInts l with|some (n::ns)=>.ok (.int (dN (n::ns)))|_=>.bad
 |_=>.bad
theorem vL (hc:X.calm=true):d7 X (.builtin "max") (fun xs H Q=>∃p ns,xs=[.ref p]∧gB X.K H p (ns.map V.int)∧ns≠[]∧Q (.int (dN ns)) H):=by
 intro pins s σ H xs us Q I r h;obtain⟨p,ns,rfl,sq,hne,q⟩:=h;obtain⟨u,rfl,ru⟩:=jm r;cases (show u= .ref p from ru);obtain⟨its,rv,pl,_⟩:=I.list sq;have hi:=jY rv;obtain⟨ys,e⟩:=hi.allInts.items;have C:ns=ys.toList.map (·.1):=by rw[←hi.numsOf,←nums_intItems,←e]
 have hsz:0<ys.size:=by
  have h3:0<ns.length:=length_pos_iff.mpr hne;rw[C,length_map,length_toList]at h3;exact h3
 have hl:=pl.isList;rw[e]at hl;refine max_intList (I.ok.hd hc) hl hsz fun v h' tk hv hk=>?_;obtain⟨t,rfl⟩:=intItems_at hv;obtain⟨h1,h2⟩:=argBest_gt (numAt ys) (ys.size-1);have hm:numAt ys (argBest (fun i j=>decide (numAt ys i>numAt ys j)) (ys.size-1))=dN ns:=by
  obtain⟨m1,m2⟩:=dP hne;refine Int.le_antisymm (m2 _ ?_) ?_
  ·rw[C,numAt_eq];exact getD_mem (by rw[length_map,length_toList];omega)
  ·rw[C]at m1;obtain⟨j,hj,ej⟩:=mem_getD m1;rw[length_map,length_toList]at hj;rw[←C]at ej;rw[←ej,C,←numAt_eq];exact h2 j (by omega)
 rw[hm];exact⟨.int (dN ns),H,I.kept hk,⟨t,rfl⟩,q⟩
theorem zC {K:W.Frag}:Bi K E (fun xs H Q=>∃p ns,xs=[.ref p]∧gB K H p (ns.map V.int)∧ns≠[]∧Q (.int (dN ns)) H) oO:=by
 intro G H vs ds Q hs rl ok k;unfold oO at ok k;split at ok
 ·rename_i l;obtain⟨v,r,rfl,rx,r0⟩:=rl.inv;rw[r0.inv0];rw[rep_lst]at rx;obtain⟨p,xs,rfl,sq,rx⟩:=rx;dsimp only at k;cases q:allInts l with
  |none=>rw[q]at ok;exact ok.elim
  |some ns=>
   cases ns with
   |nil=>rw[q]at ok;exact ok.elim
   |cons n ns=>
    rw[q]at k;have e:=fj q;subst e;have ex:=rx.ints;subst ex;exact⟨p,n::ns,rfl,hs.seq sq.sq,by simp,k _ _ G H rfl (.refl hs) (rep_int.mpr rfl)⟩
 ·exact ok.elim
noncomputable def qR (hi:Int)(n:Nat):List D:=(List.range n).map fun (i:Nat)=>D.int (hi-(i:Int))
theorem oK {a b c:Int}{t u v:Tok}{n:Nat}{r:Addr}{pins:List (Addr×Obj)}{σ:St}{H:Hp}{s:Shared}{Q:VK}(hc:X.calm=true)(I:Inv X pins σ H s)(hr:IsRange s.heap r a b c t u v)(hsm:Builtin.Range.small a b c=true)(hn:Builtin.Range.rangeSize a b c=n)(hz:n≤100000)
  (q:∀p,H p=none→Q (.ref p) (a9 H p (.lst ((List.range n).map fun (i:Nat)=>V.int (a+(i:Int)*c))))):wpAny (model X.prog X.w) X.A (call (.type "list") [.ref r]) (EP X pins σ Q) X.xe s:=by
 refine call_list_range (I.ok.hd hc) hr hsm hn (le_trans hz (by decide)) fun h' tk acc c' hk hD hI=>?_;obtain⟨h1,h2⟩:=hI;have hv:Vals ((List.range n).map fun (i:Nat)=>V.int (a+(i:Int)*c)) acc.toList:=by
  have aux:∀(m:Nat) (f:Nat→V) (l:List Value),l.length=m→(∀j u,l[j]?=some u→RelV (f j) u)→Vals ((List.range m).map f) l:=by
   intro m
   induction m with
   |zero=>
    intro f l hl _;cases l with
    |nil=>exact .nil
    |cons x xs=>simp at hl
   |succ m ih=>
    intro f l hl h;cases l with
    |nil=>simp at hl
    |cons x xs=>
     rw[List.range_succ_eq_map,map_cons,map_map];exact .cons (h 0 x rfl) (ih (f ∘ Nat.succ) xs (by simpa using hl) fun j u e=>h (j+1) u (by simpa using e))
  refine aux n _ acc.toList (by simpa using h1) fun j u e=>?_;obtain⟨t',rfl⟩:=h2 j u (by simpa using e);exact⟨t',rfl⟩
 refine⟨.ref s.heap.objs.size,_,I.laid (o:=.lst ((List.range n).map fun (i:Nat)=>V.int (a+(i:Int)*c))) hk (le_refl _) ⟨?_,acc.toList,c',hv,?_⟩,rfl,q _ (I.hok.fresh (le_refl _))⟩
 ·rw[length_map,length_range];exact le_trans hz (by decide)
 ·rw[hD]
theorem i5 {i:Int}(h1: -(2 ^ 62)≤i)(h2:i≤2 ^ 62):Builtin.Range.rangeFitsLong i=true:=by
 unfold Builtin.Range.rangeFitsLong;simp only[and_eq_true,decide_eq_true_eq];omega
theorem pP {a b:Int}:Builtin.Range.rangeSize a b (-1)=((a-b).toNat:Int):=by
 unfold Builtin.Range.rangeSize;rw[if_neg (by decide)];split
 ·have:(-(-1:Int))=1:=by decide
  rw[this,Int.ediv_one];omega
 ·omega
theorem pQ {a b c:Int}(h1: -(2 ^ 60)≤a)(h2:a<2 ^ 60)(h3: -(2 ^ 60)≤b)(h4:b<2 ^ 60)(hc:c=1∨c= -1):Builtin.Range.small a b c=true:=by
 rcases hc with rfl|rfl
 ·exact small_one (by omega) (by omega) (by omega) (by omega)
 ·unfold Builtin.Range.small;rw[pP,i5 (i:=a) (by omega) (by omega),i5 (i:=b) (by omega) (by omega),i5 (i:= -1) (by decide) (by decide),i5 (i:=((a-b).toNat:Int)) (by omega) (by omega)];rw[if_neg (by decide),i5 (i:=b+(-1+1)) (by omega) (by omega)];simp
noncomputable def tz (p:Addr)(a b c:Int):HO:=.ext fun h=>∃t u v,IsRange h p a b c t u v
theorem Inv.rng {pins:List (Addr×Obj)}{σ:St}{H:Hp}{s:Shared}{a b c:Int}{t u v:Tok}{tk:Nat}(I:Inv X pins σ H s):Inv X pins σ (a9 H s.heap.objs.size (tz s.heap.objs.size a b c)) {s with heap:=s.heap.push {cls:=.type "range",data:=.fields #[.int a t,.int b u,.int c v]},toks:=tk}:=
 I.laid (fun b o e=>Heap.get?_push_of_some _ e) (le_refl _) ⟨⟨t,u,v,Heap.get?_push_size _ rfl⟩,⟨_,Heap.get?_push_size _ rfl⟩,fun h1 h2 ⟨t,u,v,e⟩ k=>⟨t,u,v,k _ e⟩⟩
theorem rB:d7 X (.type "range") (fun xs H Q=>∃i j,xs=[.int i,.int j]∧∀p,H p=none→Q (.ref p) (a9 H p (tz p i j 1))):=by
 intro pins s σ H xs us Q I r h;obtain⟨i,j,rfl,q⟩:=h;obtain⟨u1,u2,rfl,⟨t1,rfl⟩,⟨t2,rfl⟩⟩:=BN r;exact call_range_2 ⟨.ref s.heap.objs.size,_,I.rng,rfl,q _ (I.hok.fresh (le_refl _))⟩
theorem EE {x y z:V}{us:List Value}(r:Vals [x,y,z] us):∃u v w,us=[u,v,w]∧RelV x u∧RelV y v∧RelV z w:=by
 cases r with
 |cons a b=>cases b with
  |cons c d=>cases d with
   |cons e f=>cases f;exact⟨_,_,_,rfl,a,c,e⟩
theorem rC:d7 X (.type "range") (fun xs H Q=>∃i j,xs=[.int i,.int j,.int (-1)]∧∀p,H p=none→Q (.ref p) (a9 H p (tz p i j (-1)))):=by
 intro pins s σ H xs us Q I r h;obtain⟨i,j,rfl,q⟩:=h;obtain⟨u1,u2,u3,rfl,⟨t1,rfl⟩,⟨t2,rfl⟩,⟨t3,rfl⟩⟩:=EE r;exact call_range_3 (by decide) ⟨.ref s.heap.objs.size,_,I.rng (tk:=s.toks),rfl,q _ (I.hok.fresh (le_refl _))⟩ (.inl (PyProof.noPylong_small (by decide)))
theorem ki (hc:X.calm=true):d7 X (.type "list") (fun xs H Q=>∃p a b c n,xs=[.ref p]∧H p=some (tz p a b c)∧Builtin.Range.small a b c=true∧Builtin.Range.rangeSize a b c=((n:Nat):Int)∧n≤100000∧∀l,H l=none→Q (.ref l) (a9 H l (.lst ((List.range n).map fun (i:Nat)=>V.int (a+(i:Int)*c))))):=by
 intro pins s σ H xs us Q I r h;obtain⟨p,a,b,c,n,rfl,hp,hsm,hn,hz,q⟩:=h;obtain⟨u,rfl,ru⟩:=jm r;cases (show u= .ref p from ru);obtain⟨⟨t,u,v,e⟩,_,_⟩:=(show ObjOk X.prog X.w H s.heap p (tz p a b c) from I.hok p _ hp);exact oK hc I e hsm hn hz q
noncomputable def iL (i:Int):Bool:=decide (-(2 ^ 60)≤i)&&decide (i<2 ^ 60)
noncomputable def pE:List D→Res D
 | [.int i,.int j]=>if (iL i&&iL j&&aM (j-i).toNat)=true then .ok (.lst (me i (j-i).toNat)) else .bad
 |_=>.bad
noncomputable def pF:List D→Res D
 | [.int i,.int j,.int k]=>if (iL i&&iL j&&aM (i-j).toNat&&decide (k= -1))=true then .ok (.lst (qR i (i-j).toNat)) else .bad
 |_=>.bad
theorem n_ {K:W.Frag}{G:Hp}{f:Nat→D}{g:Nat→V}(h:∀i,Rep K G (f i) (g i)):∀(l:List Nat),RepL K G (l.map f) (l.map g)
 | []=>.nil
 |a::r=>.cons (h a) (n_ h r)
theorem uc {a b:Expr}{p1 p2 pos1 pos2:Pos}{fs:DS→Res (List D)}(hc:X.calm=true)(hgl:Gl X "list")(hml:X.mg "list" =none)(hg:Gl X "range")(hm:X.mg "range" =none)(ha:lm X E [a,b] fs)
  (hs:starEach [a,b] X.env=(false,eval a X.env)::starEach [b] X.env:=by rfl) (hpl:(backTo pos2 (starEach [b] X.env)).any (·.1)=false:=by rfl)
  (hs3:starEach [.Call (.Name "range" p2) [a,b] [] pos2] X.env=(false,eval (.Call (.Name "range" p2) [a,b] [] pos2) X.env)::starEach [] X.env:=by rfl) :
  PD X E (.Call (.Name "list" p1) [.Call (.Name "range" p2) [a,b] [] pos2] [] pos1) (bf fs pE):=by
 intro pins s σ G H ρ I hsm hro ho;have he:=cW (pos:=pos1) (p:=p1) (ki hc) hgl hml PyProof.Rows.boot_list (bH (cW (pos:=pos2) (p:=p2) rB hg hm boot_range (im ha) (by decide) (by decide) hs hpl) dq hs3) (by decide) (by decide) hs3 rfl;refine aW (he pins s σ H (fun v H'=>∃d G',bf fs pE ρ= .ok d∧Ext G H G' H'∧Rep X.K G' d v) I ?_) fun u s' hZ122=>(by obtain⟨v,H',I',r,d,G',e,xx,rp⟩:=hZ122;exact⟨d,e,v,G',H',I',r,xx,rp⟩);refine⟨G,ρ,hsm,hro,ho.fst,fun ds e vs G1 H1 x1 p1=>?_⟩;have kk:=ho.snd e x1.hh;unfold pE at kk;split at kk
 ·rename_i i j;obtain⟨v,r,rfl,rv,r0⟩:=p1.inv;obtain⟨v2,r2,rfl,rv2,r02⟩:=r0.inv;rw[r02.inv0];rw[rep_int]at rv rv2;subst rv rv2;by_cases hj:(iL i&&iL j&&aM (j-i).toNat)=true
  ·have hj':=hj;unfold iL at hj';simp only[and_eq_true,decide_eq_true_eq]at hj';obtain⟨⟨⟨a1,a2⟩,b1,b2⟩,l1⟩:=hj';refine⟨i,j,rfl,fun p hp=>⟨p,i,j,1,(j-i).toNat,rfl,aq,pQ a1 a2 b1 b2 (.inl rfl),by rw[rangeSize_one];split <;> omega,of_decide_eq_true l1,fun l hl=>?_⟩⟩;have x2:=x1.trans (Ext.new x1.gh hp (tz p i j 1));have x3:=x2.trans (Ext.new x2.gh hl (.lst ((List.range (j-i).toNat).map fun (k:Nat)=>V.int (i+(k:Int)*1))));refine⟨_,_,am e (if_pos hj),x3,rep_lst.mpr ⟨l,_,rfl,.of aq,n_ (fun k=>rep_int.mpr (by rw[Int.mul_one])) _⟩⟩
  ·rw[if_neg hj]at kk;exact kk.elim
 ·exact kk.elim
theorem ud {a b c:Expr}{p1 p2 pos1 pos2:Pos}{fs:DS→Res (List D)}(hc:X.calm=true)(hgl:Gl X "list")(hml:X.mg "list" =none)(hg:Gl X "range")(hm:X.mg "range" =none)(ha:lm X E [a,b,c] fs)
  (hs:starEach [a,b,c] X.env=(false,eval a X.env)::starEach [b,c] X.env:=by rfl) (hpl:(backTo pos2 (starEach [b,c] X.env)).any (·.1)=false:=by rfl)
  (hs3:starEach [.Call (.Name "range" p2) [a,b,c] [] pos2] X.env=(false,eval (.Call (.Name "range" p2) [a,b,c] [] pos2) X.env)::starEach [] X.env:=by rfl) :
  PD X E (.Call (.Name "list" p1) [.Call (.Name "range" p2) [a,b,c] [] pos2] [] pos1) (bf fs pF):=by
 intro pins s σ G H ρ I hsm hro ho;have he:=cW (pos:=pos1) (p:=p1) (ki hc) hgl hml PyProof.Rows.boot_list (bH (cW (pos:=pos2) (p:=p2) rC hg hm boot_range (im ha) (by decide) (by decide) hs hpl) dq hs3) (by decide) (by decide) hs3 rfl;refine aW (he pins s σ H (fun v H'=>∃d G',bf fs pF ρ= .ok d∧Ext G H G' H'∧Rep X.K G' d v) I ?_) fun u s' hZ123=>(by obtain⟨v,H',I',r,d,G',e,xx,rp⟩:=hZ123;exact⟨d,e,v,G',H',I',r,xx,rp⟩);refine⟨G,ρ,hsm,hro,ho.fst,fun ds e vs G1 H1 x1 p1=>?_⟩;have kk:=ho.snd e x1.hh;unfold pF at kk;split at kk
 ·rename_i i j k;obtain⟨v,r,rfl,rv,r0⟩:=p1.inv;obtain⟨v2,r2,rfl,rv2,r02⟩:=r0.inv;obtain⟨v3,r3,rfl,rv3,r03⟩:=r02.inv;rw[r03.inv0];rw[rep_int]at rv rv2 rv3;subst rv rv2 rv3;by_cases hj:(iL i&&iL j&&aM (i-j).toNat&&decide (k= -1))=true
  ·have hj':=hj;unfold iL at hj';simp only[and_eq_true,decide_eq_true_eq]at hj';obtain⟨⟨⟨⟨a1,a2⟩,b1,b2⟩,l1⟩,rfl⟩:=hj';refine⟨i,j,rfl,fun p hp=>⟨p,i,j,-1,(i-j).toNat,rfl,aq,pQ a1 a2 b1 b2 (.inr rfl),pP,of_decide_eq_true l1,fun l hl=>?_⟩⟩;have x2:=x1.trans (Ext.new x1.gh hp (tz p i j (-1)));have x3:=x2.trans (Ext.new x2.gh hl (.lst ((List.range (i-j).toNat).map fun (k:Nat)=>V.int (i+(k:Int)*(-1)))));refine⟨_,_,am e (if_pos hj),x3,rep_lst.mpr ⟨l,_,rfl,.of aq,n_ (fun k=>rep_int.mpr (by congr 1;omega)) _⟩⟩
  ·rw[if_neg hj]at kk;exact kk.elim
 ·exact kk.elim
noncomputable def tJ (l:List D)(lo hi:Option Int):List D:=(l.drop (HT.cF l.length 0 lo)).take (HT.cF l.length l.length hi-HT.cF l.length 0 lo)
theorem qg {K:W.Frag}{G:Hp}{ds:List D}{xs:List V}(h:RepL K G ds xs)(lo hi:Option Int):RepL K G (tJ ds lo hi) (rG xs lo hi):=by
 unfold tJ rG;rw[←h.length];exact(h.drop _).take _
noncomputable def fM (lo hi:Option Int):D→Res D
 |.lst l=>.ok (.lst (tJ l lo hi))
 |.tup l=>if HT.cF l.length 0 lo=0∧HT.cF l.length l.length hi=l.length then .bad else .ok (.tup (tJ l lo hi))
 |_=>.bad
inductive tPO (K:W.Frag)(E:XK)(f:DS→Res (Option Int))(σ:St)(H:Hp)(Q:Option Int→Hp→Prop):Prop
 |mk (G:Hp) (ρ:DS) (s:Same G H) (r:Ro K G σ ρ) (ok:OkR E H (f ρ)) (k:∀o,f ρ= .ok o→∀G' H',Ext G H G' H'→Q o H')
noncomputable def BS (X:Cx)(E:XK)(e:Option Expr)(f:DS→Res (Option Int)):Prop:=PO X e (tPO X.K E f)
theorem kR:BS X E none (fun _=>.ok none):=fun pins s σ H Q I hZ124=>(by obtain⟨G,ρ,hs,hr,ho,k⟩:=hZ124;exact AR pins s σ H Q I (k none rfl G H (.refl hs)))
noncomputable def EU:D→Res (Option Int)
 |.int i=>.ok (some i)
 |_=>.bad
theorem kT {e:Expr}{f:DS→Res D}(h:PD X E e f):BS X E (some e) (fun ρ=>(f ρ).bind EU):=by
 intro pins s σ H Q I hZ9;obtain⟨G,ρ,hs,hr,ho,k⟩:=hZ9;refine AS (du h) pins s σ H Q I ⟨G,ρ,hs,hr,ho.fst,fun d e v G1 H1 x1 p1=>?_⟩;have kk:=ho.snd e x1.hh;cases d with
 |int i=>rw[rep_int]at p1;exact⟨i,p1,k (some i) (am e rfl) G1 H1 x1⟩
 |_=>exact kk.elim
noncomputable def zl (f:DS→Res D)(lo hi:DS→Res (Option Int)):DS→Res D:=fun ρ=>(f ρ).bind fun d=>(lo ρ).bind fun l=>(hi ρ).bind fun u=>fM l u d
theorem nR {e:Expr}{lo hi:Option Expr}{p2 pos:Pos}{f:DS→Res D}{fl fh:DS→Res (Option Int)}(he:PD X E e f)(hl:BS X E lo fl)(hh:BS X E hi fh):PD X E (.Subscript e (.Slice lo hi none p2) pos) (zl f fl fh):=by
 intro pins s σ G H ρ I hsm hro ho;have hp:=sB (pos:=pos) (p2:=p2) (sl_list.or y6) (du he) hl hh;refine aW (hp pins s σ H (fun v H'=>∃d G',zl f fl fh ρ= .ok d∧Ext G H G' H'∧Rep X.K G' d v) I ?_) fun u s' hZ125=>(by obtain⟨v,H',I',r,d,G',e,xx,rp⟩:=hZ125;exact⟨d,e,v,G',H',I',r,xx,rp⟩);refine⟨G,ρ,hsm,hro,ho.fst,fun d e v G1 H1 x1 p1=>?_⟩;have k1:=ho.snd e x1.hh;refine⟨G1,ρ,x1.gh,hro.mono x1.gg,k1.fst,fun l el G2 H2 x2=>?_⟩;have k2:=k1.snd el x2.hh;refine⟨G2,ρ,x2.gh,(hro.mono x1.gg).mono x2.gg,k2.fst,fun u eu G3 H3 F=>?_⟩;have k3:=k2.snd eu F.hh;have x13:=(x1.trans x2).trans F;have p3:=p1.mono (x2.gg.trans F.gg);cases d with
 |lst ds=>
  rw[rep_lst]at p3;obtain⟨a,xs,rfl,sq,rl⟩:=p3;exact .inl ⟨a,xs,rfl,F.gh.seq sq.sq,fun p hp=>⟨_,_,am e (am el (am eu rfl)),x13.trans (.new F.gh hp _),rep_lst.mpr ⟨p,_,rfl,.of aq,(qg rl l u).mono (Ext.new F.gh hp _).gg⟩⟩⟩
 |tup ds=>
  rw[rep_tup]at p3;obtain⟨a,xs,rfl,sq,rl⟩:=p3;unfold fM at k3;dsimp only at k3;by_cases hw:HT.cF ds.length 0 l=0∧HT.cF ds.length ds.length u=ds.length
  ·rw[if_pos hw]at k3;exact k3.elim
  ·exact .inr ⟨a,xs,rfl,F.gh.seqT sq,by rw[←rl.length];exact hw,fun p hp=>⟨_,_,am e (am el (am eu (if_neg hw))),x13.trans (.new F.gh hp _),rep_tup.mpr ⟨p,_,rfl,.of aq,(qg rl l u).mono (Ext.new F.gh hp _).gg⟩⟩⟩
 |_=>exact k3.elim
end
inductive Out where
 |nx (ρ:DS)|rt (d:D)|bk (ρ:DS)|ct (ρ:DS)|exc (c:Addr)|bad
noncomputable def OkO (E:XK)(H:Hp):Out→Prop
 |.exc c=>∀H',Same H H'→E (.ref c) none H'
 |.bad=>False
 |_=>True
noncomputable def Out.then:Out→(DS→Out)→Out
 |.nx ρ,f=>f ρ
 |o,_=>o
noncomputable def Res.out {α:Type}:Res α→(α→Out)→Out
 |.ok a,f=>f a
 |.exc c,_=>.exc c
 |.bad,_=>.bad
noncomputable def SO (X:Cx)(pins:List (Addr×Obj))(G H:Hp)(o:Out)(fl:Flow)(s':Shared):Prop:=
 match fl with
 |.next=>∃ρ' σ' G' H',o= .nx ρ'∧Inv X pins σ' H' s'∧Ext G H G' H'∧Ro X.K G' σ' ρ'
 |.brk=>∃ρ' σ' G' H',o= .bk ρ'∧Inv X pins σ' H' s'∧Ext G H G' H'∧Ro X.K G' σ' ρ'
 |.cont=>∃ρ' σ' G' H',o= .ct ρ'∧Inv X pins σ' H' s'∧Ext G H G' H'∧Ro X.K G' σ' ρ'
 |.ret u=>∃d v σ' G' H',o= .rt d∧Inv X pins σ' H' s'∧RelV v u∧Ext G H G' H'∧Rep X.K G' d v
noncomputable def BT (X:Cx)(E:XK)(st:Stmt)(F:DS→Out):Prop:=
 ∀(pins:List (Addr×Obj)) (s:Shared) (σ:St) (G H:Hp) (ρ:DS),Inv X pins σ H s→Same G H→Ro X.K G σ ρ→OkO E H (F ρ)→
  wpAny (model X.prog X.w) X.A (exec st X.env) (SO X pins G H (F ρ)) X.xe s
noncomputable def ES (X:Cx)(E:XK)(sts:List Stmt)(F:DS→Out):Prop:=
 ∀(pins:List (Addr×Obj)) (s:Shared) (σ:St) (G H:Hp) (ρ:DS),Inv X pins σ H s→Same G H→Ro X.K G σ ρ→OkO E H (F ρ)→
  wpAny (model X.prog X.w) X.A (execs sts X.env) (SO X pins G H (F ρ)) X.xe s
theorem OkO.fst {E:XK}{H:Hp}{o:Out}{f:DS→Out}(h:OkO E H (o.then f)):OkO E H o:=by cases o <;> first|exact h|trivial
theorem OkO.snd {E:XK}{H H1:Hp}{o:Out}{f:DS→Out}{ρ:DS}(h:OkO E H (o.then f))(e:o= .nx ρ)(s:Same H H1):OkO E H1 (f ρ):=by
 subst e;have h':OkO E H (f ρ):=h;cases q:f ρ with
 |exc c=>rw[q]at h';exact fun H' s'=>h' H' (s.trans s')
 |bad=>rw[q]at h';exact h'
 |nx _=>trivial
 |rt _=>trivial
 |bk _=>trivial
 |ct _=>trivial
theorem OkO.le {E:XK}{H H1:Hp}{o:Out}(h:OkO E H o)(s:Same H H1):OkO E H1 o:=by
 cases o with
 |exc c=>exact fun H' s'=>h H' (s.trans s')
 |bad=>exact h
 |_=>trivial
theorem OkO.res {α:Type}{E:XK}{H:Hp}{x:Res α}{f:α→Out}(h:OkO E H (x.out f)):OkR E H x:=by cases x <;> first|exact h|trivial
theorem OkO.res2 {α:Type}{E:XK}{H H1:Hp}{x:Res α}{f:α→Out}{a:α}(h:OkO E H (x.out f))(e:x= .ok a)(s:Same H H1):OkO E H1 (f a):=by
 subst e;exact OkO.le (show OkO E H (f a) from h) s
theorem b_ {α:Type}{x:Res α}{f:α→Out}{a:α}(e:x= .ok a):x.out f=f a:=by subst e;rfl
section
variable{X:Cx}{E:XK}
noncomputable def aC (F R:DS→Out):DS→Out:=fun ρ=>(F ρ).then R
theorem vx {st:Stmt}{F:DS→Out}(h1:BT X E st F):ES X E [st] F:=by
 intro pins s σ G H ρ I hs hr ho;refine wpAny_execs_cons (aW (h1 pins s σ G H ρ I hs hr ho) fun fl s1 q=>?_);cases fl with
 |next=>exact wpAny_execs_nil q
 |brk=>exact q
 |cont=>exact q
 |ret u=>exact q
noncomputable def bF (f:DS→Res D):DS→Out:=fun ρ=>(f ρ).out .rt
theorem yH {e:Expr}{pos:Pos}{f:DS→Res D}(h:PD X E e f):BT X E (.Return (some e) pos) (bF f):=by
 intro pins s σ G H ρ I hs hr ho;refine aW (qP (pos:=pos) (du h) pins s σ H {nx:=fun _ _=>False,bk:=fun _ _=>False,ct:=fun _ _=>False,rt:=fun v H'=>∃d G',f ρ= .ok d∧Ext G H G' H'∧Rep X.K G' d v} I ⟨G,ρ,hs,hr,ho.res,fun d e v G' H' x rp=>⟨d,G',e,x,rp⟩⟩) fun fl s1 q=>?_;cases fl with
 |next=>obtain⟨_,_,_,q⟩:=q;exact q.elim
 |brk=>obtain⟨_,_,_,q⟩:=q;exact q.elim
 |cont=>obtain⟨_,_,_,q⟩:=q;exact q.elim
 |ret u=>
  obtain⟨v,σ',H',I',rv,d,G',e,x,rp⟩:=q;exact⟨d,v,σ',G',H',b_ e,I',rv,x,rp⟩
noncomputable def aJ (i:Nat)(f:DS→Res D):DS→Out:=fun ρ=>(f ρ).out fun d=>.nx (ρ.set i (some d))
noncomputable def jO (fc:DS→Res Bool)(Fa Fb:DS→Out):DS→Out:=fun ρ=>(fc ρ).out fun k=>if k=true then Fa ρ else Fb ρ
noncomputable def gq (C:Addr)(ok:DS→Bool):DS→Out:=fun ρ=>if ok ρ=true then .exc C else .bad
theorem yG {x:Str}{np cpos pos:Pos}{e:Expr}{es:List Expr}{C:Addr}{t:TA}(hR:mL X E)(hc:X.calm=true)(Gx:ExcC X.K X.mg x C)(hg:Gl X x)(ha:PA X (e::es) t)(ok:DS→Bool)
  (ht:∀σ G H ρ,Same G H→Ro X.K G σ ρ→ok ρ=true→t σ H fun vs H1=>vs.length≤sizeLine∧H1=H)
  (he:starEach (e::es) X.env=(false,eval e X.env)::starEach es X.env:=by rfl) (hpl:(backTo cpos (starEach es X.env)).any (·.1)=false:=by rfl) (hdb:(x==("__debug__" :Str))=false:=by decide)
  (hmono:∀σ H Q Q',(∀vs H1,Q vs H1→Q' vs H1)→t σ H Q→t σ H Q') :
  BT X E (.Raise (some (.Call (.Name x np) (e::es) [] cpos)) none pos) (gq C ok):=by
 intro pins s σ G H ρ I hs hr ho;unfold gq at ho ⊢;by_cases hk:ok ρ=true
 ·rw[if_pos hk]at ho ⊢;refine wpAny_mono (yL hR hc Gx hg ha he hpl hdb pins s σ H {nx:=fun _ _=>False,bk:=fun _ _=>False,ct:=fun _ _=>False,rt:=fun _ _=>False} I (hmono _ _ _ _ (fun vs H1 hZ126=>(by obtain⟨a,b⟩:=hZ126;exact⟨a,by subst b;exact ho _ (.refl _)⟩)) (ht σ G H ρ hs hr hk))) (fun fl s1 q=>?_) fun _ _ z=>z;cases fl with
  |next=>obtain⟨_,_,_,q⟩:=q;exact q.elim
  |brk=>obtain⟨_,_,_,q⟩:=q;exact q.elim
  |cont=>obtain⟨_,_,_,q⟩:=q;exact q.elim
  |ret u=>obtain⟨_,_,_,_,_,q⟩:=q;exact q.elim
 ·rw[if_neg hk]at ho;exact ho.elim
noncomputable def Ae (j:Nat)(F:DS→Out):List D→DS→Out
 | [],ρ=>.nx ρ
 |d::ds,ρ=>match F (ρ.set j (some d)) with
  |.nx ρ'=>Ae j F ds ρ'
  |.ct ρ'=>Ae j F ds ρ'
  |.bk ρ'=>.nx ρ'
  |.rt d=>.rt d
  |.exc c=>.exc c
  |.bad=>.bad
noncomputable def EV (fi:DS→Res (List D))(j:Nat)(F:DS→Out):DS→Out:=fun ρ=>(fi ρ).out fun ds=>Ae j F ds ρ
end
noncomputable def fG:Out→Res D
 |.rt d=>.ok d
 |.nx _=>.ok .non
 |.exc c=>.exc c
 |_=>.bad
noncomputable def aK (N:List Str)(ds:List D):DS:=ds.map some ++ replicate (N.length-ds.length) none
theorem sP {K:W.Frag}{G:Hp}{N:List Str}{ds:List D}{vs:List V}(h:RepL K G ds vs):Ro K G (fX N vs) (aK N ds):=by
 intro i d e;unfold aK at e;unfold fX;by_cases hi:i<ds.length
 ·rw[getElem?_append_left (by simpa using hi),getElem?_map]at e;cases q:ds[i]? with
  |none=>rw[q]at e;cases e
  |some d'=>
   rw[q]at e;cases e;obtain⟨v,hv,rv⟩:=h.get q;have hv2:i<vs.length:=(gz hv).1;exact⟨v,by rw[getElem?_append_left (by simpa using hv2),getElem?_map,hv];rfl,rv⟩
 ·rw[getElem?_append_right (by simpa using hi),List.getElem?_replicate]at e;split at e <;> cases e
section
variable{P:Program}{w:World}{K:W.Frag}{mg:Str→Option Value}{base:Heap}
noncomputable abbrev w9 (P:Program)(w:World)(K:W.Frag)(mg:Str→Option Value)(base:Heap)(N:List Str)(qual:Str)(scope:Scope)(f:Addr)(cdv:Value)(A:Around)(outer:List Env)(s:Shared)(H:Hp)(E:XK):Cx:=oE (CXF P w) P w K mg base N qual scope f cdv A outer s H E
theorem Fun.okF {x qual:Str}{st:Stmt}{f:Addr}{fd:FuncData}{N ps:List Str}{k:Nat}{sp:Sp}(F:Fun K x qual st f fd)(S:FnScope N ps (aj st))(len:∀vs H Q E,sp vs H Q E→vs.length=ps.length)
  (hbody:∀(cdv:Value) (A:Around) (outer:List Env) (s:Shared) (H:Hp) (vs:List V) (Q:VK) (E:XK),Room k (A.deeper (envOfC qual (aj st) s.heap.objs.size f cdv))→sp vs H Q E→
   ∃t,DC (w9 P w K mg base N qual (aj st) f cdv A outer s H E) (cN st) t∧t {nx:=fun _ H'=>Q .non H',rt:=Q} (fX N vs) H):FnOk P w K mg base (CXF P w) (k+1) f fd ps sp:=by
 obtain⟨oc,od,kV,doc,pm,an,cdv,ct,osl,rfl,lk,hcd⟩:=F.ex;exact xJ lk hcd S len fun A outer s H vs Q E hr hsp=>hbody cdv A outer s H vs Q E hr hsp
theorem Fun.pure {x qual:Str}{st:Stmt}{f:Addr}{fd:FuncData}{N ps:List Str}{k:Nat}{m:List D→Res D}(F:Fun K x qual st f fd)(S:FnScope N ps (aj st))(len:∀ds,m ds≠ .bad→ds.length=ps.length)
  (hbody:∀(cdv:Value) (A:Around) (outer:List Env) (s:Shared) (H:Hp) (E:XK),Room k (A.deeper (envOfC qual (aj st) s.heap.objs.size f cdv))→
   ∃Fb,ES (w9 P w K mg base N qual (aj st) f cdv A outer s H E) E (cN st) Fb∧∀ds,m ds≠ .bad→fG (Fb (aK N ds))=m ds):FnOk P w K mg base (CXF P w) (k+1) f fd ps (pureSp K m):=by
 have nb:∀{E:XK} {H:Hp} {r:Res D},OkR E H r→r≠ .bad:=fun h z=>by rw[z]at h;exact h
 obtain⟨oc,od,kV,doc,pm,an,cdv,ct,osl,rfl,lk,hcd⟩:=F.ex;refine xJ lk hcd S (fun vs H Q E hZ127=>(by obtain⟨ds,G,_,rl,L,_⟩:=hZ127;rw[←rl.length];exact len ds (nb L))) fun A outer s H vs Q E hr hsp=>?_;obtain⟨ds,G,hs,rl,L,k⟩:=hsp;obtain⟨Fb,hb,hm⟩:=hbody cdv A outer s H E hr;have J:=hm ds (nb L);have hoO:OkO E H (Fb (aK N ds)):=by
  rw[←J]at L;cases q:Fb (aK N ds) with
  |exc c=>rw[q]at L;exact L
  |bad=>rw[q]at L;exact L
  |_=>trivial
 refine⟨fun D σ H1=>(σ=fX N vs∧H1=H∧(D.nx=fun _ M=>Q .non M)∧D.rt=Q),?_,rfl,rfl,rfl,rfl⟩;intro pins s1 σ H1 D I hZ10;obtain⟨e1,e2,e3,e4⟩:=hZ10;subst e1 e2;refine aW (hb pins s1 _ G H1 (aK N ds) I hs (sP rl) hoO) fun fl s2 q=>?_;cases fl with
 |next=>
  obtain⟨ρ',t,G',M,e,I',x,r⟩:=q;refine⟨t,M,I',?_⟩;rw[e3];exact k .non (by rw[←J,e];rfl) .non G' M x (rep_non.mpr rfl)
 |brk=>
  obtain⟨ρ',t,G',M,e,I',x,r⟩:=q;rw[e]at J;exact absurd J.symm (nb L)
 |cont=>
  obtain⟨ρ',t,G',M,e,I',x,r⟩:=q;rw[e]at J;exact absurd J.symm (nb L)
 |ret u=>
  obtain⟨d,v,t,G',M,e,I',rv,x,rp⟩:=q;refine⟨v,t,M,I',rv,?_⟩;rw[e4];exact k d (by rw[←J,e];rfl) v G' M x rp
end
section
variable{X:Cx}{E:XK}
noncomputable def ac (i:Nat):DS→Res D:=fun ρ=>match ρ[i]? with|some (some d)=>.ok d|_=>.bad
theorem dv (i:Nat){x:Str}{pos:Pos}(hN:X.N[i]?=some x:=by rfl)(hv:uJ X.env.scope x:=by first|exact Or.inl rfl|exact Or.inr (Or.inl rfl)|exact Or.inr (Or.inr rfl))(hd:(x==("__debug__" :Str))=false:=by decide)
  (hcd:(x==("__classdict__" :Str))=false:=by decide):PD X E (.Name x pos) (ac i):=C4 hN hv hd hcd
end
section
variable{α β:Type}{a:α}{f:α→Res β}{g:α→Out}{c:Addr}
theorem av:(Res.ok a).bind f=f a:=id rfl
theorem rQ:(Res.exc c:Res α).bind f= .exc c:=id rfl
theorem cz:(Res.ok a).out g=g a:=id rfl
theorem tO:(Res.exc c:Res α).out g= .exc c:=id rfl
end
section
variable{ρ:DS}{R:DS→Out}{d e:D}{i j:Int}{l:List D}{c:Addr}{F F':DS→Out}{f f':DS→Res D}{fc:DS→Res Bool}{b:Bool}
theorem aY:(Out.nx ρ).then R=R ρ:=id rfl
theorem tP:(Out.rt d).then R= .rt d:=id rfl
theorem rT:(Out.exc c).then R= .exc c:=id rfl
theorem bQ:aC F R ρ=(F ρ).then R:=id rfl
theorem Cs {k:Nat}:aJ k f ρ=(f ρ).out fun d=>.nx (ρ.set k (some d)):=id rfl
theorem iZ:bF f ρ=(f ρ).out .rt:=id rfl
theorem DU:jO fc F F' ρ=(fc ρ).out fun k=>if k=true then F ρ else F' ρ:=id rfl
theorem Bq {o:D→D→Res D}:ae f f' o ρ=(f ρ).bind fun a=>(f' ρ).bind fun b=>o a b:=id rfl
theorem DO {fs:DS→Res (List D)}{g:List D→Res D}:bf fs g ρ=(fs ρ).bind g:=id rfl
theorem B7:cZ f ρ=(f ρ).bind fun d=>match d with|.bl b=>.ok b|_=>.bad:=id rfl
theorem zZ:ac 0 (some d::ρ)= .ok d:=id rfl
theorem z_ {k:Nat}{o:Option D}:ac (k+1) (o::ρ)=ac k ρ:=id rfl
theorem zS {o o':Option D}:(o::ρ).set 0 o'=o'::ρ:=id rfl
theorem zT {k:Nat}{o o':Option D}:(o::ρ).set (k+1) o'=o::ρ.set k o':=id rfl
theorem xD:fG (.rt d)= .ok d:=id rfl
theorem xC:fG (.nx ρ)= .ok .non:=id rfl
theorem vW:fG (.exc c)= .exc c:=id rfl
theorem B5:xg (.int i) (.int j)= .ok (.int (i+j)):=id rfl
theorem Cu:qX (.int i) (.int j)= .ok (.int (i-j)):=id rfl
theorem zO (h1: -(2 ^ 64)<j)(h2:j<2 ^ 64):wy (.int i) (.int j)= .ok (.int (i*j)):=by
 unfold wy iO;dsimp only;rw[if_pos (decide_eq_true (show CMul i j from Or.inr ⟨h1,h2⟩))]
theorem zN (h1: -(2 ^ 64)<i)(h2:i<2 ^ 64):wy (.int i) (.int j)= .ok (.int (i*j)):=by
 unfold wy iO;dsimp only;rw[if_pos (decide_eq_true (show CMul i j from Or.inl ⟨h1,h2⟩))]
theorem qm (h:0<j):qG (.int i) (.int j)= .ok (.int (i % j)):=by
 unfold qG iO;dsimp only;rw[if_pos (decide_eq_true h)]
theorem uR (h1:0<j)(h2:j<1073741824):uY (.int i) (.int j)= .ok (.int (i / j)):=by
 unfold uY iO;dsimp only;rw[if_pos (decide_eq_true (show w6 i j from ⟨h1,h2⟩))]
theorem DV:CN (.int i) (.int j)= .ok (.bl (decide (i<j))):=id rfl
theorem Bo:tt (.int i) (.int j)= .ok (.bl (decide (i≤j))):=id rfl
theorem DT:Dv (.int i) (.int j)= .ok (.bl (decide (j<i))):=id rfl
theorem DR:Fz (.int i) (.int j)= .ok (.bl (decide (j≤i))):=id rfl
theorem uU:bq [.lst l]= .ok (.int l.length):=id rfl
theorem zI:bq [.tup l]= .ok (.int l.length):=id rfl
theorem nr {d:D}(h:atI l i=some d):aH (.lst l) (.int i)= .ok d:=by unfold aH;dsimp only;rw[h]
theorem gd {d:D}(h:atI l i=some d):aH (.tup l) (.int i)= .ok d:=by unfold aH;dsimp only;rw[h]
theorem jU {α:Type}{xs:List α}{i:Int}{v:α}(h0:0≤i)(h:xs[i.toNat]?=some v):atI xs i=some v:=by
 have:=uL (j:=i.toNat) h;rwa[Int.toNat_of_nonneg h0]at this
theorem zM:Ed [.int i,.int j]= .ok (.int (min i j)):=id rfl
theorem zK:Ec [.int i,.int j]= .ok (.int (max i j)):=id rfl
end
section
variable{X:Cx}{E:XK}
noncomputable def uX (f:DS→Res D):DS→Out:=fun ρ=>(f ρ).out fun _=>.nx ρ
theorem wF {x:Str}{np cpos pos jp:Pos}{y:Str}{j:Nat}{C:Addr}(hR:mL X E)(hc:X.calm=true)(Gx:ExcC X.K X.mg x C)(hg:Gl X x)
  (he:starEach [.Constant (.str y) j jp] X.env=(false,eval (.Constant (.str y) j jp) X.env)::starEach [] X.env:=by rfl) (hdb:(x==("__debug__" :Str))=false:=by decide) :
  BT X E (.Raise (some (.Call (.Name x np) [.Constant (.str y) j jp] [] cpos)) none pos) (gq C fun _=>true):=
 yG hR hc Gx hg (bH yw dq he) (fun _=>true) (fun σ G H ρ hs hr hk=>⟨by show 1≤sizeLine;decide,rfl⟩) he rfl hdb fun σ H Q Q' hq h=>hq _ _ h
noncomputable def qv (K:W.Frag)(C:Addr)(m:List D→Res D):Sp:=fun vs H Q E=>∃p dx rest ds G,vs= .ref p::rest∧H p=some (.ins C dx [])∧Same G H∧G p=none∧RepL K G ds rest∧OkR E H (m ds)∧
 ∀ns fds,m ds= .ok (.ins C ns fds)→∀fs G' H',fs.map (·.1)=ns→RepL K G' fds (fs.map (·.2))→H' p=some (.ins C dx fs)→(∀b o,H b=some o→b≠p→H' b=some o)→Same G G'→Same G' H'→(∀b o,G' b=some o→G b=some o∨H b=none∨oG o)→G' p=none→Q .non H'
noncomputable def BP (C:Addr)(m:List D→Res D):Prop:=∀ds d,m ds= .ok d→∃ns fds,d= .ins C ns fds
theorem Ay {CX:rj}{k:Nat}{f C:Addr}{fd:FuncData}{ps:List Str}{m:List D→Res D}{x:Str}{p pos:Pos}{e:Expr}{es:List Expr}{fs:DS→Res (List D)}(M:Mk X.K C f)(F:FnOk X.prog X.w X.K X.mg X.base CX k f fd ps (qv X.K C m))(hmk:BP C m)(hr:Room (k+1) X.A)(hg:Gl X x)(hm:X.mg x=some (.ref C))(hb:Binds X.K fd ps [])(hx:cQ CX X E)
  (ha:lm X E (e::es) fs) (hpe:∀t,PA X (e::es) t→PE X (.Call (.Name x p) (e::es) [] pos) (BK C (qv X.K C m) [] E t)) :
  PD X E (.Call (.Name x p) (e::es) [] pos) (bf fs m):=by
 intro pins s σ G H ρ I hs hro ho;refine aW (hpe _ (im ha) pins s σ H (fun v H'=>∃d G',bf fs m ρ= .ok d∧Ext G H G' H'∧Rep X.K G' d v) I ?_) fun u s' hZ128=>(by obtain⟨v,H',I',r',d,G',e,x,rp⟩:=hZ128;exact⟨d,e,v,G',H',I',r',x,rp⟩);refine⟨G,ρ,hs,hro,ho.fst,fun ds e1 vs G1 H1 x1 p1 y dy hy hdy hne=>?_⟩;have kk:=ho.snd e1 x1.hh;have N:Same H1 (a9 (a9 H1 dy (.own y)) y (.ins C dy [])):=fun b o J=>by rw[ak (az J hy),ak (az J hdy)];exact J
 have fr2:∀b,(a9 (a9 H1 dy (.own y)) y (.ins C dy [])) b=none→H1 b=none:=fun b J=>N.free J;have g1y:G1 y=none:=by
  cases q:G1 y with
  |none=>rfl
  |some o=>rw[x1.gh y o q]at hy;cases hy
 refine⟨y,dy,vs,ds,G1,by rw[append_nil],aq,x1.gh.trans N,g1y,p1,kk.le N,fun ns fds em fs2 G' H' hn rl hp kp sg sh nw gp=>⟨rfl,?_⟩⟩;refine⟨.ins C ns fds,a9 G' y (.ins C dy fs2),am e1 em,x1.trans ⟨?_,?_,?_,?_⟩,rep_ins.mpr ⟨y,dy,fs2,rfl,aq,hn,rl.mono ?_⟩⟩
 ·exact fun b o J=>kp b o (N b o J) (az J hy)
 ·exact fun b o J=>by rw[ak (az (sg b o J) gp)];exact sg b o J
 ·intro b o J;by_cases L:b=y
  ·subst L;rw[aq]at J;cases J;exact hp
  ·rw[ak L]at J;exact sh b o J
 ·intro b o J;by_cases L:b=y
  ·subst L;exact .inr (.inl hy)
  ·rw[ak L]at J;exact(nw b o J).imp id (Or.imp (fr2 b) id)
 ·exact fun b o J=>by rw[ak (az J gp)];exact J
noncomputable def Fr (F:DS→Out)(g:Addr→Option D):DS→Out:=fun ρ=>match F ρ with
 |.exc c=>(match g c with|some d=>.rt d|none=>.bad)
 |o=>o
end
theorem kh:bootBuiltins "list" =some (.type "list"):=by decide +kernel
theorem rA:bootBuiltins "tuple" =some (.type "tuple"):=by decide +kernel
theorem BX:bootBuiltins "int" =some (.type "int"):=by decide +kernel
theorem zv:bootBuiltins "bool" =some (.type "bool"):=by decide +kernel
theorem DI:bootBuiltins "ValueError" =some (.type "ValueError"):=by decide +kernel
theorem xm:bootBuiltins "max" =some (.builtin "max"):=by decide +kernel
section
variable{X:Cx}{E:XK}
theorem sA {x:Str}{i:Int}{pos:Pos}(hm:∃t,X.mg x=some (.int i t))(hg:Gl X x:=by rfl)(hd:(x==("__debug__" :Str))=false:=by decide):PD X E (.Name x pos) (fun _=>.ok (.int i)):=by
 obtain⟨t,hm⟩:=hm;exact yk hg hm ⟨t,rfl⟩ hd
end
section
variable{ρ:DS}{fa fb fc:DS→Res D}{f g:DS→Res Bool}{b:Bool}{c:Addr}{F:DS→Out}{j:Nat}{d:D}{ds:List D}
theorem B6:zq f g ρ=(f ρ).bind fun b=>if b=true then g ρ else .ok false:=id rfl
theorem DW:BE f g ρ=(f ρ).bind fun b=>if b=true then .ok true else g ρ:=id rfl
theorem Cr:jJ f ρ=(f ρ).bind fun b=>.ok (!b):=id rfl
theorem zF:uX fa ρ=(fa ρ).out fun _=>.nx ρ:=id rfl
theorem Cb {fi:DS→Res (List D)}:EV fi j F ρ=(fi ρ).out fun ds=>Ae j F ds ρ:=id rfl
theorem Co {a b:Int}:qH (.int a) (.int b)= .ok (.bl (!(a==b))):=id rfl
theorem B_ {a b:Int}:pf (.int a) (.int b)= .ok (.bl (a==b)):=id rfl
theorem zE:xi fa fb ρ=(fa ρ).bind fun d=>match d with|.bl true=>fb ρ|.bl false=>.ok (.bl false)|_=>.bad:=id rfl
theorem zP:CT fa ρ=(fa ρ).bind fun d=>match d with|.bl b=>.ok (.bl (!b))|_=>.bad:=id rfl
theorem zJ {fs:DS→Res (List D)}:dM fs ρ=(fs ρ).bind fun ds=>if aM ds.length=true then .ok (.lst ds) else .bad:=id rfl
theorem zX {fs:DS→Res (List D)}:cS fs ρ=(fs ρ).bind fun ds=>if aM ds.length=true then .ok (.tup ds) else .bad:=id rfl
theorem zL {C:Addr}{m:Str}{gm:List D→Res D}:kM C m fa gm ρ=(fa ρ).bind fun o=>if lS C m o=true then gm [o] else .bad:=id rfl
theorem xE {lo hi:DS→Res (Option Int)}:zl fa lo hi ρ=(fa ρ).bind fun d=>(lo ρ).bind fun l=>(hi ρ).bind fun u=>fM l u d:=id rfl
theorem Cv {F:DS→Out}{gx:Addr→Option D}:Fr F gx ρ=match F ρ with|.exc c=>(match gx c with|some d=>.rt d|none=>.bad)|o=>o:=id rfl
theorem Cg {d:D}:EZ d .non= .ok (.bl (EJ d)):=id rfl
theorem zQ {d:D}:Eg d .non= .ok (.bl (!EJ d)):=id rfl
end
section
variable{X:Cx}{E:XK}
theorem Es {x:Str}{np cpos pos jp:Pos}{y:Str}{j:Nat}{C:Addr}(Gx:ExcC X.K X.mg x C)(hR:mL X E:=by exact wI fun _ _ _ h=>h)(hc:X.calm=true:=by rfl)(hg:Gl X x:=by rfl)
  (he:starEach [.Constant (.str y) j jp] X.env=(false,eval (.Constant (.str y) j jp) X.env)::starEach [] X.env:=by rfl) (hdb:(x==("__debug__" :Str))=false:=by decide) :
  BT X E (.Raise (some (.Call (.Name x np) [.Constant (.str y) j jp] [] cpos)) none pos) (gq C fun _=>true):=wF hR hc Gx hg he hdb
theorem El {pl:Sem Bool}{k:Nat}{f C:Addr}{fd:FuncData}{ps:List Str}{g:List D→Res D}{m:Str}{apos pos:Pos}{o:Expr}{fo:DS→Res D}(hoo:PD X E o fo)(c:Cls X.K C)(hm:Meth X.K C m f)(F:FnOk X.prog X.w X.K X.mg X.base (CXF X.prog X.w) k f fd ps (pureSp X.K g))(hr:Room k X.A)(hb:Binds X.K fd ps [])
  (hx:cQ (CXF X.prog X.w) X E:=by exact iW fun _ _ _ h=>h)
  (ht:eval (.Call (.Attribute o m apos) [] [] pos) X.env=(do
   let ov ←eval o X.env
   standAt apos.atName
   let (f,first) ←holding [ov] (getMethod ov m pl)
   callWith pos f first (backTo pos (starEach [] X.env)) (backToKw pos (keywordEach [] X.env))):=by rfl):PD X E (.Call (.Attribute o m apos) [] [] pos) (kM C m fo g):=
 ym (pl:=pl) hoo c hm F hr hb hx (yt (pl:=pl) (du hoo) c hm F hr hb .nil hx ht)
end
section
variable{X:Cx}{E:XK}{e e2:Expr}{p pos:Pos}{f f2:DS→Res D}
theorem bv (hm:X.mg "len" =none)(h:PD X E e f)(hg:Gl X "len" :=by rfl)(he:starEach [e] X.env=(false,eval e X.env)::starEach [] X.env:=by rfl):PD X E (.Call (.Name "len" p) [e] [] pos) (fun ρ=>(f ρ).bind fun a=>bq [a]):=by
 have q:=kP (X:=X) (E:=E) (p:=p) (pos:=pos) qd B0 hg hm PySem.boot_len (aa h af he) (by decide) (by decide) he rfl;have e:bf (fun ρ=>(f ρ).bind fun d=>(Res.ok []:Res (List D)).bind fun ds=>.ok (d::ds)) bq=fun ρ=>(f ρ).bind fun a=>bq [a]:=funext fun ρ=>by
  show ((f ρ).bind _).bind _=_;cases f ρ <;> rfl
 exact e ▸ q
theorem vf (hm:X.mg "list" =none)(h:PD X E e f)(hg:Gl X "list" :=by rfl)(he:starEach [e] X.env=(false,eval e X.env)::starEach [] X.env:=by rfl):PD X E (.Call (.Name "list" p) [e] [] pos) (fun ρ=>(f ρ).bind fun a=>cE [a]):=by
 have q:=lG (X:=X) (E:=E) (p:=p) (pos:=pos) ia uN hg hm kh (aa h af he) (by decide) (by decide) he rfl;have e:bf (fun ρ=>(f ρ).bind fun d=>(Res.ok []:Res (List D)).bind fun ds=>.ok (d::ds)) cE=fun ρ=>(f ρ).bind fun a=>cE [a]:=funext fun ρ=>by
  show ((f ρ).bind _).bind _=_;cases f ρ <;> rfl
 exact e ▸ q
theorem yp (hm:X.mg "tuple" =none)(h:PD X E e f)(hg:Gl X "tuple" :=by rfl)(he:starEach [e] X.env=(false,eval e X.env)::starEach [] X.env:=by rfl):PD X E (.Call (.Name "tuple" p) [e] [] pos) (fun ρ=>(f ρ).bind fun a=>oi [a]):=by
 have q:=lG (X:=X) (E:=E) (p:=p) (pos:=pos) oB xr hg hm rA (aa h af he) (by decide) (by decide) he rfl;have e:bf (fun ρ=>(f ρ).bind fun d=>(Res.ok []:Res (List D)).bind fun ds=>.ok (d::ds)) oi=fun ρ=>(f ρ).bind fun a=>oi [a]:=funext fun ρ=>by
  show ((f ρ).bind _).bind _=_;cases f ρ <;> rfl
 exact e ▸ q
theorem vg (hm:X.mg "max" =none)(h:PD X E e f)(hc:X.calm=true:=by rfl)(hg:Gl X "max" :=by rfl)(he:starEach [e] X.env=(false,eval e X.env)::starEach [] X.env:=by rfl):PD X E (.Call (.Name "max" p) [e] [] pos) (fun ρ=>(f ρ).bind fun a=>oO [a]):=by
 have q:=kP (X:=X) (E:=E) (p:=p) (pos:=pos) (vL hc) zC hg hm xm (aa h af he) (by decide) (by decide) he rfl;have e:bf (fun ρ=>(f ρ).bind fun d=>(Res.ok []:Res (List D)).bind fun ds=>.ok (d::ds)) oO=fun ρ=>(f ρ).bind fun a=>oO [a]:=funext fun ρ=>by
  show ((f ρ).bind _).bind _=_;cases f ρ <;> rfl
 exact e ▸ q
theorem yx {x:Str}{n:String}{pos:Pos}(hm:X.mg x=none)(hv:bootBuiltins x=some (.type n))(hg:Gl X x:=by rfl)(hn:x≠ "__name__" :=by decide)(hd:(x==("__debug__" :Str))=false:=by decide):PE X (.Name x pos) (tC (.ty n)):=qL hg hm hv rfl hn hd
theorem uh {x:Str}{C:Addr}{pos:Pos}(hm:X.mg x=some (.ref C))(hg:Gl X x:=by rfl)(hd:(x==("__debug__" :Str))=false:=by decide):PE X (.Name x pos) (tC (.ref C)):=vp hg hm rfl hd
theorem l5 {a c:Expr}{p pos:Pos}{fa:DS→Res D}{vc:V}(hm:X.mg "isinstance" =none)(ha:PD X E a fa)(hcl:PE X c (tC vc))(hvc:cV vc≠ .none:=by exact fun z=>nomatch z)(hg:Gl X "isinstance" :=by rfl)
  (hs1:starEach [a,c] X.env=(false,eval a X.env)::starEach [c] X.env:=by rfl) (hs2:starEach [c] X.env=(false,eval c X.env)::starEach [] X.env:=by rfl) (hpl:(backTo pos (starEach [c] X.env)).any (·.1)=false:=by rfl) :
  PD X E (.Call (.Name "isinstance" p) [a,c] [] pos) (fun ρ=>(fa ρ).bind (ee X.K (cV vc))):=C1 ha hcl hvc hg hm hs1 hs2 hpl
end
section
variable{ρ:DS}{fa fb fc:DS→Res D}{c:Addr}{l:List D}{i:Int}
noncomputable def x9:D→D→Res D→Res Bool
 |.int a,.int b,z=>if a≤b then z.bind fun c=>(match c with|.int c=>.ok (decide (b≤c))|_=>.bad) else .ok false
 |_,_,_=>.bad
theorem Ci {x y z:Int}:x9 (.int x) (.int y) (.ok (.int z))= .ok (decide (x≤y)&&decide (y≤z)):=by
 unfold x9;dsimp only;by_cases h:x≤y
 ·rw[if_pos h,decide_eq_true h];rfl
 ·rw[if_neg h,decide_eq_false h];rfl
theorem vV:ie fa fb fc tt tt ρ=(fa ρ).bind fun a=>(fb ρ).bind fun b=>x9 a b (fc ρ):=by
 unfold ie;cases fa ρ with
 |ok a=>
  cases fb ρ with
  |ok b=>
   rw[av,av,av,av];cases a with
   |int x=>
    cases b with
    |int y=>
     rw[Bo,av];unfold x9;dsimp only;by_cases h:x≤y
     ·rw[decide_eq_true h,if_pos h];dsimp only;cases fc ρ with
      |ok c=>
       rw[av,av];cases c <;> rfl
      |_=>rfl
     ·rw[decide_eq_false h,if_neg h]
    |_=>rfl
   |_=>cases b <;> rfl
  |_=>rfl
 |_=>rfl
theorem B8:EU (.int i)= .ok (some i):=id rfl
theorem zY:Dq (.tup l)= .ok l:=id rfl
theorem zR:A4 (.lst l)= .ok l:=id rfl
theorem DX:gq c (fun _=>true) ρ= .exc c:=id rfl
theorem Cq:CS (.int i)= .ok (.int (-i)):=id rfl
theorem zW {x y z:D}:(([x,y,z]:List D).length:Int)=3:=id rfl
theorem nu {x:D}{r:List D}:aH (.tup (x::r)) (.int 0)= .ok x:=gd (jU (by decide) rfl)
theorem rS {x y:D}{r:List D}:aH (.tup (x::y::r)) (.int 1)= .ok y:=gd (jU (by decide) rfl)
theorem uW {x y z:D}{r:List D}:aH (.tup (x::y::z::r)) (.int 2)= .ok z:=gd (jU (by decide) rfl)
theorem uS {x:D}{r:List D}:aH (.lst (x::r)) (.int 0)= .ok x:=nr (jU (by decide) rfl)
theorem uT {x y:D}{r:List D}:aH (.lst (x::y::r)) (.int 1)= .ok y:=nr (jU (by decide) rfl)
theorem Cj {α:Type}:aM ([]:List α).length=true:=decide_eq_true (by show 0≤100000;decide)
theorem Ck {α:Type}{a:α}:aM [a].length=true:=decide_eq_true (by show 1≤100000;decide)
theorem Cl {α:Type}{a b:α}:aM [a,b].length=true:=decide_eq_true (by show 2≤100000;decide)
theorem Cm {α:Type}{a b c:α}:aM [a,b,c].length=true:=decide_eq_true (by show 3≤100000;decide)
theorem Cn {α:Type}{a b c d:α}:aM [a,b,c,d].length=true:=decide_eq_true (by show 4≤100000;decide)
theorem Ct {x y z:D}:fM none (some 2) (.tup [x,y,z])= .ok (.tup [x,y]):=by
 unfold fM;dsimp only;rw[if_neg (by simp[HT.cF])];rfl
end
theorem eh {P:Program}{w:World}{X:Cx}:cQ (CXF P w) X oz:=by
 intro pins σ H s e s' I h;obtain⟨_,_,_,_,_,_,_,_,_,_,_,_,_,_,q⟩:=h;exact q.elim
noncomputable def D3:D→Option bw
 |.int i=>some (.inl i)
 |.str x=>some (.inr x)
 |_=>none
noncomputable def fA:List D→Option (List bw)
 | []=>some []
 |d::ds=>match D3 d,fA ds with
  |some k,some ks=>some (k::ks)
  |_,_=>none
theorem gG {K:W.Frag}{G:Hp}:∀{ds:List D} {xs:List V} {k:List bw},RepL K G ds xs→fA ds=some k→xs=k.map kV
 | [],xs,k,h,e=>by unfold fA at e;cases e;rw[h.inv0];rfl
 |d::ds,xs,k,h,e=>by
  obtain⟨v,r,rfl,h1,h2⟩:=h.inv;unfold fA at e;split at e
  ·rename_i k0 ks e1 e2;cases e;rw[gG h2 e2];unfold D3 at e1;split at e1
   ·cases e1;rw[rep_int.mp h1];rfl
   ·cases e1;rw[rep_str.mp h1];rfl
   ·cases e1
  ·cases e
noncomputable def oj:List (List bw)→List D→List bw→Option D
 |k::ks,d::ds,q=>if k=q then some d else oj ks ds q
 |_,_,_=>none
theorem ol {K:W.Frag}{G:Hp}{q:List bw}:∀{kvs:List (List bw×V)} {ds:List D},RepL K G ds (kvs.map (·.2))→(∀d,oj (kvs.map (·.1)) ds q=some d→∃v,iQ kvs q=some v∧Rep K G d v)∧(oj (kvs.map (·.1)) ds q=none→iQ kvs q=none)
 | [],ds,h=>⟨fun d e=>(by unfold oj at e;cases ds <;> cases e),fun _=>rfl⟩
 |(k,v)::r,ds,h=>by
  cases ds with
  |nil=>exact absurd h.inv0 (by simp)
  |cons d0 ds=>
   obtain⟨v',r',e',h1,h2⟩:=h.inv;rw[map_cons]at e';cases e';have ih:=ol (q:=q) h2;have ev:iQ ((k,v)::r) q=if k=q then some v else iQ r q:=by
    unfold iQ;rw[find?_cons];by_cases z:k=q
    ·rw[decide_eq_true z,if_pos z];rfl
    ·rw[decide_eq_false z,if_neg z]
   rw[map_cons];unfold oj;rw[ev];by_cases z:k=q
   ·rw[if_pos z,if_pos z];exact⟨fun d e=>⟨v,rfl,(by cases e;exact h1)⟩,fun e=>(by cases e)⟩
   ·rw[if_neg z,if_neg z];exact ih
noncomputable def kj (ks:List (List bw))(ds kd:List D):Res D:=match fA kd with
 |some k=>(match oj ks ds k with|some d=>.ok d|none=>.bad)
 |none=>.bad
noncomputable def aQ:D→D→Res D
 |.dct ks ds,.tup kd=>kj ks ds kd
 |.fdc ks ds,.tup kd=>kj ks ds kd
 |_,_=>.bad
theorem Same.rd {H H':Hp}{a:Addr}{u:HO}(s:Same H H')(h:Rd H a u):Rd H' a u:=by
 rcases h with h|⟨o,h⟩
 ·exact .inl (s _ _ h)
 ·exact .inr ⟨o,s _ _ h⟩
section
variable{X:Cx}{E:XK}
theorem cb {o i:Expr}{pos:Pos}{fo fi:DS→Res D}(hu:X.A.units+64<cLine)(ho:PD X E o fo)(hi:PD X E i fi)(hs:zn i:=by intro _ _;rfl):PD X E (.Subscript o i pos) (ae fo fi aQ):=by
 intro pins s σ G H ρ I hsm hro hok;refine aW (vn (pos:=pos) (by omega) (du ho) (du hi) hs pins s σ H (fun v H'=>∃d G',ae fo fi aQ ρ= .ok d∧Ext G H G' H'∧Rep X.K G' d v) I ?_) fun u s' hZ129=>(by obtain⟨v,H',I',r',d,G',e,x,rp⟩:=hZ129;exact⟨d,e,v,G',H',I',r',x,rp⟩);refine⟨G,ρ,hsm,hro,hok.fst,fun d1 e1 v1 G1 H1 x1 p1=>⟨G1,ρ,x1.gh,hro.mono x1.gg,(hok.snd e1 x1.hh).fst,fun d2 e2 v2 G2 H2 x2 p2=>?_⟩⟩;have L:=(hok.snd e1 x1.hh).snd e2 x2.hh;have eo:ae fo fi aQ ρ=aQ d1 d2:=by unfold ae;rw[e1,av,e2,av]
 have go:∀{ks:List (List bw)} {ds kd:List D} {a:Addr} {J:List (List bw×V)},aQ d1 d2=kj ks ds kd→v1= .ref a→Rd G1 a (.dT J)→J.map (·.1)=ks→RepL X.K G1 ds (J.map (·.2))→Rep X.K G2 (.tup kd) v2→BJ (fun _ H Q=>Q v1 H) (fun _ H Q=>Q v2 H) σ H2 (fun v H'=>∃d G',ae fo fi aQ ρ= .ok d∧Ext G H G' H'∧Rep X.K G' d v):=fun {ks ds kd a J} ed ev rd hk rl p2=>by
  rw[ed]at L;unfold kj at L;cases ek:fA kd with
  |none=>rw[ek]at L;exact L.elim
  |some k=>
  rw[ek]at L;dsimp only at L;cases eq:oj ks ds k with
  |none=>rw[eq]at L;exact L.elim
  |some d=>
  rw[rep_tup]at p2;obtain⟨b,xs,rfl,tb,rk⟩:=p2;subst hk;obtain⟨v,ev',rv⟩:=(ol (q:=k) rl).1 d eq;have hx:=gG rk ek;subst hx;refine⟨a,v,ev,.inr ⟨J,k,b,(x2.gg.trans x2.gh).rd rd,rfl,x2.gh _ _ tb.h,ev'.symm⟩,d,G2,?_,x1.trans x2,rv.mono x2.gg⟩;rw[eo,ed];unfold kj;rw[ek];dsimp only;rw[eq]
 cases d1 with
 |dct ks ds=>
  cases d2 with
  |tup kd=>
   rw[rep_dct]at p1;obtain⟨a,J,e,rd,hk,rl⟩:=p1;exact go rfl e rd hk rl p2
  |_=>exact L.elim
 |fdc ks ds=>
  cases d2 with
  |tup kd=>
   rw[rep_fdc]at p1;obtain⟨a,o,J,e,rd,hk,rl⟩:=p1;exact go rfl e (.inr ⟨o,rd⟩) hk rl p2
  |_=>exact L.elim
 |_=>exact L.elim
end
section
variable{X:Cx}{E:XK}
noncomputable def xh:D→D→Res D
 |.str a,.str b=>if aM (a.length+b.length)=true then .ok (.str (a ++ b)) else .bad
 |_,_=>.bad
theorem do_addS:DOp X E (binaryOp .Add) xh:=DOp.of ua fun G H x y dx dy hs rx ry ok=>by
 unfold xh at ok ⊢;split at ok
 ·rename_i a b;rw[rep_str]at rx ry;subst rx ry;by_cases hz:aM (a.length+b.length)=true
  ·rw[if_pos hz];exact⟨a,b,rfl,rfl,bu hz,_,G,rfl,.refl hs,rep_str.mpr rfl⟩
  ·rw[if_neg hz]at ok;exact ok.elim
 ·exact ok.elim
noncomputable def l_:D→D→Res D
 |.lst a,.lst b=>if aM (a.length+b.length)=true then .ok (.lst (a ++ b)) else .bad
 |_,_=>.bad
theorem B3:DOp X E (binaryOp .Add) l_:=DOp.of yi fun G H x y dx dy hs rx ry ok=>by
 unfold l_ at ok ⊢;split at ok
 ·rename_i a b;rw[rep_lst]at rx ry;obtain⟨p,xs,rfl,l1,r1⟩:=rx;obtain⟨q,ys,rfl,l2,r2⟩:=ry;by_cases hz:aM (a.length+b.length)=true
  ·rw[if_pos hz];refine⟨p,q,xs,ys,rfl,rfl,hs _ _ l1.h,hs _ _ l2.h,by rw[←r1.length,←r2.length];exact bu hz,fun t ht=>⟨_,_,rfl,.new hs ht _,?_⟩⟩;exact rep_lst.mpr ⟨t,_,rfl,.of aq,(r1.append r2).mono (Ext.new hs ht _).gg⟩
  ·rw[if_neg hz]at ok;exact ok.elim
 ·exact ok.elim
theorem RepL.flat {K:W.Frag}{G:Hp}{ds:List D}{vs:List V}(h:RepL K G ds vs):∀n:Nat,RepL K G (replicate n ds).flatten (replicate n vs).flatten
 |0=>.nil
 |n+1=>by rw[replicate_succ,replicate_succ,flatten_cons,flatten_cons];exact h.append (RepL.flat h n)
noncomputable def Di:D→D→Res D
 |.lst a,.int k=>if (decide (-1000000≤k)&&decide (k≤1000000)&&aM (a.length*k.toNat))=true then .ok (.lst (replicate k.toNat a).flatten) else .bad
 |_,_=>.bad
theorem B4:DOp X E (binaryOp .Mult) Di:=DOp.of CZ fun G H x y dx dy hs rx ry ok=>by
 unfold Di at ok ⊢;split at ok
 ·rename_i a k;rw[rep_lst]at rx;rw[rep_int]at ry;subst ry;obtain⟨p,xs,rfl,l1,r1⟩:=rx;by_cases hz:(decide (-1000000≤k)&&decide (k≤1000000)&&aM (a.length*k.toNat))=true
  ·rw[if_pos hz];simp only[and_eq_true,decide_eq_true_eq]at hz;refine⟨p,k,xs,rfl,rfl,hs _ _ l1.h,by omega,by omega,by rw[←r1.length];exact bu hz.2,fun t ht=>⟨_,_,rfl,.new hs ht _,?_⟩⟩;exact rep_lst.mpr ⟨t,_,rfl,.of aq,(r1.flat _).mono (Ext.new hs ht _).gg⟩
  ·rw[if_neg hz]at ok;exact ok.elim
 ·exact ok.elim
noncomputable def BD (g1 g2:D→D→Res D)(a b:D):Res D:=match g1 a b with
 |.bad=>g2 a b
 |r=>r
theorem DOp.or {f:Value→Value→Sem Value}{g1 g2:D→D→Res D}(h1:DOp X E f g1)(h2:DOp X E f g2):DOp X E f (BD g1 g2):=by
 intro w s σ G H x y dx dy v u I hs rx ry rv ru ok;unfold BD at ok ⊢;cases q:g1 dx dy with
 |bad=>
  rw[q]at ok;exact h2 w s σ G H x y dx dy v u I hs rx ry rv ru ok
 |ok d=>
  rw[q]at ok;have:=h1 w s σ G H x y dx dy v u I hs rx ry rv ru (by rw[q];exact ok);rw[q]at this;exact this
 |exc c=>
  rw[q]at ok;have:=h1 w s σ G H x y dx dy v u I hs rx ry rv ru (by rw[q];exact ok);rw[q]at this;exact this
noncomputable def aU:D→D→Res D:=BD xg (BD xh l_)
noncomputable def fF:D→D→Res D:=BD wy Di
theorem aE:DOp X E (binaryOp .Add) aU:=do_add.or (do_addS.or B3)
theorem cy:DOp X E (binaryOp .Mult) fF:=do_mul.or B4
theorem rP {i j:Int}:aU (.int i) (.int j)= .ok (.int (i+j)):=id rfl
theorem xz {a b:List D}(h:aM (a.length+b.length)=true):aU (.lst a) (.lst b)= .ok (.lst (a ++ b)):=by
 show l_ (.lst a) (.lst b)=_;exact if_pos h
end
section
variable{X:Cx}{E:XK}{tg:Expr}
end
section
variable{X:Cx}{E:XK}
end
section
variable{X:Cx}{E:XK}
end
section
variable{X:Cx}{E:XK}{pins:List (Addr×Obj)}{σ:St}{H:Hp}{s:Shared}
end
section
variable{X:Cx}{E:XK}{pins:List (Addr×Obj)}{σ:St}{H:Hp}{s:Shared}
end
section
variable{X:Cx}{CX:rj}{k:Nat}{f C:Addr}{fd:FuncData}{ps:List Str}{sp:Sp}{dvs:List V}{ds:List Value}{E:XK}
theorem Dj {pins:List (Addr×Obj)}{σ:St}{H:Hp}{s:Shared}{Q:VK}{us:List Value}{vs:List V}(F:FnOk X.prog X.w X.K X.mg X.base CX k f fd ps sp)(hr:Room k X.A)(hb:Binds X.K fd ps ds)(hd:Vals dvs ds)
  (I:Inv X pins σ H s) (hx:∀e t,CX X.stack H s E e t→X.xe e t) (r:Vals vs us) (h:sp (vs ++ dvs) H Q E):wpAny (model X.prog X.w) X.A (call (.ref f) us) (EP X pins σ Q) X.xe s:=by
 have r2:Vals (vs ++ dvs) (us ++ ds):=r.append hd;have hl:(us ++ ds).length=ps.length:=by rw[←r2.length];exact F.len _ _ _ _ h
 refine wpAny_call (codeAny_mono (F.run X.A X.stack s H ⟨us,[]⟩ (us ++ ds) (vs ++ dvs) Q E hr I.env0 (hb s us I.kIn hl) r2 h) fun r t hq=>?_);cases r with
 |error e=>exact hx e t hq
 |ok fl=>
  cases fl with
  |ret u=>exact I.after hq
  |next=>exact False.elim hq
  |brk=>exact False.elim hq
  |cont=>exact False.elim hq
end
end L2
namespace TX
open PySem PySem.Builtin PySem.Builtin.Str PySem.StrLaws
end TX
namespace L2
open PySem PySem.Spec PyProof.Rows
section
variable{X:Cx}{E:XK}
end
end L2
namespace PySem
open Sem (wp)
end PySem
namespace L2
open PySem PySem.Spec PyProof.Rows
section
variable{X:Cx}{E:XK}{e:Expr}{f:DS→Res D}{p pos:Pos}
theorem vb {g:List D→Res D}:bf (fun ρ=>(f ρ).bind fun d=>(Res.ok []:Res (List D)).bind fun ds=>.ok (d::ds)) g=fun ρ=>(f ρ).bind fun a=>g [a]:=funext fun ρ=>by
 show ((f ρ).bind _).bind _=_;cases f ρ <;> rfl
theorem Ca {a b:Str}:pf (.str a) (.str b)= .ok (.bl (a==b)):=id rfl
theorem Cp {a b:Str}:qH (.str a) (.str b)= .ok (.bl (!(a==b))):=id rfl
end
mutual
noncomputable def flat:D→Bool
 |.lst _=>false
 |.dct _ _=>false
 |.fdc _ _=>false
 |.scr _=>false
 |.tup l=>flats l
 |.ins _ _ l=>flats l
 |_=>true
noncomputable def flats:List D→Bool
 | []=>true
 |d::ds=>flat d&&flats ds
end
theorem nz:∀(ns:List Int),flats (ns.map D.int)=true
 | []=>by unfold flats;rfl
 |n::ns=>by rw[map_cons];unfold flats;rw[nz ns];unfold flat;rfl
noncomputable def isCell (S:Addr→Prop)(o:HO):Prop:=(∃xs,o= .lst xs)∨(∃kvs,o= .dT kvs)∨∃xs b,o= .tup xs∧V.ref b∈xs∧S b
theorem isCell.mono {S T:Addr→Prop}{o:HO}(k:∀a,S a→T a)(h:isCell S o):isCell T o:=h.imp id (Or.imp id fun hZ130=>(by obtain⟨xs,b,e,m,s⟩:=hZ130;exact⟨xs,b,e,m,k b s⟩))
theorem isCell.nokey {S:Addr→Prop}{o:HO}(h:isCell S o):¬oG o:=by
 intro hZ11;obtain⟨ks,rfl⟩:=hZ11
 rcases h with ⟨xs,e⟩|⟨kvs,e⟩|⟨xs,b,e,m,s⟩
 ·cases e
 ·cases e
 ·cases e;obtain⟨k,_,e⟩:=mem_map.mp m;cases k with
  |inl i=>cases e
  |inr x=>cases e
noncomputable def lQ (W:Addr→Prop)(G:Hp):Hp:=fun b=> @ite _ (W b) (Classical.propDecidable _) none (G b)
theorem i8 {W:Addr→Prop}{G:Hp}{b:Addr}{o:HO}(h:lQ W G b=some o):¬W b∧G b=some o:=by
 unfold lQ at h;by_cases q:W b
 ·rw[if_pos q]at h;cases h
 ·rw[if_neg q]at h;exact⟨q,h⟩
theorem qr {W:Addr→Prop}{G:Hp}{b:Addr}{o:HO}(h1:¬W b)(h2:G b=some o):lQ W G b=some o:=by
 unfold lQ;rw[if_neg h1];exact h2
theorem Cz {W:Addr→Prop}{G:Hp}{b:Addr}(h1:W b):lQ W G b=none:=by
 unfold lQ;rw[if_pos h1]
mutual
theorem Rep.nocell {K:W.Frag}{G:Hp}{W:Addr→Prop}(hl:∀b o,W b→G b=some o→isCell W o):∀{d:D} {v:V},L2.flat d=true→Rep K G d v→∀a,v= .ref a→¬W a
 |.non,_,_,h,a,e=>by unfold Rep at h;subst h;cases e
 |.bl _,_,_,h,a,e=>by unfold Rep at h;subst h;cases e
 |.int _,_,_,h,a,e=>by unfold Rep at h;subst h;cases e
 |.str _,_,_,h,a,e=>by unfold Rep at h;subst h;cases e
 |.lst ds,_,ha,_,_,_=>by unfold L2.flat at ha;cases ha
 |.dct _ _,_,ha,_,_,_=>by unfold L2.flat at ha;cases ha
 |.fdc _ _,_,ha,_,_,_=>by unfold L2.flat at ha;cases ha
 |.scr _,_,ha,_,_,_=>by unfold L2.flat at ha;cases ha
 |.tup ds,_,ha,h,a,e=>fun w=>by
  unfold Rep at h;unfold L2.flat at ha;obtain⟨a',ys,r,s,t⟩:=h;subst r;cases e
  rcases hl a _ w s.h with ⟨vs,z⟩|⟨vs,z⟩|⟨vs,b,z,m,wb⟩
  ·cases z
  ·cases z
  ·cases z;exact RepL.nocell hl ha t (.ref b) m b rfl wb
 |.ins _ _ ds,_,ha,h,a,e=>fun w=>by
  unfold Rep at h;obtain⟨a',dx,fs,r,s,n,t⟩:=h;subst r;cases e
  rcases hl a _ w s with ⟨vs,z⟩|⟨vs,z⟩|⟨vs,b,z,m,wb⟩ <;> cases z
 |.xc _,_,_,h,a,e=>fun w=>by
  unfold Rep at h;obtain⟨a',r,s,_⟩:=h;subst r;cases e
  rcases hl a _ w s with ⟨vs,z⟩|⟨vs,z⟩|⟨vs,b,z,m,wb⟩ <;> cases z
theorem RepL.nocell {K:W.Frag}{G:Hp}{W:Addr→Prop}(hl:∀b o,W b→G b=some o→isCell W o):∀{ds:List D} {vs:List V},flats ds=true→RepL K G ds vs→∀v∈vs,∀a,v= .ref a→¬W a
 | [],_,_,h,v,m=>by unfold RepL at h;subst h;cases m
 |_::_,_,ha,h,v,m=>by
  unfold RepL at h;unfold flats at ha;rw[and_eq_true]at ha;obtain⟨w,r,q,a,b⟩:=h;subst q
  rcases mem_cons.mp m with z|z
  ·subst z;exact Rep.nocell hl ha.1 a
  ·exact RepL.nocell hl ha.2 b v z
end
mutual
theorem Rep.lfree {K:W.Frag}{G:Hp}{W:Addr→Prop}(hl:∀b o,W b→G b=some o→isCell W o):∀{d:D} {v:V},L2.flat d=true→Rep K G d v→Rep K (lQ W G) d v
 |.non,_,_,h=>by unfold Rep at h ⊢;exact h
 |.bl _,_,_,h=>by unfold Rep at h ⊢;exact h
 |.int _,_,_,h=>by unfold Rep at h ⊢;exact h
 |.str _,_,_,h=>by unfold Rep at h ⊢;exact h
 |.lst ds,_,ha,h=>by unfold L2.flat at ha;cases ha
 |.dct _ _,_,ha,h=>by unfold L2.flat at ha;cases ha
 |.fdc _ _,_,ha,h=>by unfold L2.flat at ha;cases ha
 |.scr _,_,ha,h=>by unfold L2.flat at ha;cases ha
 |.tup ds,v,ha,h=>by
  have nc:=Rep.nocell hl ha h;unfold Rep at h ⊢;unfold L2.flat at ha;obtain⟨a,ys,r,s,t⟩:=h;exact⟨a,ys,r,⟨qr (nc a r) s.h⟩,RepL.lfree hl ha t⟩
 |.ins _ _ ds,v,ha,h=>by
  have nc:=Rep.nocell hl ha h;unfold Rep at h ⊢;unfold L2.flat at ha;obtain⟨a,dx,fs,r,s,n,t⟩:=h;exact⟨a,dx,fs,r,qr (nc a r) s,n,RepL.lfree hl ha t⟩
 |.xc _,v,ha,h=>by
  have nc:=Rep.nocell hl ha h;unfold Rep at h ⊢;obtain⟨a,r,s,k⟩:=h;exact⟨a,r,qr (nc a r) s,k⟩
theorem RepL.lfree {K:W.Frag}{G:Hp}{W:Addr→Prop}(hl:∀b o,W b→G b=some o→isCell W o):∀{ds:List D} {vs:List V},flats ds=true→RepL K G ds vs→RepL K (lQ W G) ds vs
 | [],_,_,h=>by unfold RepL at h ⊢;exact h
 |_::_,_,ha,h=>by
  unfold RepL at h ⊢;unfold flats at ha;rw[and_eq_true]at ha;obtain⟨v,r,q,a,b⟩:=h;exact⟨v,r,q,Rep.lfree hl ha.1 a,RepL.lfree hl ha.2 b⟩
end
noncomputable def AllW (P:D→V→List Addr→Prop):List D→List V→List Addr→Prop
 | [],vs,S=>vs=[]∧S=[]
 |d::ds,vs,S=>∃v r A B,vs=v::r∧S=A ++ B∧P d v A∧AllW P ds r B
noncomputable def Ow (K:W.Frag)(G H:Hp):Nat→D→V→List Addr→Prop
 |0,d,v,S=>S=[]∧Rep K G d v
 |n+1,.lst ds,v,S=>∃a xs T,v= .ref a∧H a=some (.lst xs)∧S=a::T∧AllW (Ow K G H n) ds xs T
 |n+1,.dct ks ds,v,S=>∃a kvs T,v= .ref a∧H a=some (.dT kvs)∧kvs.map (·.1)=ks∧S=a::T∧AllW (Ow K G H n) ds (kvs.map (·.2)) T
 |n+1,.tup ds,v,S=>(L2.flat (.tup ds)=true∧S=[]∧Rep K G (.tup ds) v)∨∃a xs T,v= .ref a∧H a=some (.tup xs)∧S=a::T∧T≠[]∧AllW (Ow K G H n) ds xs T
 |_+1,d,v,S=>L2.flat d=true∧S=[]∧Rep K G d v
noncomputable def bU:Nat→D→Bool
 |0,d=>L2.flat d
 |n+1,.lst ds=>ds.all (bU n)
 |n+1,.dct _ ds=>ds.all (bU n)
 |n+1,.tup ds=>L2.flat (.tup ds)||ds.all (bU n)
 |_+1,d=>L2.flat d
theorem jw:∀{ds:List D},flats ds=true→∀{d:D},d∈ds→L2.flat d=true
 | [],_,_,m=>by cases m
 |d0::ds,h,d,m=>by
  unfold flats at h;rw[and_eq_true]at h
  rcases mem_cons.mp m with z|z
  ·subst z;exact h.1
  ·exact jw h.2 z
theorem lD {d:D}(h:L2.flat d=true):∀{n:Nat},bU n d=true
 |0=>h
 |n+1=>by
  cases d with
  |lst ds=>unfold L2.flat at h;cases h
  |dct ks ds=>unfold L2.flat at h;cases h
  |tup ds=>unfold bU;rw[h];rfl
  |_=>unfold bU;exact h
section
variable{K:W.Frag}{G H G' H':Hp}
theorem AllW.mono {P Q:D→V→List Addr→Prop}:∀{ds:List D} {vs:List V} {S:List Addr},(∀d v A,d∈ds→(∀a∈A,a∈S)→P d v A→Q d v A)→AllW P ds vs S→AllW Q ds vs S
 | [],_,_,_,h=>h
 |d::ds,_,_,k,h=>by
  obtain⟨v,r,A,B,e1,e2,h1,h2⟩:=h;subst e2;exact⟨v,r,A,B,e1,rfl,k d v A (mem_cons_self ..) (fun a ha=>mem_append_left _ ha) h1,AllW.mono (fun d' v' A' hd ha=>k d' v' A' (eB hd) fun a h=>mem_append_right _ (ha a h)) h2⟩
theorem AllW.length {P:D→V→List Addr→Prop}:∀{ds:List D} {vs:List V} {S:List Addr},AllW P ds vs S→ds.length=vs.length
 | [],_,_,h=>by rw[h.1];rfl
 |d::ds,_,_,h=>by
  obtain⟨v,r,A,B,e1,e2,h1,h2⟩:=h;subst e1;rw[length_cons,length_cons,AllW.length h2]
theorem AllW.append {P:D→V→List Addr→Prop}:∀{ds es:List D} {vs ws:List V} {S T:List Addr},AllW P ds vs S→AllW P es ws T→AllW P (ds ++ es) (vs ++ ws) (S ++ T)
 | [],_,_,_,_,_,h,h'=>by rw[h.1,h.2];exact h'
 |d::ds,_,_,_,_,_,h,h'=>by
  obtain⟨v,r,A,B,e1,e2,h1,h2⟩:=h;subst e1 e2;exact⟨v,_,A,_,rfl,append_assoc ..,h1,AllW.append h2 h'⟩
theorem AllW.one {P:D→V→List Addr→Prop}{d:D}{v:V}{S:List Addr}(h:P d v S):AllW P [d] [v] S:=⟨v,[],S,[],rfl,(append_nil _).symm,h,rfl,rfl⟩
theorem AllW.at {P:D→V→List Addr→Prop}:∀{ds:List D} {vs:List V} {S:List Addr} {i:Nat} {d:D},AllW P ds vs S→ds[i]?=some d→
  ∃v A L R,vs[i]?=some v∧S=L ++ A ++ R∧P d v A∧(∀Q:D→V→List Addr→Prop,(∀d v B,(∀b∈B,b∈L∨b∈R)→P d v B→Q d v B)→∀d' v' A',Q d' v' A'→AllW Q (ds.set i d') (vs.set i v') (L ++ A' ++ R))
 | [],_,_,_,_,_,e=>by simp at e
 |d0::ds,_,_,0,d,h,e=>by
  obtain⟨v,r,A,B,e1,e2,h1,h2⟩:=h;subst e1 e2;simp at e;subst e;refine⟨v,A,[],B,rfl,by simp,h1,fun Q k d' v' A' hq=>⟨v',r,A',B,rfl,by simp,hq,AllW.mono (fun d v B' _ hb hp=>k d v B' (fun b hb'=>.inr (hb b hb')) hp) h2⟩⟩
 |d0::ds,_,_,i+1,d,h,e=>by
  obtain⟨v,r,A,B,e1,e2,h1,h2⟩:=h;subst e1 e2;obtain⟨w,A2,L,R,g1,g2,g3,g4⟩:=AllW.at (i:=i) h2 (by simpa using e);refine⟨w,A2,A ++ L,R,by simpa using g1,by rw[g2];simp only[append_assoc],g3,fun Q k d' v' A' hq=>⟨v,r.set i v',A,L ++ A' ++ R,rfl,by simp only[append_assoc],k d0 v A (fun b hb=>.inl (mem_append_left _ hb)) h1,g4 Q (fun d v B hb hp=>k d v B (fun b hb'=>(hb b hb').imp (mem_append_right _) id) hp) d' v' A' hq⟩⟩
theorem Ow.mono (sg:Same G G'):∀{n:Nat} {d:D} {v:V} {S:List Addr},(∀a∈S,∀o,H a=some o→H' a=some o)→Ow K G H n d v S→Ow K G' H' n d v S
 |0,_,_,_,_,h=>⟨h.1,h.2.mono sg⟩
 |n+1,d,_,_,k,h=>by
  cases d with
  |lst ds=>
   obtain⟨a,xs,T,e1,e2,e3,h1⟩:=h;subst e3;exact⟨a,xs,T,e1,k a (mem_cons_self ..) _ e2,rfl,h1.mono fun d v A _ hA=>Ow.mono sg fun b hb o e=>k b (eB (hA b hb)) o e⟩
  |dct ks ds=>
   obtain⟨a,xs,T,e1,e2,e4,e3,h1⟩:=h;subst e3;exact⟨a,xs,T,e1,k a (mem_cons_self ..) _ e2,e4,rfl,h1.mono fun d v A _ hA=>Ow.mono sg fun b hb o e=>k b (eB (hA b hb)) o e⟩
  |tup ds=>
   rcases h with h|⟨a,xs,T,e1,e2,e3,e5,h1⟩
   ·exact .inl ⟨h.1,h.2.1,h.2.2.mono sg⟩
   ·subst e3;exact .inr ⟨a,xs,T,e1,k a (mem_cons_self ..) _ e2,rfl,e5,h1.mono fun d v A _ hA=>Ow.mono sg fun b hb o e=>k b (eB (hA b hb)) o e⟩
  |_=>exact⟨h.1,h.2.1,h.2.2.mono sg⟩
theorem AllW.rep {P:D→V→List Addr→Prop}{V':Hp}:∀{ds:List D} {vs:List V} {S:List Addr},(∀d v A,(∀a∈A,a∈S)→P d v A→Rep K V' d v)→AllW P ds vs S→RepL K V' ds vs
 | [],_,_,_,h=>by rw[h.1];exact .nil
 |d::ds,_,_,k,h=>by
  obtain⟨v,r,A,B,e1,e2,h1,h2⟩:=h;subst e1 e2;exact .cons (k d v A (fun a ha=>mem_append_left _ ha) h1) (AllW.rep (fun d' v' A' ha=>k d' v' A' fun a h=>mem_append_right _ (ha a h)) h2)
theorem Ow.rep {V':Hp}(sg:Same G V'):∀{n:Nat} {d:D} {v:V} {S:List Addr},(∀a∈S,∀o,H a=some o→V' a=some o)→Ow K G H n d v S→Rep K V' d v
 |0,_,_,_,_,h=>h.2.mono sg
 |n+1,d,_,_,k,h=>by
  cases d with
  |lst ds=>
   obtain⟨a,xs,T,e1,e2,e3,h1⟩:=h;subst e3;exact rep_lst.mpr ⟨a,xs,e1,.of (k a (mem_cons_self ..) _ e2),h1.rep fun d v A hA=>Ow.rep sg fun b hb o e=>k b (eB (hA b hb)) o e⟩
  |dct ks ds=>
   obtain⟨a,xs,T,e1,e2,e4,e3,h1⟩:=h;subst e3;exact rep_dct.mpr ⟨a,xs,e1,.inl (k a (mem_cons_self ..) _ e2),e4,h1.rep fun d v A hA=>Ow.rep sg fun b hb o e=>k b (eB (hA b hb)) o e⟩
  |tup ds=>
   rcases h with h|⟨a,xs,T,e1,e2,e3,e5,h1⟩
   ·exact h.2.2.mono sg
   ·subst e3;exact rep_tup.mpr ⟨a,xs,e1,.of (k a (mem_cons_self ..) _ e2),h1.rep fun d v A hA=>Ow.rep sg fun b hb o e=>k b (eB (hA b hb)) o e⟩
  |_=>exact h.2.2.mono sg
theorem AllW.cell {P:D→V→List Addr→Prop}{C:Addr→Prop}:∀{ds:List D} {vs:List V} {S:List Addr},(∀d v A,P d v A→∀a∈A,C a)→AllW P ds vs S→∀a∈S,C a
 | [],_,_,_,h,a,ha=>by rw[h.2]at ha;cases ha
 |d::ds,_,_,k,h,a,ha=>by
  obtain⟨v,r,A,B,e1,e2,h1,h2⟩:=h;subst e2
  rcases mem_append.mp ha with z|z
  ·exact k d v A h1 a z
  ·exact AllW.cell k h2 a z
theorem AllW.hasC {P:D→V→List Addr→Prop}(hP:∀d v A,P d v A→A≠[]→∃b,v= .ref b∧b∈A):∀{ds:List D} {vs:List V} {S:List Addr},AllW P ds vs S→S≠[]→∃b,V.ref b∈vs∧b∈S
 | [],_,_,h,n=>absurd h.2 n
 |d::ds,_,_,h,n=>by
  obtain⟨v,r,A,B,e1,e2,h1,h2⟩:=h;subst e1 e2;by_cases z:A=[]
  ·obtain⟨b,hb,hb'⟩:=AllW.hasC hP h2 (fun y=>n (by rw[z,y];rfl));exact⟨b,eB hb,mem_append_right _ hb'⟩
  ·obtain⟨b,e,hb⟩:=hP d v A h1 z;exact⟨b,by rw[e];exact mem_cons_self ..,mem_append_left _ hb⟩
theorem Ow.head:∀{n:Nat} {d:D} {v:V} {S:List Addr},Ow K G H n d v S→S≠[]→∃b,v= .ref b∧b∈S
 |0,_,_,_,h,n=>absurd h.1 n
 |n+1,d,_,_,h,hn=>by
  cases d with
  |lst ds=>obtain⟨a,xs,T,e1,e2,e3,h1⟩:=h;exact⟨a,e1,by rw[e3];exact mem_cons_self ..⟩
  |dct ks ds=>obtain⟨a,xs,T,e1,e2,e4,e3,h1⟩:=h;exact⟨a,e1,by rw[e3];exact mem_cons_self ..⟩
  |tup ds=>
   rcases h with h|⟨a,xs,T,e1,e2,e3,e5,h1⟩
   ·exact absurd h.2.1 hn
   ·exact⟨a,e1,by rw[e3];exact mem_cons_self ..⟩
  |_=>exact absurd h.2.1 hn
theorem AllW.cell2 {P:D→V→List Addr→Prop}{C:(Addr→Prop)→Addr→Prop}(mo:∀S T a,(∀b,S b→T b)→C S a→C T a):∀{ds:List D} {vs:List V} {S:List Addr},(∀d v A,P d v A→∀a∈A,C (· ∈A) a)→AllW P ds vs S→∀a∈S,C (· ∈S) a
 | [],_,_,_,h,a,ha=>by rw[h.2]at ha;cases ha
 |d::ds,_,_,k,h,a,ha=>by
  obtain⟨v,r,A,B,e1,e2,h1,h2⟩:=h;subst e2
  rcases mem_append.mp ha with z|z
  ·exact mo _ _ a (fun b hb=>mem_append_left _ hb) (k d v A h1 a z)
  ·exact mo _ _ a (fun b hb=>mem_append_right _ hb) (AllW.cell2 mo k h2 a z)
theorem Ow.cell:∀{n:Nat} {d:D} {v:V} {S:List Addr},Ow K G H n d v S→∀a∈S,∃o,H a=some o∧isCell (· ∈S) o
 |0,_,_,_,h,a,ha=>by rw[h.1]at ha;cases ha
 |n+1,d,_,_,h,b,hb=>by
  have mo:∀(S T:Addr→Prop) (a:Addr),(∀b,S b→T b)→(∃o,H a=some o∧isCell S o)→∃o,H a=some o∧isCell T o:=fun S T a k hZ131=>(by obtain⟨o,e,c⟩:=hZ131;exact⟨o,e,c.mono k⟩);have up:∀{x:Addr} {T:List Addr},(∃o,H b=some o∧isCell (· ∈T) o)→∃o,H b=some o∧isCell (· ∈x::T) o:=fun hZ132=>(by obtain⟨o,e,c⟩:=hZ132;exact⟨o,e,c.mono fun a ha=>eB ha⟩);cases d with
  |lst ds=>
   obtain⟨a,xs,T,e1,e2,e3,h1⟩:=h;subst e3
   rcases mem_cons.mp hb with z|z
   ·subst z;exact⟨_,e2,.inl ⟨xs,rfl⟩⟩
   ·exact up (h1.cell2 (C:=fun S a=>∃o,H a=some o∧isCell S o) mo (fun _ _ _ q=>Ow.cell q) b z)
  |dct ks ds=>
   obtain⟨a,xs,T,e1,e2,e4,e3,h1⟩:=h;subst e3
   rcases mem_cons.mp hb with z|z
   ·subst z;exact⟨_,e2,.inr (.inl ⟨xs,rfl⟩)⟩
   ·exact up (h1.cell2 (C:=fun S a=>∃o,H a=some o∧isCell S o) mo (fun _ _ _ q=>Ow.cell q) b z)
  |tup ds=>
   rcases h with h|⟨a,xs,T,e1,e2,e3,e5,h1⟩
   ·rw[h.2.1]at hb;cases hb
   ·subst e3
    rcases mem_cons.mp hb with z|z
    ·subst z;obtain⟨c,hc,hc'⟩:=h1.hasC (fun _ _ _ q=>Ow.head q) e5;exact⟨_,e2,.inr (.inr ⟨xs,c,rfl,hc,eB hc'⟩)⟩
    ·exact up (h1.cell2 (C:=fun S a=>∃o,H a=some o∧isCell S o) mo (fun _ _ _ q=>Ow.cell q) b z)
  |_=>rw[h.2.1]at hb;cases hb
theorem Ow.hide {W:Addr→Prop}(hl:∀b o,W b→G b=some o→isCell W o):∀{n:Nat} {d:D} {v:V} {S:List Addr},bU n d=true→Ow K G H n d v S→Ow K (lQ W G) H n d v S
 |0,_,_,_,hf,h=>⟨h.1,Rep.lfree hl hf h.2⟩
 |n+1,d,_,_,hf,h=>by
  cases d with
  |lst ds=>
   obtain⟨a,xs,T,e1,e2,e3,h1⟩:=h;unfold bU at hf;exact⟨a,xs,T,e1,e2,e3,h1.mono fun d v A hd _=>Ow.hide hl (all_eq_true.mp hf d hd)⟩
  |dct ks ds=>
   obtain⟨a,xs,T,e1,e2,e4,e3,h1⟩:=h;unfold bU at hf;exact⟨a,xs,T,e1,e2,e4,e3,h1.mono fun d v A hd _=>Ow.hide hl (all_eq_true.mp hf d hd)⟩
  |tup ds=>
   rcases h with h|⟨a,xs,T,e1,e2,e3,e5,h1⟩
   ·exact .inl ⟨h.1,h.2.1,Rep.lfree hl h.1 h.2.2⟩
   ·refine .inr ⟨a,xs,T,e1,e2,e3,e5,h1.mono fun d v A hd _=>Ow.hide hl ?_⟩;unfold bU at hf;rw[or_eq_true]at hf
    rcases hf with z|z
    ·unfold L2.flat at z;exact lD (jw z hd)
    ·exact all_eq_true.mp z d hd
  |_=>exact⟨h.1,h.2.1,Rep.lfree hl h.1 h.2.2⟩
end
noncomputable def oq (fp:Nat→List Addr)(a:Addr):Prop:=∃i,a∈fp i
noncomputable def mJ (fp:Nat→List Addr)(G H:Hp):Hp:=fun b=> @ite _ (oq fp b) (Classical.propDecidable _) (H b) (G b)
structure Rw (K:W.Frag)(μ:List Nat)(Ge B G H:Hp)(σ:St)(ρ:DS)(fp:Nat→List Addr):Prop where
 gh:Same G H
 eg:Same Ge G
 bh:Same B H
 nw:∀b o,G b=some o→Ge b=some o∨B b=none∨oG o
 gf:∀i a,a∈fp i→G a=none
 ob:∀i a,a∈fp i→B a=none
 oc:∀i a,a∈fp i→∃o,H a=some o∧isCell (· ∈fp i) o
 nd:∀i,(fp i).Nodup
 dj:∀i j a,a∈fp i→a∈fp j→i=j
 sl:∀i d,ρ[i]?=some (some d)→∃v,σ[i]?=some (some v)∧Ow K G H (μ.getD i 0) d v (fp i)
section
variable{K:W.Frag}{μ:List Nat}{Ge B G H G' H':Hp}{σ:St}{ρ:DS}{fp:Nat→List Addr}
theorem zf {b:Addr}(h:oq fp b):mJ fp G H b=H b:=by unfold mJ;rw[if_pos h]
theorem mK {b:Addr}(h:¬oq fp b):mJ fp G H b=G b:=by unfold mJ;rw[if_neg h]
theorem Rw.vh (R:Rw K μ Ge B G H σ ρ fp):Same (mJ fp G H) H:=fun b o e=>by
 by_cases q:oq fp b
 ·rw[zf q]at e;exact e
 ·rw[mK q]at e;exact R.gh b o e
theorem Rw.gv (R:Rw K μ Ge B G H σ ρ fp):Same G (mJ fp G H):=fun b o e=>by
 by_cases q:oq fp b
 ·obtain⟨i,hi⟩:=q;rw[R.gf i b hi]at e;cases e
 ·rw[mK q];exact e
theorem Rw.ro (R:Rw K μ Ge B G H σ ρ fp):Ro K (mJ fp G H) σ ρ:=fun i d e=>by
 obtain⟨v,hv,h⟩:=R.sl i d e;exact⟨v,hv,h.rep R.gv fun a ha o eo=>by rw[zf ⟨i,ha⟩];exact eo⟩
noncomputable def iM (μ:List Nat)(ρ:DS):DS:=ρ.mapIdx fun i o=>if μ.getD i 0=0 then o else none
theorem Rw.rof (R:Rw K μ Ge B G H σ ρ fp):Ro K G σ (iM μ ρ):=fun i d e=>by
 unfold iM at e;rw[List.getElem?_mapIdx]at e;cases q:ρ[i]? with
 |none=>rw[q]at e;cases e
 |some o=>
  rw[q]at e;simp only[map_some,Option.some.injEq]at e;by_cases m:μ.getD i 0=0
  ·rw[if_pos m]at e;subst e;obtain⟨v,hv,h⟩:=R.sl i d q;rw[m]at h;exact⟨v,hv,h.2⟩
  ·rw[if_neg m]at e;cases e
theorem Rw.gg (R:Rw K μ Ge B G H σ ρ fp)(x:Ext (mJ fp G H) H G' H'):Same G (lQ (oq fp) G'):=fun b o e=>by
 by_cases q:oq fp b
 ·obtain⟨i,hi⟩:=q;rw[R.gf i b hi]at e;cases e
 ·exact qr q (x.gg b o (R.gv b o e))
theorem Rw.grow (R:Rw K μ Ge B G H σ ρ fp)(x:Ext (mJ fp G H) H G' H'):Rw K μ Ge B (lQ (oq fp) G') H' σ ρ fp:=by
 refine⟨fun b o e=>x.gh b o (i8 e).2,R.eg.trans (R.gg x),R.bh.trans x.hh,fun b o e=>?_,fun i a e=>Cz ⟨i,e⟩,R.ob,fun i a e=>?_,R.nd,R.dj,fun i d e=>?_⟩
 ·obtain⟨n,e1⟩:=i8 e
  rcases x.nw b o e1 with z|z
  ·rw[mK n]at z;exact R.nw b o z
  ·exact .inr (z.imp R.bh.free id)
 ·obtain⟨o,h1,h2⟩:=R.oc i a e;exact⟨o,x.hh _ _ h1,h2⟩
 ·obtain⟨v,hv,h⟩:=R.sl i d e;exact⟨v,hv,h.mono (R.gg x) fun a _ o ho=>x.hh a o ho⟩
theorem Rw.growF (R:Rw K μ Ge B G H σ ρ fp)(x:Ext G H G' H'):Rw K μ Ge B G' H' σ ρ fp:=by
 refine⟨x.gh,R.eg.trans x.gg,R.bh.trans x.hh,fun b o e=>?_,fun i a e=>?_,R.ob,fun i a e=>?_,R.nd,R.dj,fun i d e=>?_⟩
 ·rcases x.nw b o e with z|z
  ·exact R.nw b o z
  ·exact .inr (z.imp R.bh.free id)
 ·cases z:G' a with
  |none=>rfl
  |some o=>
   rcases x.nw a o z with y|y
   ·rw[R.gf i a e]at y;cases y
   ·obtain⟨o',h,hc⟩:=R.oc i a e
    rcases y with y|y
    ·rw[y]at h;cases h
    ·have h2:=x.gh a o z;rw[x.hh a _ h]at h2;cases h2;exact(hc.nokey y).elim
 ·obtain⟨o,h1,h2⟩:=R.oc i a e;exact⟨o,x.hh _ _ h1,h2⟩
 ·obtain⟨v,hv,h⟩:=R.sl i d e;exact⟨v,hv,h.mono x.gg fun a _ o ho=>x.hh a o ho⟩
theorem Rw.cells (R:Rw K μ Ge B G H σ ρ fp)(x:Ext (mJ fp G H) H G' H'):∀b o,oq fp b→G' b=some o→isCell (oq fp) o:=fun b o ⟨i,hi⟩ e=>by
 obtain⟨o',h1,h2⟩:=R.oc i b hi;have h3:=x.gh b o e;rw[x.hh b _ h1]at h3;cases h3;exact h2.mono fun a ha=>⟨i,ha⟩
theorem Rw.put {i:Nat}{d:D}{v:V}{S:List Addr}(R:Rw K μ Ge B G H σ ρ fp)(hi:i<σ.length)(h:Ow K G H (μ.getD i 0) d v S)(nd:S.Nodup)(hS:∀a∈S,G a=none∧B a=none)(hd:∀j,j≠i→∀a∈S,a∉fp j):Rw K μ Ge B G H (σ.set i (some v)) (ρ.set i (some d)) (fun j=>if j=i then S else fp j):=by
 refine⟨R.gh,R.eg,R.bh,R.nw,fun j a e=>?_,fun j a e=>?_,fun j a e=>?_,fun j=>?_,fun j k a ej ek=>?_,fun j e q=>?_⟩
 ·split at e
  ·exact(hS a e).1
  ·exact R.gf j a e
 ·split at e
  ·exact(hS a e).2
  ·exact R.ob j a e
 ·by_cases hj:j=i
  ·simp only[if_pos hj]at e ⊢;exact h.cell a e
  ·simp only[if_neg hj]at e ⊢;exact R.oc j a e
 ·split
  ·exact nd
  ·exact R.nd j
 ·skip
  split at ej
  ·rename_i z1;split at ek
   ·rename_i z2;rw[z1,z2]
   ·rename_i z2;exact absurd ek (hd k z2 a ej)
  ·rename_i z1;split at ek
   ·rename_i z2;exact absurd ej (hd j z1 a ek)
   ·exact R.dj j k a ej ek
 ·by_cases hj:j=i
  ·subst hj;rw[List.getElem?_set_self']at q;cases z:ρ[j]? with
   |none=>rw[z]at q;cases q
   |some o=>
    rw[z]at q;cases q;rw[if_pos rfl];exact⟨v,getElem?_set_self hi,h⟩
  ·rw[getElem?_set_ne (Ne.symm hj)]at q ⊢;rw[if_neg hj];exact R.sl j e q
theorem Rw.drop {i:Nat}(R:Rw K μ Ge B G H σ ρ fp):Rw K μ Ge B G H σ (ρ.set i none) (fun j=>if j=i then [] else fp j):=by
 refine⟨R.gh,R.eg,R.bh,R.nw,fun j a e=>?_,fun j a e=>?_,fun j a e=>?_,fun j=>?_,fun j k a ej ek=>?_,fun j e q=>?_⟩
 ·split at e
  ·cases e
  ·exact R.gf j a e
 ·split at e
  ·cases e
  ·exact R.ob j a e
 ·by_cases hj:j=i
  ·simp only[if_pos hj]at e;cases e
  ·simp only[if_neg hj]at e ⊢;exact R.oc j a e
 ·split
  ·exact nodup_nil
  ·exact R.nd j
 ·skip
  split at ej
  ·cases ej
  ·split at ek
   ·cases ek
   ·exact R.dj j k a ej ek
 ·by_cases hj:j=i
  ·subst hj;rw[List.getElem?_set_self']at q;cases z:ρ[j]? with
   |none=>rw[z]at q;cases q
   |some o=>rw[z]at q;cases q
  ·rw[getElem?_set_ne (Ne.symm hj)]at q;rw[if_neg hj];exact R.sl j e q
theorem Rw.write {i:Nat}{a:Addr}{ob:HO}{d:D}{v:V}{S:List Addr}(R:Rw K μ Ge B G H σ ρ fp)(ha:a∈fp i)(hv:σ[i]?=some (some v))(h:Ow K G (a9 H a ob) (μ.getD i 0) d v S)(nd:S.Nodup)(hS:∀b∈S,G b=none∧B b=none)(hd:∀j,j≠i→∀b∈S,b∉fp j):Rw K μ Ge B G (a9 H a ob) σ (ρ.set i (some d)) (fun j=>if j=i then S else fp j):=by
 have nG:∀{b:Addr} {o:HO},G b=some o→b≠a:=fun e z=>by rw[z,R.gf i a ha]at e;cases e
 have nB:∀{b:Addr} {o:HO},B b=some o→b≠a:=fun e z=>by rw[z,R.ob i a ha]at e;cases e
 have nj:∀{j:Nat} {b:Addr},j≠i→b∈fp j→b≠a:=fun L hb z=>by subst z;exact L (R.dj _ i _ hb ha)
 refine⟨fun b o e=>by rw[ak (nG e)];exact R.gh b o e,R.eg,fun b o e=>by rw[ak (nB e)];exact R.bh b o e,R.nw,fun j b e=>?_,fun j b e=>?_,fun j b e=>?_,fun j=>?_,fun j k b ej ek=>?_,fun j e q=>?_⟩
 ·split at e
  ·exact(hS b e).1
  ·exact R.gf j b e
 ·split at e
  ·exact(hS b e).2
  ·exact R.ob j b e
 ·by_cases L:j=i
  ·simp only[if_pos L]at e ⊢;exact h.cell b e
  ·simp only[if_neg L]at e ⊢;rw[ak (nj L e)];exact R.oc j b e
 ·split
  ·exact nd
  ·exact R.nd j
 ·skip
  split at ej
  ·rename_i z1;split at ek
   ·rename_i z2;rw[z1,z2]
   ·rename_i z2;exact absurd ek (hd k z2 b ej)
  ·rename_i z1;split at ek
   ·rename_i z2;exact absurd ej (hd j z1 b ek)
   ·exact R.dj j k b ej ek
 ·by_cases L:j=i
  ·subst L;rw[List.getElem?_set_self']at q;cases z:ρ[j]? with
   |none=>rw[z]at q;cases q
   |some o=>
    rw[z]at q;cases q;rw[if_pos rfl];exact⟨v,hv,h⟩
  ·rw[getElem?_set_ne (Ne.symm L)]at q;rw[if_neg L];obtain⟨w,hw,hh⟩:=R.sl j e q;exact⟨w,hw,hh.mono (.refl _) fun b hb o eo=>by rw[ak (nj L hb)];exact eo⟩
end
noncomputable def New (H G:Hp)(S:List Addr):Prop:=S.Nodup∧∀a∈S,H a=none∧G a=none
theorem New.nil {H G:Hp}:New H G []:=⟨nodup_nil,fun a h=>by cases h⟩
inductive NQ (X:Cx)(pins:List (Addr×Obj))(σ:St)(G H:Hp)(n:Nat)(o:Res D)(u:Value)(s':Shared):Prop
 |mk (d:D) (e:o= .ok d) (v:V) (G' H':Hp) (S:List Addr) (i:Inv X pins σ H' s') (r:RelV v u) (x:Ext G H G' H') (w:Ow X.K G' H' n d v S) (nw:New H G' S)
inductive ZQ (X:Cx)(pins:List (Addr×Obj))(σ:St)(μ:List Nat)(Ge B G H:Hp)(ρ:DS)(fp:Nat→List Addr)(n:Nat)(o:Res D)(u:Value)(s':Shared):Prop
 |mk (d:D) (e:o= .ok d) (v:V) (G' H':Hp) (S:List Addr) (i:Inv X pins σ H' s') (r:RelV v u) (R:Rw X.K μ Ge B G' H' σ ρ fp) (sg:Same G G') (sh:Same H H') (w:Ow X.K G' H' n d v S) (nw:New H G' S)
noncomputable def PN (X:Cx)(E:XK)(n:Nat)(e:Expr)(f:DS→Res D):Prop:=
 ∀(pins:List (Addr×Obj)) (s:Shared) (σ:St) (G H:Hp) (ρ:DS),Inv X pins σ H s→Same G H→Ro X.K G σ ρ→OkR E H (f ρ)→
  wpAny (model X.prog X.w) X.A (eval e X.env) (NQ X pins σ G H n (f ρ)) X.xe s
theorem Ext.freeze {K:W.Frag}{G H G' H':Hp}{n:Nat}{d:D}{v:V}{S:List Addr}(hs:Same G H)(x:Ext G H G' H')(w:New H G' S)(h:Ow K G' H' n d v S):∃G2,Ext G H G2 H'∧Same G' G2∧Rep K G2 d v:=by
 have dec:∀b,Decidable (b∈S):=fun b=>Classical.propDecidable _;refine⟨fun b=>if b∈S then H' b else G' b,⟨x.hh,fun b o e=>?_,fun b o e=>?_,fun b o e=>?_⟩,fun b o e=>?_,h.rep (fun b o e=>?_) fun a ha o e=>?_⟩
 ·by_cases q:b∈S
  ·have:=(w.2 b q).1;rw[hs b o e]at this;cases this
  ·show (if b∈S then H' b else G' b)=some o
   rw[if_neg q];exact x.gg b o e
 ·have e:(if b∈S then H' b else G' b)=some o:=e
  by_cases q:b∈S
  ·rw[if_pos q]at e;exact e
  ·rw[if_neg q]at e;exact x.gh b o e
 ·have e:(if b∈S then H' b else G' b)=some o:=e
  by_cases q:b∈S
  ·exact .inr (.inl (w.2 b q).1)
  ·rw[if_neg q]at e;exact x.nw b o e
 ·show (if b∈S then H' b else G' b)=some o
  by_cases q:b∈S
  ·rw[(w.2 b q).2]at e;cases e
  ·rw[if_neg q];exact e
 ·show (if b∈S then H' b else G' b)=some o
  by_cases q:b∈S
  ·rw[(w.2 b q).2]at e;cases e
  ·rw[if_neg q];exact e
 ·show (if a∈S then H' a else G' a)=some o
  rw[if_pos ha];exact e
section
variable{X:Cx}{E:XK}{μ:List Nat}
theorem PN.of {e:Expr}{f:DS→Res D}(h:PD X E e f):PN X E 0 e f:=fun pins s σ G H ρ I hs hr ho=>
 aW (h pins s σ G H ρ I hs hr ho) fun u s' hZ133=>(by obtain⟨d,e,v,G',H',I',rv,x,rp⟩:=hZ133;exact⟨d,e,v,G',H',[],I',rv,x,⟨rfl,rp⟩,.nil⟩)
theorem PN.pd {n:Nat}{e:Expr}{f:DS→Res D}(h:PN X E n e f):PD X E e f:=fun pins s σ G H ρ I hs hr ho=>
 aW (h pins s σ G H ρ I hs hr ho) fun u s' hZ134=>by
  obtain⟨d,e,v,G',H',S,I',rv,x,o,w⟩:=hZ134;obtain⟨G2,x2,_,rp⟩:=x.freeze hs w o;exact⟨d,e,v,G2,H',I',rv,x2,rp⟩
noncomputable def PZ (X:Cx)(E:XK)(μ:List Nat)(n:Nat)(e:Expr)(f:DS→Res D):Prop:=
 ∀(pins:List (Addr×Obj)) (s:Shared) (σ:St) (Ge B G H:Hp) (ρ:DS) (fp:Nat→List Addr),Inv X pins σ H s→Rw X.K μ Ge B G H σ ρ fp→OkR E B (f ρ)→
  wpAny (model X.prog X.w) X.A (eval e X.env) (ZQ X pins σ μ Ge B G H ρ fp n (f ρ)) X.xe s
inductive tZ (K:W.Frag)(E:XK)(μ:List Nat)(n:Nat)(f:DS→Res D)(σ:St)(H:Hp)(Q:VK):Prop
 |mk (Ge B G:Hp) (ρ:DS) (fp:Nat→List Addr) (R:Rw K μ Ge B G H σ ρ fp) (o:OkR E B (f ρ)) (k:∀d,f ρ= .ok d→∀v G' H' S,Rw K μ Ge B G' H' σ ρ fp→Same G G'→Same H H'→Ow K G' H' n d v S→New H G' S→Q v H')
theorem uk {n:Nat}{e:Expr}{f:DS→Res D}(h:PZ X E μ n e f):PE X e (tZ X.K E μ n f):=by
 intro pins s σ H Q I hZ12;obtain⟨Ge,B,G,ρ,fp,R,ho,k⟩:=hZ12;exact aW (h pins s σ Ge B G H ρ fp I R ho) fun u s' hZ135=>(by obtain⟨d,e,v,G',H',S,I',rv,R',sg,sh,o,w⟩:=hZ135;exact⟨v,H',I',rv,k d e v G' H' S R' sg sh o w⟩)
noncomputable def si (n:Nat)(f:DS→Res D):DS→Res D:=fun ρ=>(f ρ).bind fun d=>if bU n d=true then .ok d else .bad
theorem jF {n:Nat}{e:Expr}{f:DS→Res D}(h:PN X E n e f):PZ X E μ n e (si n f):=by
 intro pins s σ Ge B G H ρ fp I R ho;refine aW (h pins s σ (mJ fp G H) H ρ I R.vh R.ro (ho.fst.le R.bh)) fun u s' hZ136=>?_;obtain⟨d,e,v,G',H',S,I',rv,x,o,w⟩:=hZ136;have k:=ho.snd e (Same.refl B);by_cases hl:bU n d=true
 ·exact⟨d,am e (if_pos hl),v,lQ (oq fp) G',H',S,I',rv,R.grow x,R.gg x,x.hh,o.hide (R.cells x) hl,w.1,fun a ha=>⟨(w.2 a ha).1,by
   cases q:lQ (oq fp) G' a with
   |none=>rfl
   |some o=>have:=(i8 q).2;rw[(w.2 a ha).2]at this;cases this⟩⟩
 ·rw[if_neg hl]at k;exact k.elim
noncomputable def bJ (μ:List Nat)(f:DS→Res D):DS→Res D:=fun ρ=>f (iM μ ρ)
theorem ar {n:Nat}{e:Expr}{f:DS→Res D}(h:PN X E n e f):PZ X E μ n e (bJ μ f):=by
 intro pins s σ Ge B G H ρ fp I R ho;exact aW (h pins s σ G H (iM μ ρ) I R.gh R.rof (ho.le R.bh)) fun u s' hZ137=>(by obtain⟨d,e,v,G',H',S,I',rv,x,o,w⟩:=hZ137;exact⟨d,e,v,G',H',S,I',rv,R.growF x,x.gg,x.hh,o,w⟩)
inductive SMn (X:Cx)(μ:List Nat)(Ge B G:Hp)(pins:List (Addr×Obj))(P:DS→Prop)(s':Shared):Prop
 |mk (ρ':DS) (σ':St) (G' H':Hp) (fp':Nat→List Addr) (e:P ρ') (i:Inv X pins σ' H' s') (R:Rw X.K μ Ge B G' H' σ' ρ' fp') (sg:Same G G')
inductive SMr (X:Cx)(r:Nat)(Ge B:Hp)(pins:List (Addr×Obj))(o:Out)(u:Value)(s':Shared):Prop
 |mk (d:D) (v:V) (σ':St) (G' H':Hp) (S:List Addr) (e:o= .rt d) (i:Inv X pins σ' H' s') (rv:RelV v u) (x:Ext Ge B G' H') (w:Ow X.K G' H' r d v S) (nw:New B G' S)
noncomputable def SM (X:Cx)(μ:List Nat)(r:Nat)(Ge B G:Hp)(pins:List (Addr×Obj))(o:Out)(fl:Flow)(s':Shared):Prop:=
 match fl with
 |.next=>SMn X μ Ge B G pins (o= .nx ·) s'
 |.brk=>SMn X μ Ge B G pins (o= .bk ·) s'
 |.cont=>SMn X μ Ge B G pins (o= .ct ·) s'
 |.ret u=>SMr X r Ge B pins o u s'
noncomputable def l9 (X:Cx)(E:XK)(μ:List Nat)(r:Nat)(st:Stmt)(F:DS→Out):Prop:=
 ∀(pins:List (Addr×Obj)) (s:Shared) (σ:St) (Ge B G H:Hp) (ρ:DS) (fp:Nat→List Addr),Inv X pins σ H s→Rw X.K μ Ge B G H σ ρ fp→OkO E B (F ρ)→
  wpAny (model X.prog X.w) X.A (exec st X.env) (SM X μ r Ge B G pins (F ρ)) X.xe s
noncomputable def tu (X:Cx)(E:XK)(μ:List Nat)(r:Nat)(sts:List Stmt)(F:DS→Out):Prop:=
 ∀(pins:List (Addr×Obj)) (s:Shared) (σ:St) (Ge B G H:Hp) (ρ:DS) (fp:Nat→List Addr),Inv X pins σ H s→Rw X.K μ Ge B G H σ ρ fp→OkO E B (F ρ)→
  wpAny (model X.prog X.w) X.A (execs sts X.env) (SM X μ r Ge B G pins (F ρ)) X.xe s
variable{r:Nat}
theorem SM.le {Ge B G G1:Hp}{pins:List (Addr×Obj)}{o:Out}{fl:Flow}{s':Shared}(s:Same G G1)(h:SM X μ r Ge B G1 pins o fl s'):SM X μ r Ge B G pins o fl s':=by
 cases fl with
 |next=>obtain⟨M,v,G',H',N,e,I,R,t⟩:=h;exact⟨M,v,G',H',N,e,I,R,s.trans t⟩
 |brk=>obtain⟨M,v,G',H',N,e,I,R,t⟩:=h;exact⟨M,v,G',H',N,e,I,R,s.trans t⟩
 |cont=>obtain⟨M,v,G',H',N,e,I,R,t⟩:=h;exact⟨M,v,G',H',N,e,I,R,s.trans t⟩
 |ret u=>exact h
theorem bg:tu X E μ r [] (fun ρ=>.nx ρ):=fun _ _ σ Ge B G H ρ fp I R _=>wpAny_execs_nil ⟨ρ,σ,G,H,fp,rfl,I,R,.refl _⟩
theorem ai {st:Stmt}{rest:List Stmt}{F R:DS→Out}(h1:l9 X E μ r st F)(h2:tu X E μ r rest R):tu X E μ r (st::rest) (aC F R):=by
 intro pins s σ Ge B G H ρ fp I W ho;refine wpAny_execs_cons (aW (h1 pins s σ Ge B G H ρ fp I W ho.fst) fun fl s1 q=>?_);cases fl with
 |next=>
  obtain⟨M,t,G',H',N,e,I',W',sg⟩:=q;refine aW (h2 pins s1 t Ge B G' H' M N I' W' (ho.snd e (.refl _))) fun fl2 s2 q2=>?_;have e2:aC F R ρ=R M:=by unfold aC;rw[e];rfl
  rw[e2];exact q2.le sg
 |brk=>obtain⟨M,t,G',H',N,e,q,q1,q2⟩:=q;exact⟨M,t,G',H',N,by unfold aC;rw[e];rfl,q,q1,q2⟩
 |cont=>obtain⟨M,t,G',H',N,e,q,q1,q2⟩:=q;exact⟨M,t,G',H',N,by unfold aC;rw[e];rfl,q,q1,q2⟩
 |ret u=>obtain⟨d,v,t,G',H',S,e,q,q1,q2,q3,q4⟩:=q;exact⟨d,v,t,G',H',S,by unfold aC;rw[e];rfl,q,q1,q2,q3,q4⟩
theorem ao {st:Stmt}{F:DS→Out}(h1:l9 X E μ r st F):tu X E μ r [st] F:=by
 intro pins s σ Ge B G H ρ fp I W ho;refine wpAny_execs_cons (aW (h1 pins s σ Ge B G H ρ fp I W ho) fun fl s1 q=>?_);cases fl with
 |next=>exact wpAny_execs_nil q
 |brk=>exact q
 |cont=>exact q
 |ret u=>exact q
theorem Rw.apart {K:W.Frag}{Ge B G H:Hp}{σ:St}{ρ:DS}{fp:Nat→List Addr}{S:List Addr}{G':Hp}(R:Rw K μ Ge B G H σ ρ fp)(w:New H G' S):∀j,∀a∈S,a∉fp j:=fun j a ha hj=>by
 obtain⟨o,h,_⟩:=R.oc j a hj;rw[(w.2 a ha).1]at h;cases h
theorem aA {i:Nat}{x:Str}{e:Expr}{pos' pos:Pos}{f:DS→Res D}(hN:X.N.Nodup)(hi:X.N[i]?=some x)(hx:tj X.env.scope x)(h:PZ X E μ (μ.getD i 0) e f)(hf:X.fn x=true∨X.env.scope.names.lookup x=some .local:=by first|exact .inl rfl|exact .inr rfl)
  (hsw:swapsWith e (some (.Name x pos')) pos.line X.env=pure false:=by rfl):l9 X E μ r (.Assign [.Name x pos'] e pos) (aJ i f):=by
 intro pins s σ Ge B G H ρ fp I R ho;have hiσ:i<σ.length:=by rw[I.len];exact(gz hi).1
 refine aW (Dh (pos:=pos) (pos':=pos') hN hi hx (uk h) hsw hf pins s σ H {nx:=fun σ' H'=>∃d v G' S,f ρ= .ok d∧σ'=σ.set i (some v)∧Rw X.K μ Ge B G' H' σ ρ fp∧Same G G'∧Ow X.K G' H' (μ.getD i 0) d v S∧New H G' S,bk:=fun _ _=>False,ct:=fun _ _=>False,rt:=fun _ _=>False} I ⟨Ge,B,G,ρ,fp,R,ho.res,fun d e v G' H' S R' sg sh o w=>⟨d,v,G',S,e,rfl,R',sg,o,w⟩⟩) fun fl s1 q=>?_;cases fl with
 |next=>
  obtain⟨σ',H',I',d,v,G',S,e,e2,R',sg,o,w⟩:=q;subst e2;exact⟨_,_,G',H',_,b_ e,I',R'.put hiσ o w.1 (fun a ha=>⟨(w.2 a ha).2,R.bh.free (w.2 a ha).1⟩) (fun j _=>R.apart w j),sg⟩
 |brk=>obtain⟨_,_,_,q⟩:=q;exact q.elim
 |cont=>obtain⟨_,_,_,q⟩:=q;exact q.elim
 |ret u=>obtain⟨_,_,_,_,_,q⟩:=q;exact q.elim
theorem vv {e:Expr}{pos:Pos}{f:DS→Res D}(h:PD X E e f)(hs:swapsWith e none pos.line X.env=pure false:=by rfl):l9 X E μ r (.Expr e pos) (uX f):=by
 intro pins s σ Ge B G H ρ fp I R ho;refine aW (iu (du h) hs pins s σ H {nx:=fun σ' H'=>∃d G',f ρ= .ok d∧σ'=σ∧Ext (mJ fp G H) H G' H',bk:=fun _ _=>False,ct:=fun _ _=>False,rt:=fun _ _=>False} I ⟨mJ fp G H,ρ,R.vh,R.ro,ho.res.le R.bh,fun d e v G' H' x rp=>⟨d,G',e,rfl,x⟩⟩) fun fl s1 q=>?_;cases fl with
 |next=>
  obtain⟨σ',H',I',d,G',e,e2,x⟩:=q;subst e2;exact⟨ρ,_,_,H',fp,b_ e,I',R.grow x,R.gg x⟩
 |brk=>obtain⟨_,_,_,q⟩:=q;exact q.elim
 |cont=>obtain⟨_,_,_,q⟩:=q;exact q.elim
 |ret u=>obtain⟨_,_,_,_,_,q⟩:=q;exact q.elim
theorem bT {c:Expr}{a b:List Stmt}{pos:Pos}{fc:DS→Res Bool}{Fa Fb:DS→Out}(hc:tm X E c fc)(ha:tu X E μ r a Fa)(hb:tu X E μ r b Fb):l9 X E μ r (.If c a b pos) (jO fc Fa Fb):=by
 intro u s σ Ge B G H ρ fp I R ho;refine wpAny_If (aW (hc u s σ (mJ fp G H) H ρ I R.vh R.ro (ho.res.le R.bh)) fun k s1 hZ138=>?_);obtain⟨e,G1,H1,I1,x1⟩:=hZ138;have kk:=ho.res2 e (Same.refl B);have e0:jO fc Fa Fb ρ=if k=true then Fa ρ else Fb ρ:=b_ e
 rw[e0];cases k with
 |true=>rw[if_pos rfl]at kk ⊢;exact aW (ha u s1 σ Ge B _ H1 ρ fp I1 (R.grow x1) kk) fun _ _ q=>q.le (R.gg x1)
 |false=>rw[if_neg Bool.false_ne_true]at kk ⊢;exact aW (hb u s1 σ Ge B _ H1 ρ fp I1 (R.grow x1) kk) fun _ _ q=>q.le (R.gg x1)
theorem yB {st:Stmt}{C:Addr}{ok:DS→Bool}(h:BT X E st (gq C ok)):l9 X E μ r st (gq C ok):=by
 intro pins s σ Ge B G H ρ fp I R ho;refine aW (h pins s σ (mJ fp G H) H ρ I R.vh R.ro (ho.le R.bh)) fun fl s1 q=>?_;have no:∀o,gq C ok ρ=o→o= .exc C∨o= .bad:=fun o e=>by
  unfold gq at e;split at e
  ·exact .inl e.symm
  ·exact .inr e.symm
 cases fl with
 |next=>obtain⟨_,_,_,_,e,_⟩:=q;rcases no _ e with z|z <;> cases z
 |brk=>obtain⟨_,_,_,_,e,_⟩:=q;rcases no _ e with z|z <;> cases z
 |cont=>obtain⟨_,_,_,_,e,_⟩:=q;rcases no _ e with z|z <;> cases z
 |ret u=>obtain⟨_,_,_,_,_,e,_⟩:=q;rcases no _ e with z|z <;> cases z
theorem Rw.ext {K:W.Frag}{Ge B G H:Hp}{σ:St}{ρ:DS}{fp:Nat→List Addr}(R:Rw K μ Ge B G H σ ρ fp):Ext Ge B G H:=⟨R.bh,R.eg,R.gh,R.nw⟩
theorem aX {e:Expr}{pos:Pos}{f:DS→Res D}(h:PZ X E μ r e f):l9 X E μ r (.Return (some e) pos) (bF f):=by
 intro pins s σ Ge B G H ρ fp I R ho;refine aW (qP (pos:=pos) (uk h) pins s σ H {nx:=fun _ _=>False,bk:=fun _ _=>False,ct:=fun _ _=>False,rt:=fun v H'=>∃d G' S,f ρ= .ok d∧Rw X.K μ Ge B G' H' σ ρ fp∧Same G G'∧Ow X.K G' H' r d v S∧New H G' S} I ⟨Ge,B,G,ρ,fp,R,ho.res,fun d e v G' H' S R' sg sh o w=>⟨d,G',S,e,R',sg,o,w⟩⟩) fun fl s1 q=>?_;cases fl with
 |next=>obtain⟨_,_,_,q⟩:=q;exact q.elim
 |brk=>obtain⟨_,_,_,q⟩:=q;exact q.elim
 |cont=>obtain⟨_,_,_,q⟩:=q;exact q.elim
 |ret u=>
  obtain⟨v,σ',H',I',rv,d,G',S,e,R',sg,o,w⟩:=q;exact⟨d,v,σ',G',H',S,b_ e,I',rv,R'.ext,o,w.1,fun a ha=>⟨R.bh.free (w.2 a ha).1,(w.2 a ha).2⟩⟩
theorem ir {i:Nat}{x:Str}{px pos:Pos}(hm:μ.getD i 0=r)(hN:X.N[i]?=some x)(hv:uJ X.env.scope x)(hd:(x==("__debug__" :Str))=false:=by decide)(hcd:(x==("__classdict__" :Str))=false:=by decide):l9 X E μ r (.Return (some (.Name x px)) pos) (bF (ac i)):=by
 intro pins s σ Ge B G H ρ fp I R ho;have hslot:∃d,ρ[i]?=some (some d)∧ac i ρ= .ok d:=by
  have h:=ho.res;unfold ac at h;split at h
  ·rename_i l q;exact⟨l,q,by unfold ac;rw[q]⟩
  ·exact h.elim
 obtain⟨d,hr,er⟩:=hslot;obtain⟨v,h1,o⟩:=R.sl i _ hr;rw[hm]at o;refine aW (qP (pos:=pos) (fH (pos:=px) hN hv hd hcd) pins s σ H {nx:=fun _ _=>False,bk:=fun _ _=>False,ct:=fun _ _=>False,rt:=fun v' H'=>v'=v∧H'=H} I ⟨_,h1,rfl,rfl⟩) fun fl s1 q=>?_;cases fl with
 |next=>obtain⟨_,_,_,q⟩:=q;exact q.elim
 |brk=>obtain⟨_,_,_,q⟩:=q;exact q.elim
 |cont=>obtain⟨_,_,_,q⟩:=q;exact q.elim
 |ret u=>
  obtain⟨v',σ',H',I',rv,e2,e3⟩:=q;subst e2 e3;exact⟨d,v',σ',G,H',fp i,b_ er,I',rv,R.ext,o,R.nd i,fun a ha=>⟨R.ob i a ha,R.gf i a ha⟩⟩
noncomputable def bL (fc:DS→Res Bool)(F:DS→Out):Nat→DS→Out
 |0,_=>.bad
 |n+1,ρ=>(fc ρ).out fun b=>if b=true then (match F ρ with
  |.nx ρ'=>bL fc F n ρ'
  |.ct ρ'=>bL fc F n ρ'
  |.bk ρ'=>.nx ρ'
  |.rt d=>.rt d
  |.exc c=>.exc c
  |.bad=>.bad) else .nx ρ
theorem kX (n:Nat){c:Expr}{body:List Stmt}{pos:Pos}{fc:DS→Res Bool}{F:DS→Out}(hp:PassesOwn (model X.prog X.w) X.A X.env X.xe)(hc:tm X E c fc)(hb:tu X E μ r body F):l9 X E μ r (.While c body [] pos) (bL fc F n):=by
 intro x s σ Ge B G H ρ fp I R ho;refine wpAny_While (codeAny_whileLoop (fun k s'=>∃σ' G' H' ρ' fp',Inv X x σ' H' s'∧Rw X.K μ Ge B G' H' σ' ρ' fp'∧Same G G'∧bL fc F n ρ=bL fc F k ρ') ?_ n ⟨σ,G,H,ρ,fp,I,R,.refl _,rfl⟩);intro k s1 hZ13;obtain⟨σ1,G1,H1,O,fp1,I1,R1,sg1,e1⟩:=hZ13;rw[e1]at ho;cases k with
 |zero=>exact ho.elim
 |succ k=>
  have ho':OkO E B ((fc O).out fun b=>if b=true then (match F O with|.nx ρ'=>bL fc F k ρ'|.ct ρ'=>bL fc F k ρ'|.bk ρ'=>.nx ρ'|.rt d=>.rt d|.exc c=>.exc c|.bad=>.bad) else .nx O):=ho
  have Q:bL fc F (k+1) O=(fc O).out fun b=>if b=true then (match F O with|.nx ρ'=>bL fc F k ρ'|.ct ρ'=>bL fc F k ρ'|.bk ρ'=>.nx ρ'|.rt d=>.rt d|.exc c=>.exc c|.bad=>.bad) else .nx O:=rfl
  refine wpAny_passesOwn hp (aW (hc x s1 σ1 (mJ fp1 G1 H1) H1 O I1 R1.vh R1.ro (ho'.res.le R1.bh)) fun b s2 hZ139=>?_);obtain⟨eb,G2,H2,I2,x2⟩:=hZ139;have kk:=ho'.res2 eb (Same.refl B);rw[b_ eb]at Q;have R2:=R1.grow x2;have V:=sg1.trans (R1.gg x2);cases b with
  |true=>
   rw[if_pos rfl]at kk Q ⊢;have kF:OkO E B (F O):=by
    cases q:F O with
    |exc c=>rw[q]at kk;exact kk
    |bad=>rw[q]at kk;exact kk
    |_=>trivial
   refine wpAny_passesOwn hp (aW (hb x s2 σ1 Ge B _ H2 O fp1 I2 R2 kF) fun f s3 q3=>?_);cases f with
   |next=>
    obtain⟨U,P,G3,H3,T,e3,I3,R3,S⟩:=q3;rw[e3]at Q;exact⟨k,lt_succ_self k,P,G3,H3,U,T,I3,R3,V.trans S,e1.trans Q⟩
   |cont=>
    obtain⟨U,P,G3,H3,T,e3,I3,R3,S⟩:=q3;rw[e3]at Q;exact⟨k,lt_succ_self k,P,G3,H3,U,T,I3,R3,V.trans S,e1.trans Q⟩
   |brk=>
    obtain⟨U,P,G3,H3,T,e3,I3,R3,S⟩:=q3;rw[e3]at Q;exact⟨U,P,G3,H3,T,e1.trans Q,I3,R3,V.trans S⟩
   |ret u=>
    obtain⟨d,v,P,G3,H3,S3,e3,q3,q4,q5,q6,q7⟩:=q3;rw[e3]at Q;exact⟨d,v,P,G3,H3,S3,e1.trans Q,q3,q4,q5,q6,q7⟩
  |false=>
   rw[if_neg Bool.false_ne_true]at kk Q ⊢;exact wpAny_execs_nil ⟨O,σ1,_,H2,fp1,e1.trans Q,I2,R2,V⟩
end
inductive freshSp (K:W.Frag)(r:Nat)(m:List D→Res D)(vs:List V)(H:Hp)(Q:VK)(E:XK):Prop
 |mk (ds:List D) (G:Hp) (s:Same G H) (rl:RepL K G ds vs) (o:OkR E H (m ds)) (k:∀d,m ds= .ok d→∀v G' H' S,Ext G H G' H'→Ow K G' H' r d v S→New H G' S→Q v H')
section
variable{P:Program}{w:World}{K:W.Frag}{mg:Str→Option Value}{base:Heap}{r:Nat}
theorem Fun.fresh {x qual:Str}{st:Stmt}{f:Addr}{fd:FuncData}{N ps:List Str}{k:Nat}{m:List D→Res D}(F:Fun K x qual st f fd)(S:FnScope N ps (aj st))(μ:List Nat)(hμ:∀i,i<ps.length→μ.getD i 0=0)(len:∀ds,m ds≠ .bad→ds.length=ps.length)
  (hbody:∀(cdv:Value) (A:Around) (outer:List Env) (s:Shared) (H:Hp) (E:XK),Room k (A.deeper (envOfC qual (aj st) s.heap.objs.size f cdv))→
   ∃Fb,tu (w9 P w K mg base N qual (aj st) f cdv A outer s H E) E μ r (cN st) Fb∧∀ds,m ds≠ .bad→fG (Fb (aK N ds))=m ds):FnOk P w K mg base (CXF P w) (k+1) f fd ps (freshSp K r m):=by
 have nb:∀{E:XK} {H:Hp} {r:Res D},OkR E H r→r≠ .bad:=fun h z=>by rw[z]at h;exact h
 obtain⟨oc,od,kV,doc,pm,an,cdv,ct,osl,rfl,lk,hcd⟩:=F.ex;refine xJ lk hcd S (fun vs H Q E hZ140=>(by obtain⟨ds,G,_,rl,L,_⟩:=hZ140;rw[←rl.length];exact len ds (nb L))) fun A outer s H vs Q E hr hsp=>?_;obtain⟨ds,G,hs,rl,L,k⟩:=hsp;obtain⟨Fb,hb,hm⟩:=hbody cdv A outer s H E hr;have J:=hm ds (nb L);have hlen:=len ds (nb L);have hoO:OkO E H (Fb (aK N ds)):=by
  rw[←J]at L;cases q:Fb (aK N ds) with
  |exc c=>rw[q]at L;exact L
  |bad=>rw[q]at L;exact L
  |_=>trivial
 have zero:∀i d,(aK N ds)[i]?=some (some d)→μ.getD i 0=0:=fun i d e=>by
  refine hμ i ?_;unfold aK at e;by_cases hi:i<ds.length
  ·omega
  ·rw[getElem?_append_right (by simpa using hi),List.getElem?_replicate]at e;split at e <;> cases e
 have R0:Rw K μ G H G H (fX N vs) (aK N ds) (fun _=>[]):=by
  refine⟨hs,.refl _,.refl _,fun b o e=>.inl e,fun i a e=>(by cases e),fun i a e=>(by cases e),fun i a e=>(by cases e),fun i=>nodup_nil,fun i j a e=>(by cases e),fun i d e=>?_⟩;obtain⟨v,hv,rv⟩:=sP rl i d e;rw[zero i d e];exact⟨v,hv,rfl,rv⟩
 refine⟨fun D σ H1=>(σ=fX N vs∧H1=H∧(D.nx=fun _ M=>Q .non M)∧D.rt=Q),?_,rfl,rfl,rfl,rfl⟩;intro pins s1 σ H1 D I hZ14;obtain⟨e1,e2,e3,e4⟩:=hZ14;subst e1 e2;refine aW (hb pins s1 _ G H1 G H1 (aK N ds) _ I R0 hoO) fun fl s2 q=>?_;cases fl with
 |next=>
  obtain⟨ρ',t,G',M,fp',e,I',R,_⟩:=q;refine⟨t,M,I',?_⟩;rw[e3];have hn:m ds= .ok .non:=by rw[←J,e];rfl
  cases r with
  |zero=>exact k .non hn .non G' M [] R.ext ⟨rfl,rep_non.mpr rfl⟩ .nil
  |succ r=>exact k .non hn .non G' M [] R.ext ⟨by unfold L2.flat;rfl,rfl,rep_non.mpr rfl⟩ .nil
 |brk=>
  obtain⟨ρ',t,G',M,fp',e,_⟩:=q;rw[e]at J;exact absurd J.symm (nb L)
 |cont=>
  obtain⟨ρ',t,G',M,fp',e,_⟩:=q;rw[e]at J;exact absurd J.symm (nb L)
 |ret u=>
  obtain⟨d,v,t,G',M,S,e,I',rv,x,o,w⟩:=q;refine⟨v,t,M,I',rv,?_⟩;rw[e4];exact k d (by rw[←J,e];rfl) v G' M S x o w
end
inductive tZI (K:W.Frag)(E:XK)(μ:List Nat)(fi:DS→Res (List D))(σ:St)(H:Hp)(R:It→Hp→Prop):Prop
 |mk (Ge B G:Hp) (ρ:DS) (fp:Nat→List Addr) (w:Rw K μ Ge B G H σ ρ fp) (o:OkR E B (fi ρ)) (k:∀ds,fi ρ= .ok ds→∀J G' H',Rw K μ Ge B G' H' σ ρ fp→Same G G'→zo K J ds G'→R J H')
noncomputable def GD (K:W.Frag)(μ:List Nat)(n:Nat)(g:TG)(asg:D→DS→Option DS):Prop:=
 ∀(Ge B G H:Hp) (σ:St) (ρ ρ':DS) (fp:Nat→List Addr) (v:V) (d:D),σ.length=n→Rw K μ Ge B G H σ ρ fp→Rep K G d v→asg d ρ=some ρ'→g v σ H fun σ' H'=>H'=H∧∃fp',Rw K μ Ge B G H σ' ρ' fp'
noncomputable def bt (j:Nat):D→DS→Option DS:=fun d ρ=>some (ρ.set j (some d))
noncomputable def hJ (j k:Nat):D→DS→Option DS
 |.tup [a,b],ρ=>some ((ρ.set j (some a)).set k (some b))
 |_,_=>none
section
variable{X:Cx}{E:XK}{μ:List Nat}{r:Nat}{tg:Expr}
theorem Rw.set0 {K:W.Frag}{Ge B G H:Hp}{σ:St}{ρ:DS}{fp:Nat→List Addr}{i:Nat}{d:D}{v:V}(R:Rw K μ Ge B G H σ ρ fp)(hi:i<σ.length)(m:μ.getD i 0=0)(h:Rep K G d v):Rw K μ Ge B G H (σ.set i (some v)) (ρ.set i (some d)) (fun j=>if j=i then [] else fp j):=
 R.put hi (by rw[m];exact⟨rfl,h⟩) nodup_nil (fun a h=>by cases h) fun j _ a h=>by cases h
theorem Af {K:W.Frag}{n j:Nat}(hj:j<n)(m:μ.getD j 0=0):GD K μ n (ck j) (bt j):=by
 intro Ge B G H σ ρ ρ' fp v d hl R h e;cases e;exact⟨rfl,_,R.set0 (by rw[hl];exact hj) m h⟩
theorem Cw {K:W.Frag}{n j k:Nat}(hj:j<n)(hk:k<n)(m:μ.getD j 0=0)(m':μ.getD k 0=0):GD K μ n (v9 K 2 (i7 (ck j) (i7 (ck k) v8))) (hJ j k):=by
 intro Ge B G H σ ρ ρ' fp v d hl R h e;unfold hJ at e;split at e
 ·rename_i a b;cases e;rw[rep_tup]at h;obtain⟨p,xs,rfl,t,rl⟩:=h;obtain⟨x,q,rfl,rx,rl⟩:=rl.inv;obtain⟨y,q,rfl,ry,rl⟩:=rl.inv;have:=rl.inv0;subst this;have R2:=(R.set0 (by rw[hl];exact hj) m rx).set0 (i:=k) (by rw[List.length_set,hl];exact hk) m' ry;exact⟨p,[x,y],rfl,(show TpS K H p _ from ⟨R.gh _ _ t.h⟩).sq,rfl,x,[y],rfl,y,[],rfl,rfl,rfl,_,R2⟩
 ·cases e
noncomputable def d_ (asg:D→DS→Option DS)(F:DS→Out):List D→DS→Out
 | [],ρ=>.nx ρ
 |d::ds,ρ=>match asg d ρ with
  |none=>.bad
  |some ρ1=>match F ρ1 with
   |.nx ρ'=>d_ asg F ds ρ'
   |.ct ρ'=>d_ asg F ds ρ'
   |.bk ρ'=>.nx ρ'
   |.rt d=>.rt d
   |.exc c=>.exc c
   |.bad=>.bad
noncomputable def fQ (fi:DS→Res (List D))(asg:D→DS→Option DS)(F:DS→Out):DS→Out:=fun ρ=>(fi ρ).out fun ds=>d_ asg F ds ρ
theorem yA {pos:Pos}{iter:Expr}{body:List Stmt}{g:TG}{asg:D→DS→Option DS}{fi:DS→Res (List D)}{F:DS→Out}(hp:PassesOwn (model X.prog X.w) X.A X.env X.xe)(hc:X.calm=true)(hg:PG X tg g)(hgd:GD X.K μ X.N.length g asg)(hi:PI X tg iter (tZI X.K E μ fi))(hb:tu X E μ r body F)
  (hs:∀x,foldedSetIterable iter X.env x=pure x:=by intro _;rfl):l9 X E μ r (.For tg iter body [] pos) (fQ fi asg F):=by
 intro y s σ Ge B G H p fp I R ho;refine wpAny_For (aW (hi y s σ H _ I ⟨Ge,B,G,p,fp,R,ho.res,fun V e J G1 H1 R1 sg src=>(show (fun (J:It) (H1:Hp)=>∃ V G1,fi p= .ok V∧Rw X.K μ Ge B G1 H1 σ p fp∧Same G G1∧zo X.K J V G1) J H1 from ⟨V,G1,e,R1,sg,src⟩)⟩) fun v s1 h1=>aW h1 fun itv s2 h2=> ?_) hs;obtain ⟨it,ip,tn,J,H2,e,I2,T,st2,f2,V,G2,eds,R2,sg2,src⟩:=h2;subst e;have kk:OkO E B (d_ asg F V p):=ho.res2 eds (Same.refl B);have e0:fQ fi asg F p=d_ asg F V p:=b_ eds;rw [e0];have j:∀ {H':Hp},(∀ b∈ip,H' b=none)→∀ b∈ip,iR X y H' b:=fun hn b hb=>⟨hn b hb,(f2 b hb).2⟩;refine codeAny_forLoop_any (fun n s'=>∃ i σ' G' H' ρ' fp',n=V.length - i∧i≤V.length∧Inv X y σ' H' s'∧tn i s'.heap∧(∀ b∈ip,H' b=none)∧Rw X.K μ Ge B G' H' σ' ρ' fp'∧Same G2 G'∧d_ asg F V p=d_ asg F (V.drop i) ρ') ?_ V.length
  ⟨0,σ,G2,H2,p,fp,rfl,zero_le _,I2,st2,fun b hb=>(f2 b hb).1,R2,.refl _,rfl⟩
 intro n s3 hZ15;obtain⟨i,P,G3,H3,U,fp3,rfl,hi3,I3,st3,fr3,R3,S,a⟩:=hZ15;obtain⟨sg,ss⟩:=src G3 H3 S R3.gh i;by_cases M:i<V.length
 ·obtain⟨go,yl⟩:=sg V[i] (by simp[M]);have hdrop:V.drop i=V[i]::V.drop (i+1):=by rw[List.getElem_cons_drop]
  rw[hdrop]at a;refine wpAny_passesOwn hp (aW (T.item X rfl rfl rfl hc i y s3 P H3 X.xe I3 (j fr3) st3 go) fun r s4 hZ141=>?_);obtain⟨u,hr4,h4⟩:=hZ141;subst hr4;refine wpAny_passesOwn hp (aW h4 fun _ s5 hZ142=>?_);obtain⟨xv,H5,I5,r5,y5,st5,fr5⟩:=hZ142;obtain⟨G5,x5,rp5⟩:=yl xv H5 y5;have I5':=I5.pinned (j fr5) (T.obj _ _ st5);have R5:=R3.growF x5;have C:OkO E B (d_ asg F (V[i]::V.drop (i+1)) U):=by rw[←a];exact kk
  rw[d_]at C;rw[d_]at a;cases qa:asg V[i] U with
  |none=>rw[qa]at C;exact C.elim
  |some ρ6=>
  rw[qa]at C a;dsimp only at C a;refine wpAny_passesOwn hp (aW (hg _ s5 P H5 xv u _ I5' r5 (hgd Ge B G5 H5 P U ρ6 fp3 xv _ I5.len R5 rp5 qa)) fun _ s6 hZ143=>?_);obtain⟨σ6,H6,I6,e6,fp6,R6⟩:=hZ143;subst e6;have kk6:OkO E B (F ρ6):=by
   cases q:F ρ6 with
   |exc c=>rw[q]at C;exact C
   |bad=>rw[q]at C;exact C
   |_=>trivial
  refine wpAny_passesOwn hp (aW (hb _ s6 _ Ge B G5 H6 _ _ I6 R6 kk6) fun f s7 q7=>?_);have l:∀{W:St} {z t:Hp} {Y:DS} {Z:Nat→List Addr},Inv X (y ++ nX ip s5.heap) W t s7→Rw X.K μ Ge B z t W Y Z→Same G5 z→d_ asg F V p=d_ asg F (V.drop (i+1)) Y→∃m,m<V.length-i∧∃i σ' G' H' ρ' fp',m=V.length-i∧i≤V.length∧Inv X y σ' H' s7∧tn i s7.heap∧(∀b∈ip,H' b=none)∧Rw X.K μ Ge B G' H' σ' ρ' fp'∧Same G2 G'∧d_ asg F V p=d_ asg F (V.drop i) ρ':=fun {W z t Y Z} k R7 h L=>by
   refine⟨V.length-(i+1),Nat.sub_lt_sub_left M (lt_succ_self i),i+1,W,z,t,Y,Z,rfl,M,k.unpinned,T.keep _ _ _ st5 fun b hb o e=>(k.pin (b,o) (mem_append_right _ (mem_append_right _ (ik hb e)))).1,fun b hb=>?_,R7,(S.trans x5.gg).trans h,L⟩;obtain⟨o,e,d⟩:=T.obj _ _ st5 b hb;exact(k.pin (b,o) (mem_append_right _ (mem_append_right _ (ik hb e)))).2.1
  cases f with
  |next=>obtain⟨Y,W,z,t,Z,L,k,R7,h⟩:=q7;rw[L]at a;exact l k R7 h a
  |cont=>obtain⟨Y,W,z,t,Z,L,k,R7,h⟩:=q7;rw[L]at a;exact l k R7 h a
  |brk=>
   obtain⟨Y,W,z,t,Z,L,k,R7,h⟩:=q7;rw[L]at a;exact⟨Y,W,z,t,Z,a,k.unpinned,R7,((sg2.trans S).trans x5.gg).trans h⟩
  |ret v=>
   obtain⟨d,v7,W,z,t,S7,L,k,q7,q8,q9,q10⟩:=q7;rw[L]at a;exact⟨d,v7,W,z,t,S7,a,k.unpinned,q7,q8,q9,q10⟩
 ·have hie:i=V.length:=Nat.le_antisymm hi3 (Nat.not_lt.mp M);subst hie;refine wpAny_passesOwn hp (aW (T.done X rfl rfl rfl hc V.length y s3 P H3 X.xe I3 (j fr3) st3 (ss (le_refl _))) fun r s4 hZ144=>?_);obtain⟨hr4,I4⟩:=hZ144;subst hr4;rw[List.drop_length]at a;exact wpAny_execs_nil ⟨U,P,G3,H3,fp3,a,I4,R3,sg2.trans S⟩
noncomputable def zk (μ:List Nat)(fi:DS→Res (List D)):DS→Res (List D):=fun ρ=>fi (iM μ ρ)
theorem fZ {iter:Expr}{fi:DS→Res (List D)}(h:PI X tg iter (tDI X.K E fi)):PI X tg iter (tZI X.K E μ (zk μ fi)):=by
 intro pins s σ H Q I hZ16;obtain⟨Ge,B,G,ρ,fp,R,ho,k⟩:=hZ16;exact h pins s σ H Q I ⟨G,iM μ ρ,R.gh,R.rof,ho.le R.bh,fun ds e J G' H' x src=>k ds e J G' H' (R.growF x) x.gg src⟩
theorem gP {a:Expr}{p pos:Pos}{fs:DS→Res (List D)}(hg:Gl X "range")(hm:X.mg "range" =none)(ha:lm X E [a] fs)(hs:starEach [a] X.env=[(false,eval a X.env)]:=by rfl):PI X tg (.Call (.Name "range" p) [a] [] pos) (tZI X.K E μ (fun ρ=>(fs ρ).bind sN)):=by
 intro pins s σ H Q I hZ17;obtain⟨Ge,B,G,ρ,fp,R,ho,k⟩:=hZ17;refine pL hg hm (im ha) hs pins s σ H Q I ⟨mJ fp G H,ρ,R.vh,R.ro,ho.fst.le R.bh,fun ds e vs G1 H1 x1 p1=>?_⟩;have kk:=ho.snd e (Same.refl B);unfold sN at kk;split at kk
 ·rename_i j;obtain⟨v,q,rfl,rv,r0⟩:=p1.inv;rw[r0.inv0];rw[rep_int]at rv;subst rv;by_cases hj:cj j=true
  ·have hj':=hj;unfold cj at hj';rw[and_eq_true]at hj';exact⟨j,rfl,of_decide_eq_true hj'.1,of_decide_eq_true hj'.2,k _ (am e (if_pos hj)) _ _ H1 (R.grow x1) (R.gg x1) (jI 0 j.toNat)⟩
  ·rw[if_neg hj]at kk;exact kk.elim
 ·exact kk.elim
theorem wX {a b:Expr}{p pos:Pos}{fs:DS→Res (List D)}(hg:Gl X "range")(hm:X.mg "range" =none)(ha:lm X E [a,b] fs)(hs:starEach [a,b] X.env=[(false,eval a X.env),(false,eval b X.env)]:=by rfl)(hs2:starEach [b] X.env=[(false,eval b X.env)]:=by rfl):PI X tg (.Call (.Name "range" p) [a,b] [] pos) (tZI X.K E μ (fun ρ=>(fs ρ).bind ur)):=by
 intro pins s σ H Q I hZ18;obtain⟨Ge,B,G,ρ,fp,R,ho,k⟩:=hZ18;refine pM hg hm (im ha) hs hs2 pins s σ H Q I ⟨mJ fp G H,ρ,R.vh,R.ro,ho.fst.le R.bh,fun ds e vs G1 H1 x1 p1=>?_⟩;have kk:=ho.snd e (Same.refl B);unfold ur at kk;split at kk
 ·rename_i i j;obtain⟨v,q,rfl,rv,r0⟩:=p1.inv;obtain⟨v2,q2,rfl,rv2,r02⟩:=r0.inv;rw[r02.inv0];rw[rep_int]at rv rv2;subst rv rv2;by_cases hj:(cj i&&cj j)=true
  ·have hj':=hj;unfold cj at hj';rw[and_eq_true,and_eq_true,and_eq_true]at hj';exact⟨i,j,rfl,⟨of_decide_eq_true hj'.1.1,of_decide_eq_true hj'.1.2,of_decide_eq_true hj'.2.1,of_decide_eq_true hj'.2.2⟩,k _ (am e (if_pos hj)) _ _ H1 (R.grow x1) (R.gg x1) (jI i (j-i).toNat)⟩
  ·rw[if_neg hj]at kk;exact kk.elim
 ·exact kk.elim
theorem cP {x:Str}{px pos:Pos}{iter:Expr}{body:List Stmt}{j:Nat}{fi:DS→Res (List D)}{F:DS→Out}(hp:PassesOwn (model X.prog X.w) X.A X.env X.xe)(hc:X.calm=true)(hN:X.N.Nodup)(hj:X.N[j]?=some x)(hx:tj X.env.scope x)(hm:μ.getD j 0=0)(hi:PI X (.Name x px) iter (tZI X.K E μ fi))(hb:tu X E μ r body F)
  (hf:X.fn x=true∨X.env.scope.names.lookup x=some .local:=by first|exact .inl rfl|exact .inr rfl) (hs:∀x,foldedSetIterable iter X.env x=pure x:=by intro _;rfl):l9 X E μ r (.For (.Name x px) iter body [] pos) (fQ fi (bt j) F):=
 yA hp hc (eV hN hj hx hf) (Af (gz hj).1 hm) hi hb hs
theorem kW {x y:Str}{px py pt pos:Pos}{kt:Nat}{iter:Expr}{body:List Stmt}{j k:Nat}{fi:DS→Res (List D)}{F:DS→Out}(hp:PassesOwn (model X.prog X.w) X.A X.env X.xe)(hc:X.calm=true)(hN:X.N.Nodup)(hj:X.N[j]?=some x)(hk:X.N[k]?=some y)(hx:tj X.env.scope x)(hy:tj X.env.scope y)(hm:μ.getD j 0=0)(hm':μ.getD k 0=0)(hi:PI X (.Tuple [.Name x px,.Name y py] kt pt) iter (tZI X.K E μ fi))(hb:tu X E μ r body F)
  (hf:X.fn x=true∨X.env.scope.names.lookup x=some .local:=by first|exact .inl rfl|exact .inr rfl) (hf':X.fn y=true∨X.env.scope.names.lookup y=some .local:=by first|exact .inl rfl|exact .inr rfl) (hs:∀x,foldedSetIterable iter X.env x=pure x:=by intro _;rfl):l9 X E μ r (.For (.Tuple [.Name x px,.Name y py] kt pt) iter body [] pos) (fQ fi (hJ j k) F):=
 yA hp hc (um hc (gM (eV hN hj hx hf) (gM (eV hN hk hy hf') qM))) (Cw (gz hj).1 (gz hk).1 hm hm') hi hb hs
end
section
variable{X:Cx}{pins:List (Addr×Obj)}{σ:St}{H:Hp}{s:Shared}{h':Heap}
theorem Inv.turnedL {t':Nat}{ch:List Addr}(I:Inv X pins σ H s)(hf:∀b∈ch,iR X pins H b)(k:∀b o,b∉ch→s.heap.get? b=some o→h'.get? b=some o):Inv X pins σ H {s with heap:=h',toks:=t'}:=by
 have nit:∀b u,H b=some u→b∉ch:=fun b u e z=>by rw[(hf b z).1]at e;cases e
 refine I.step (g':=s.gens) (d':=s.drawn) (ch:=ch) (fun b hb=>?_) (fun b o _ _ hc e _=>k b o hc e) (fun b o _ _ hc e _=>⟨o.slots,k b o hc e⟩) (fun _ _ _ _ n=>n)
  (fun b o hc e=>⟨o,k b o hc e⟩) (fun _ _ e=>e) (fun _ _ _ e=>e) (fun b ps e=>⟨#[],by rw[e];simp⟩) (fun m hm=>?_) (fun b u e=>?_) I.bare
 ·obtain⟨f0,f1,f2,f3,f4,f5⟩:=hf b hb;exact⟨f3,f1,f4,f5⟩
 ·obtain⟨o,es,ep,ho,r⟩:=hm;exact⟨o,es,ep,k _ o (fun z=>(hf _ z).2.1 rfl) ho,r⟩
 ·refine(I.hok b u e).stay (fun c v hc q=>k c v ?_ q) (fun _ q=>q) fun _ _ q=>q
  rcases hc with z|z
  ·rw[z];exact nit b u e
  ·exact nit c _ z
theorem Inv.track {p:Addr}{o:HO}(I:Inv X pins σ H s)(hp:iR X pins H p)(new:ObjOk X.prog X.w (a9 H p o) s.heap p o):Inv X pins σ (a9 H p o) s:=by
 have hn:=hp.1;have I':=I.step (g':=s.gens) (d':=s.drawn) (t':=s.toks) (h':=s.heap) (H':=a9 H p o) (ch:=[p]) (fun b hb=>by
   have e:b=p:=by simpa using hb
   subst e;obtain⟨f0,f1,f2,f3,f4,f5⟩:=hp;exact⟨f3,f1,f4,f5⟩) (fun b o _ _ hc e _=>e) (fun b o _ _ hc e _=>⟨o.slots,e⟩) (fun b u hc e n=>by rw[ak (fun z=>hc (by simp[z]))];exact n)
  (fun b o hc e=>⟨o,e⟩) (fun b xs e=>by rw[ak (az e hn)];exact e) (fun b o u e=>by rw[ak (az e hn)];exact e) (fun b ps e=>⟨#[],by rw[ak (az e hn),e];simp⟩) (fun m hm=>hm) (fun b u e=>by
   by_cases hb:b=p
   ·subst hb;rw[aq]at e;cases e;exact new
   ·rw[ak hb]at e;exact(I.hok b u e).stay (fun c v _ q=>q) (fun c q=>by rw[ak (az q hn)];exact q) fun c xs q=>by rw[ak (az q hn)];exact q) I.bare
 exact I'
end
noncomputable def EM (K:W.Frag)(a:Addr):It:=
 ⟨fun i H=>∃xs x,gB K H a xs∧xs[i]?=some x,fun i H x H'=>∃p y,H p=none∧x= .ref p∧H'=a9 H p (.tup [.int i,y])∧∀xs,gB K H a xs→xs[i]?=some y,fun i H=>∃xs,gB K H a xs∧xs.length≤i⟩
theorem wV {P:Program}{w:World}{K:W.Frag}{elts:List Expr}{x1:Nat}{tp:Pos}(a e it:Addr)(hne:e≠it):Turn P w K (.Tuple elts x1 tp) (EM K a) [e,it] e (fun i h=>(∃old,IsEnum h e it (i:Nat) old)∧h.IsListIter it a i) where
 mem:=by simp
 obj:=fun i h t b q=>by
  obtain⟨⟨old,r⟩,o,m,c,d⟩:=t
  rcases mem_cons.mp q with z|z
  ·subst z;exact⟨_,r,fun v z=>by cases z⟩
  ·have z:b=it:=by simpa using z
   subst z;exact⟨o,m,fun v z=>by rw[d]at z;cases z⟩
 keep:=fun i h h' ⟨⟨old,r⟩,t⟩ k=>⟨⟨old,k e (by simp) _ r⟩,t.at fun o e=>k it (by simp) o e⟩
 item:=by
  intro X hP hw hK hc i A s σ H E I hf t hg;subst hP hw hK;obtain⟨⟨old,r⟩,l⟩:=t;obtain⟨xs,x,hq,hx⟩:=hg;obtain⟨its,rv,p,hz⟩:=I.list hq;obtain⟨u,hu,ru⟩:=rv.get hx;have hlt:∀b∈[e,it],b≠s.heap.objs.size:=fun b q z=>by
   obtain⟨o,m,c,d⟩:=l
   rcases mem_cons.mp q with y|y
   ·rw[y]at z;exact absurd (Heap.lt_size r) (by rw[z];exact lt_irrefl _)
   ·have y:b=it:=by simpa using y
    rw[y]at z;exact absurd (Heap.lt_size m) (by rw[z];exact lt_irrefl _)
  have hfr:=I.hok.fresh (le_refl s.heap.objs.size);have hfp:iR X A H s.heap.objs.size:=I.fpOk (le_refl _) hfr;refine wpAny_pyNext_enum_item r l p.isList (x:=u) (by simpa using hu) hne fun h1 he1 hit1 ht1 hz1 hk1=>⟨_,rfl,?_⟩;refine wpAny_letOwnedTupleGo_enum he1 fun h2 he2 j=>?_;have j:Heap.SameBut e h1 h2:=j;have I1:Inv X A σ H {s with heap:=h2,toks:=s.toks+1}:=I.turnedL (t':=s.toks+1) (ch:=[e,it]) hf fun b o q m=>by
   have b1:b≠e:=fun z=>q (by simp[z]);have b2:b≠it:=fun z=>q (by simp[z]);exact j.extBut b o b1 (hk1 b o b1 b2 m)
  have ht2:h2.get? s.heap.objs.size=some {cls:=.type "tuple",data:=.seq #[.int i s.toks,u]}:=j.extBut _ _ (Ne.symm (hlt e (by simp))) ht1;have I2:=Inv.track (o:=.tup [.int i,x]) I1 hfp ⟨by show 2≤sizeLine;decide,[.int i s.toks,u],.cons ⟨_,rfl⟩ (.cons ru .nil),_,ht2,rfl,_,rfl⟩;refine⟨.ref s.heap.objs.size,_,I2,rfl,⟨_,x,hfr,rfl,rfl,fun ys hy=>by rw[I.list_inj hy hq];exact hx⟩,⟨⟨u,?_⟩,hit1.at fun o m=>j.extBut _ o (Ne.symm hne) m⟩,fun b q=>?_⟩
  ·have:(((i+1:Nat):Int))=(i:Int)+1:=by push_cast;rfl
   rw[this];exact he2
  ·rw[ak (hlt b q)];exact(hf b q).1
 done:=by
  intro X hP hw hK hc i A s σ H E I hf t hg;subst hP hw hK;obtain⟨⟨old,r⟩,l⟩:=t;obtain⟨xs,hq,hx⟩:=hg;obtain⟨its,rv,p,hz⟩:=I.list hq;have hl:=rv.length;exact wpAny_pyNext_enum_end (I.ok.hd hc) r l p.isList (by simp;omega) fun h1 hk=>⟨rfl,I.turnedL (t':=s.toks) (ch:=[e,it]) hf fun b o q m=>hk b o (fun z=>q (by simp[z])) m⟩
 self:=fun _ _ _ _ _ t h=>by
  obtain⟨⟨old,r⟩,_⟩:=t;exact wpAny_pyIter_enum r h
theorem zw:bootBuiltins "enumerate" =some (.type "enumerate"):=by decide +kernel
theorem BY:bootBuiltins "zip" =some (.type "zip"):=by decide +kernel
section
variable{X:Cx}{E:XK}{elts:List Expr}{x1:Nat}{tp:Pos}
noncomputable def DY (K:W.Frag)(ta:TA):TI:=fun σ H R=>ta σ H fun xs H1=>∃a,xs=[.ref a]∧(∃ys,gB K H1 a ys)∧R (EM K a) H1
theorem AE {a:Expr}{ta:TA}{p pos:Pos}(hg:Gl X "enumerate")(hm:X.mg "enumerate" =none)(ha:PA X [a] ta)(hs:starEach [a] X.env=[(false,eval a X.env)]:=by rfl):PI X (.Tuple elts x1 tp) (.Call (.Name "enumerate" p) [a] [] pos) (DY X.K ta):=by
 intro pins s σ H R I h;refine Call_ (i_ I hg hm zw (PyProof.Rows.callWith_type1 (aW (ha pos pins s σ H _ I h) fun us s1 hZ145=>?_) hs rfl));obtain⟨vs,H1,I1,r1,q1⟩:=hZ145;obtain⟨l,e,⟨ys,hq⟩,q⟩:=q1;subst e;cases r1 with
 |cons r rr=>
  cases rr;cases r;obtain⟨its,rv,pp,hz⟩:=I1.list hq;refine call_enumerate_list pp.isList fun h2 he hit hz2 hk=>?_;refine wpAny_pyIter_enum (s:={s1 with heap:=h2}) he ⟨s1.heap.objs.size+1,[s1.heap.objs.size+1,s1.heap.objs.size],_,_,H1,rfl,I1.kept (t':=s1.toks) hk,wV l _ _ (Nat.succ_ne_self _),⟨⟨.none,he⟩,hit⟩,fun b hb=>?_,q⟩
  have hb':s1.heap.objs.size≤b:=by
   rcases mem_cons.mp hb with z|z
   ·rw[z];exact le_succ _
   ·have z:b=s1.heap.objs.size:=by simpa using z
    rw[z];exact le_refl _
  exact I1.fpOk hb' (I1.hok.fresh hb')
noncomputable def bY:Nat→List D→List D
 |_,[]=>[]
 |k,d::ds=>.tup [.int k,d]::bY (k+1) ds
theorem jR:∀(k:Nat) (l:List D) (i:Nat),(bY k l)[i]?=(l[i]?).map fun d=>.tup [.int ((k+i:Nat):Int),d]
 |_,[],i=>by unfold bY;simp
 |k,d::ds,0=>by unfold bY;simp
 |k,d::ds,i+1=>by
  unfold bY;rw[List.getElem?_cons_succ,List.getElem?_cons_succ,jR (k+1) ds i];have:k+1+i=k+(i+1):=by omega
  rw[this]
theorem jS:∀(k:Nat) (l:List D),(bY k l).length=l.length
 |_,[]=>rfl
 |k,d::ds=>by unfold bY;rw[length_cons,length_cons,jS]
theorem y7 {K:W.Frag}{G:Hp}{a:Addr}{xs:List V}{ds:List D}(sq:gB K G a xs)(rl:RepL K G ds xs):zo K (EM K a) (bY 0 ds) G:=by
 intro G2 H2 g1 g2 i;have sq2:gB K H2 a xs:=g2.seq (g1.seq sq);refine⟨fun d hd=>?_,fun hl=>⟨xs,sq2,by rw[jS,rl.length]at hl;exact hl⟩⟩;rw[jR]at hd;cases q:ds[i]? with
 |none=>rw[q]at hd;cases hd
 |some d0=>
  rw[q]at hd;cases hd;obtain⟨v,hv,rv⟩:=rl.get q;refine⟨⟨xs,v,sq2,hv⟩,fun y H' hZ146=>?_⟩;obtain⟨p,z,hp,e1,e2,h⟩:=hZ146;subst e1 e2;have q:=h xs sq2;rw[hv]at q;cases q;have x:=Ext.new g2 hp (.tup [.int i,v]);refine⟨_,x,rep_tup.mpr ⟨p,_,rfl,.of aq,.cons (rep_int.mpr (by rw[Nat.zero_add])) (.cons (rv.mono (g1.trans x.gg)) .nil)⟩⟩
noncomputable def rL:List D→Res (List D)
 | [.lst l]=>.ok (bY 0 l)
 |_=>.bad
theorem gN {a:Expr}{p pos:Pos}{fs:DS→Res (List D)}(hg:Gl X "enumerate")(hm:X.mg "enumerate" =none)(ha:lm X E [a] fs)(hs:starEach [a] X.env=[(false,eval a X.env)]:=by rfl):PI X (.Tuple elts x1 tp) (.Call (.Name "enumerate" p) [a] [] pos) (tDI X.K E (fun ρ=>(fs ρ).bind rL)):=by
 intro pins s σ H R I hZ19;obtain⟨G,ρ,hsm,hro,ho,k⟩:=hZ19;refine AE hg hm (im ha) hs pins s σ H R I ⟨G,ρ,hsm,hro,ho.fst,fun ds e vs G1 H1 x1 p1=>?_⟩;have kk:=ho.snd e x1.hh;unfold rL at kk;split at kk
 ·rename_i l;obtain⟨v,r,rfl,rv,r0⟩:=p1.inv;rw[r0.inv0];rw[rep_lst]at rv;obtain⟨b,xs,rfl,sq,rl⟩:=rv;exact⟨b,rfl,⟨xs,x1.gh.seq sq.sq⟩,k _ (am e rfl) _ G1 H1 x1 (y7 sq.sq rl)⟩
 ·exact kk.elim
end
noncomputable def EN (a b:Addr):It:=
 ⟨fun i H=>∃xs ys x y,H a=some (.lst xs)∧H b=some (.lst ys)∧xs[i]?=some x∧ys[i]?=some y,fun i H x H'=>∃p y z,H p=none∧x= .ref p∧H'=a9 H p (.tup [y,z])∧(∀xs,H a=some (.lst xs)→xs[i]?=some y)∧∀ys,H b=some (.lst ys)→ys[i]?=some z,
  fun i H=>∃xs ys,H a=some (.lst xs)∧H b=some (.lst ys)∧(xs.length≤i∨ys.length≤i)⟩
noncomputable def DE (z TI TO i1 i2 a b:Addr)(i:Nat)(h:Heap):Prop:=IsZip h z TI TO .none∧IsPair h TI (.ref i1) (.ref i2)∧(∃x y,IsPair h TO x y)∧h.IsListIter i1 a i∧h.IsListIter i2 b i
structure ZApart (z TI TO i1 i2:Addr):Prop where
 TIz:TI≠z
 TOz:TO≠z
 i1z:i1≠z
 i2z:i2≠z
 TITO:TI≠TO
 TIi1:TI≠i1
 TIi2:TI≠i2
 TOi1:TO≠i1
 TOi2:TO≠i2
 i12:i1≠i2
theorem pV {X:Cx}{pins:List (Addr×Obj)}{H:Hp}{a b z TI TO i1 i2:Addr}{xs ys:List V}(D:ZApart z TI TO i1 i2)(hf:∀b∈[z,TI,TO,i1,i2],iR X pins H b)(hq:H a=some (.lst xs))(hq':H b=some (.lst ys)):ZipApart z TI TO i1 i2 a b:=
 have na:∀{l:Addr} {zs:List V},H l=some (.lst zs)→∀c∈[z,TI,TO,i1,i2],l≠c:=fun hl c hc e=>by rw[e,(hf c hc).1]at hl;cases hl
 ⟨D.TIz,D.TOz,D.i1z,D.i2z,D.TITO,D.TIi1,D.TIi2,D.TOi1,D.TOi2,D.i12,na hq z (by simp),na hq TO (by simp),na hq i1 (by simp),na hq i2 (by simp),na hq' z (by simp),na hq' TO (by simp),na hq' i1 (by simp),na hq' i2 (by simp)⟩
theorem zb {P:Program}{w:World}{K:W.Frag}{elts:List Expr}{x1:Nat}{tp:Pos}(a b z TI TO i1 i2:Addr)(D:ZApart z TI TO i1 i2):Turn P w K (.Tuple elts x1 tp) (EN a b) [z,TI,TO,i1,i2] z (DE z TI TO i1 i2 a b) where
 mem:=by simp
 obj:=fun i h st c r=>by
  obtain⟨hz,l,⟨x,y,m⟩,⟨o1,e1,c1,d1⟩,⟨o2,e2,c2,d2⟩⟩:=st;simp only[mem_cons,not_mem_nil,or_false]at r
  rcases r with rfl|rfl|rfl|rfl|rfl
  ·exact⟨_,hz,fun v z=>by cases z⟩
  ·exact⟨_,l,fun v z=>by cases z⟩
  ·exact⟨_,m,fun v z=>by cases z⟩
  ·exact⟨o1,e1,fun v z=>by rw[d1]at z;cases z⟩
  ·exact⟨o2,e2,fun v z=>by rw[d2]at z;cases z⟩
 keep:=fun i h h' ⟨hz,l,⟨x,y,m⟩,h1,h2⟩ k=>⟨k z (by simp) _ hz,k TI (by simp) _ l,⟨x,y,k TO (by simp) _ m⟩,h1.at fun o e=>k i1 (by simp) o e,h2.at fun o e=>k i2 (by simp) o e⟩
 item:=by
  intro X hP hw hK r i B s σ H E I hf st hg;subst hP hw hK;obtain⟨hz,l,⟨u0,w0,m⟩,h1,h2⟩:=st;obtain⟨xs,ys,x,y,hq,t,hx,hy⟩:=hg;obtain⟨its,rv,p,_⟩:=I.list (.inl (.inl hq));obtain⟨its',rv',p',_⟩:=I.list (.inl (.inl t));obtain⟨u,hu,ru⟩:=rv.get hx;obtain⟨u',hu',ru'⟩:=rv'.get hy;have DD:=pV D hf hq t;have hfr:=I.hok.fresh (le_refl s.heap.objs.size);have hfp:iR X B H s.heap.objs.size:=I.fpOk (le_refl _) hfr;have lt:∀{c:Addr} {o:Obj},s.heap.get? c=some o→c≠s.heap.objs.size:=fun e=>ne_of_lt (Heap.lt_size e);have hlt:∀c∈[z,TI,TO,i1,i2],c≠s.heap.objs.size:=fun c r=>by
   obtain⟨o1,e1,_⟩:=h1;obtain⟨o2,e2,_⟩:=h2;simp only[mem_cons,not_mem_nil,or_false]at r
   rcases r with rfl|rfl|rfl|rfl|rfl
   ·exact lt hz
   ·exact lt l
   ·exact lt m
   ·exact lt e1
   ·exact lt e2
  refine wpAny_pyNext_zip_item DD hz l m h1 h2 p.isList p'.isList (x:=u) (y:=u') (by simpa using hu) (by simpa using hu') fun h3 a1 a2 a3 a4 a5 a6 hk=>⟨_,rfl,?_⟩;refine wpAny_letOwnedTupleGo_zip a1 fun h4 hz4 q=>?_;have q:Heap.SameBut z h3 h4:=q;have I1:Inv X B σ H {s with heap:=h4,toks:=s.toks}:=I.turnedL (t':=s.toks) (ch:=[z,TI,TO,i1,i2]) hf fun c o r e1=>by
   have n:∀d∈[z,TI,TO,i1,i2],c≠d:=fun d hd z=>r (by rw[z];exact hd);exact q.extBut c o (n z (by simp)) (hk c o (n z (by simp)) (n TO (by simp)) (n i1 (by simp)) (n i2 (by simp)) e1)
  have ht2:h4.get? s.heap.objs.size=some {cls:=.type "tuple",data:=.seq #[u,u']}:=q.extBut _ _ (Ne.symm (hlt z (by simp))) a5;have I2:=Inv.track (o:=.tup [x,y]) I1 hfp ⟨by show 2≤sizeLine;decide,[u,u'],.cons ru (.cons ru' .nil),_,ht2,rfl,_,rfl⟩;refine⟨.ref s.heap.objs.size,_,I2,rfl,⟨_,x,y,hfr,rfl,rfl,fun zs A=>by rw[hq]at A;cases A;exact hx,fun zs A=>by rw[t]at A;cases A;exact hy⟩,⟨hz4,q.extBut _ _ D.TIz (hk _ _ D.TIz D.TITO D.TIi1 D.TIi2 l),⟨_,_,q.extBut _ _ D.TOz a2⟩,a3.at fun o e=>q.extBut _ o D.i1z e,a4.at fun o e=>q.extBut _ o D.i2z e⟩,fun c r=>?_⟩;rw[ak (hlt c r)];exact(hf c r).1
 done:=by
  intro X hP hw hK r i B s σ H E I hf st hg;subst hP hw hK;obtain⟨hz,l,⟨u0,w0,m⟩,h1,h2⟩:=st;obtain⟨xs,ys,hq,t,hx⟩:=hg;obtain⟨its,rv,p,_⟩:=I.list (.inl (.inl hq));obtain⟨its',rv',p',_⟩:=I.list (.inl (.inl t));have hl:=rv.length;have hl':=rv'.length;exact wpAny_pyNext_zip_end (I.ok.hd r) (pV D hf hq t) hz l m h1 h2 p.isList p'.isList (hx.imp (fun hx=>by simp;omega) (fun hx=>by simp;omega)) fun h3 hk=>⟨rfl,I.turnedL (t':=s.toks) (ch:=[z,TI,TO,i1,i2]) hf fun c o r e1=>by
   have n:∀d∈[z,TI,TO,i1,i2],c≠d:=fun d hd z=>r (by rw[z];exact hd);exact hk c o (n z (by simp)) (n TO (by simp)) (n i1 (by simp)) (n i2 (by simp)) e1⟩
 self:=fun _ _ _ _ _ st h=>wpAny_pyIter_zip st.1 h
section
variable{X:Cx}{E:XK}{elts:List Expr}{x1:Nat}{tp:Pos}
noncomputable def EX (ta:TA):TI:=fun σ H R=>ta σ H fun xs H1=>∃a b,xs=[.ref a,.ref b]∧(∃ys,H1 a=some (.lst ys))∧(∃ys,H1 b=some (.lst ys))∧R (EN a b) H1
theorem Da {a b:Expr}{ta:TA}{p pos:Pos}(hg:Gl X "zip")(hm:X.mg "zip" =none)(ha:PA X [a,b] ta)(hs:starEach [a,b] X.env=[(false,eval a X.env),(false,eval b X.env)]:=by rfl)(hs2:starEach [b] X.env=[(false,eval b X.env)]:=by rfl):PI X (.Tuple elts x1 tp) (.Call (.Name "zip" p) [a,b] [] pos) (EX ta):=by
 intro pins s σ H R I h;refine Call_ (i_ I hg hm BY (PyProof.Rows.callWith_type1 (aW (ha pos pins s σ H _ I h) fun us t hZ147=>?_) (by rw[hs,hs2]) (by rw[hs2];rfl)));obtain⟨vs,H1,I1,r1,q1⟩:=hZ147;obtain⟨l,m,e,⟨ys,hq⟩,⟨zs,hq'⟩,q⟩:=q1;subst e;cases r1 with
 |cons r rr=>
  cases rr with
  |cons r' rr=>
  cases rr;cases r;cases r';obtain⟨its,rv,pp,hz⟩:=I1.list (.inl (.inl hq));obtain⟨its',rv',pp',hz'⟩:=I1.list (.inl (.inl hq'));refine call_zip_2 pp.isList pp'.isList fun h2 b1 b2 b3 b4 b5 b6 hk=>?_;have D:ZApart (t.heap.objs.size+4) (t.heap.objs.size+2) (t.heap.objs.size+3) t.heap.objs.size (t.heap.objs.size+1):=by
   generalize t.heap.objs.size=n;exact⟨by show (n+2:Nat)≠n+4;omega,by show (n+3:Nat)≠n+4;omega,by show (n:Nat)≠n+4;omega,by show (n+1:Nat)≠n+4;omega,by show (n+2:Nat)≠n+3;omega,by show (n+2:Nat)≠n;omega,by show (n+2:Nat)≠n+1;omega,by show (n+3:Nat)≠n;omega,by show (n+3:Nat)≠n+1;omega,by show (n:Nat)≠n+1;omega⟩
  refine wpAny_pyIter_zip (s:={t with heap:=h2}) b1 ⟨t.heap.objs.size+4,[t.heap.objs.size+4,t.heap.objs.size+2,t.heap.objs.size+3,t.heap.objs.size,t.heap.objs.size+1],_,_,H1,rfl,I1.kept (t':=t.toks) hk,zb l m _ _ _ _ _ D,⟨b1,b2,⟨_,_,b3⟩,b4,b5⟩,fun c hc=>?_,q⟩
  have hb':t.heap.objs.size≤c:=by
   simp only[mem_cons,not_mem_nil,or_false]at hc
   rcases hc with rfl|rfl|rfl|rfl|rfl
   ·exact le_add_right _ _
   ·exact le_add_right _ _
   ·exact le_add_right _ _
   ·exact le_refl _
   ·exact le_add_right _ _
  exact I1.fpOk hb' (I1.hok.fresh hb')
noncomputable def jL:List D→List D→List D
 |a::as,b::bs=>.tup [a,b]::jL as bs
 |_,_=>[]
theorem tf:∀(l m:List D) (i:Nat) (d:D),(jL l m)[i]?=some d→∃a b,l[i]?=some a∧m[i]?=some b∧d= .tup [a,b]
 | [],_,i,d,h=>by unfold jL at h;simp at h
 |_::_,[],i,d,h=>by unfold jL at h;simp at h
 |a::as,b::bs,0,d,h=>by unfold jL at h;simp at h;exact⟨a,b,rfl,rfl,h.symm⟩
 |a::as,b::bs,i+1,d,h=>by
  unfold jL at h;obtain⟨x,y,h1,h2,h3⟩:=tf as bs i d (by simpa using h);exact⟨x,y,by simpa using h1,by simpa using h2,h3⟩
theorem ti:∀(l m:List D),(jL l m).length=min l.length m.length
 | [],_=>by unfold jL;simp
 |_::_,[]=>by unfold jL;simp
 |a::as,b::bs=>by unfold jL;rw[length_cons,length_cons,length_cons,ti];omega
theorem A9 {K:W.Frag}{G:Hp}{a b:Addr}{xs ys:List V}{ds es:List D}(sq:LsS K G a xs)(rl:RepL K G ds xs)(sq':LsS K G b ys)(rl':RepL K G es ys):zo K (EN a b) (jL ds es) G:=by
 intro G2 H2 g1 g2 i;have s2:=g2 _ _ (g1 _ _ sq.h);have s2':=g2 _ _ (g1 _ _ sq'.h);refine⟨fun d hd=>?_,fun hl=>⟨xs,ys,s2,s2',by rw[ti,rl.length,rl'.length]at hl;omega⟩⟩;obtain⟨d1,d2,q1,q2,e⟩:=tf _ _ _ _ hd;subst e;obtain⟨v,hv,rv⟩:=rl.get q1;obtain⟨v',hv',rv'⟩:=rl'.get q2;refine⟨⟨xs,ys,v,v',s2,s2',hv,hv'⟩,fun y H' hZ148=>?_⟩;obtain⟨p,z,z',hp,e1,e2,h,h'⟩:=hZ148;subst e1 e2;have q:=h xs s2;rw[hv]at q;cases q;have q:=h' ys s2';rw[hv']at q;cases q;have x:=Ext.new g2 hp (.tup [v,v']);exact⟨_,x,rep_tup.mpr ⟨p,_,rfl,.of aq,.cons (rv.mono (g1.trans x.gg)) (.cons (rv'.mono (g1.trans x.gg)) .nil)⟩⟩
noncomputable def uF:List D→Res (List D)
 | [.lst l,.lst m]=>.ok (jL l m)
 |_=>.bad
theorem vq {a b:Expr}{p pos:Pos}{fs:DS→Res (List D)}(hg:Gl X "zip")(hm:X.mg "zip" =none)(ha:lm X E [a,b] fs)(hs:starEach [a,b] X.env=[(false,eval a X.env),(false,eval b X.env)]:=by rfl)(hs2:starEach [b] X.env=[(false,eval b X.env)]:=by rfl):PI X (.Tuple elts x1 tp) (.Call (.Name "zip" p) [a,b] [] pos) (tDI X.K E (fun ρ=>(fs ρ).bind uF)):=by
 intro pins s σ H R I hZ20;obtain⟨G,ρ,hsm,hro,ho,k⟩:=hZ20;refine Da hg hm (im ha) hs hs2 pins s σ H R I ⟨G,ρ,hsm,hro,ho.fst,fun ds e vs G1 H1 x1 p1=>?_⟩;have kk:=ho.snd e x1.hh;unfold uF at kk;split at kk
 ·rename_i l m;obtain⟨v,r,rfl,rv,r0⟩:=p1.inv;obtain⟨v',r',rfl,rv',r0'⟩:=r0.inv;rw[r0'.inv0];rw[rep_lst]at rv rv';obtain⟨b1,xs,rfl,sq,rl⟩:=rv;obtain⟨b2,ys,rfl,sq',rl'⟩:=rv';exact⟨b1,b2,rfl,⟨xs,x1.gh _ _ sq.h⟩,⟨ys,x1.gh _ _ sq'.h⟩,k _ (am e rfl) _ G1 H1 x1 (A9 sq rl sq' rl')⟩
 ·exact kk.elim
end
inductive tN (K:W.Frag)(E:XK)(n:Nat)(f:DS→Res D)(σ:St)(H:Hp)(Q:VK):Prop
 |mk (G:Hp) (ρ:DS) (s:Same G H) (r:Ro K G σ ρ) (o:OkR E H (f ρ)) (k:∀d,f ρ= .ok d→∀v G' H' S,Ext G H G' H'→Ow K G' H' n d v S→New H G' S→Q v H')
noncomputable def TN (K:W.Frag)(E:XK)(n:Nat)(f:DS→Res D)(te:TE):Prop:=
 ∀(σ:St) (G H:Hp) (ρ:DS) (Q:VK),Same G H→Ro K G σ ρ→OkR E H (f ρ)→(∀d,f ρ= .ok d→∀v G' H' S,Ext G H G' H'→Ow K G' H' n d v S→New H G' S→Q v H')→te σ H Q
theorem Ext.hnew {G H G' H':Hp}{p:Addr}(x:Ext G H G' H')(hp:H' p=none)(o:HO):Ext G H G' (a9 H' p o):=
 ⟨fun b u e=>by rw[ak (az (x.hh b u e) hp)];exact x.hh b u e,x.gg,fun b u e=>by rw[ak (az (x.gh b u e) hp)];exact x.gh b u e,x.nw⟩
theorem New.step {H G2 H2 G3 H3:Hp}{S:List Addr}(w:New H G2 S)(hc:∀a∈S,∃o,H2 a=some o∧¬oG o)(x:Ext G2 H2 G3 H3):New H G3 S:=⟨w.1,fun a ha=>⟨(w.2 a ha).1,by
 cases q:G3 a with
 |none=>rfl
 |some o=>
  rcases x.nw a o q with z|z
  ·rw[(w.2 a ha).2]at z;cases z
  ·obtain⟨o',h,hk⟩:=hc a ha
   rcases z with z|z
   ·rw[z]at h;cases h
   ·have h2:=x.gh a o q;rw[x.hh a _ h]at h2;cases h2;exact(hk z).elim⟩⟩
theorem New.join {H H2 G:Hp}{S T:List Addr}(w:New H G S)(w':New H2 G T)(hc:∀a∈S,∃o,H2 a=some o∧¬oG o)(sh:Same H H2):New H G (S ++ T):=by
 refine⟨nodup_append.mpr ⟨w.1,w'.1,fun a ha b hb e=>?_⟩,fun a ha=>?_⟩
 ·subst e;obtain⟨o,h,_⟩:=hc a ha;rw[(w'.2 a hb).1]at h;cases h
 ·rcases mem_append.mp ha with z|z
  ·exact w.2 a z
  ·exact⟨sh.free (w'.2 a z).1,(w'.2 a z).2⟩
theorem AllW.has {K:W.Frag}{G H:Hp}{n:Nat}{ds:List D}{vs:List V}{S:List Addr}(h:AllW (Ow K G H n) ds vs S):∀a∈S,∃o,H a=some o∧¬oG o:=h.cell fun d v A q a ha=>let ⟨o,e,c⟩:=q.cell a ha;⟨o,e,c.nokey⟩
section
variable{X:Cx}{E:XK}{μ:List Nat}{r n:Nat}
theorem yu {e:Expr}{f:DS→Res D}(h:PN X E n e f):PE X e (tN X.K E n f):=by
 intro pins s σ H Q I hZ21;obtain⟨G,ρ,hs,hr,ho,k⟩:=hZ21;exact aW (h pins s σ G H ρ I hs hr ho) fun u s' hZ149=>(by obtain⟨d,e,v,G',H',S,I',rv,x,o,w⟩:=hZ149;exact⟨v,H',I',rv,k d e v G' H' S x o w⟩)
theorem PN.tn {e:Expr}{f:DS→Res D}{te:TE}(h:PE X e te)(t:TN X.K E n f te):PN X E n e f:=by
 intro pins s σ G H ρ I hs hr ho;refine aW (h pins s σ H (fun v H'=>∃d G' S,f ρ= .ok d∧Ext G H G' H'∧Ow X.K G' H' n d v S∧New H G' S) I (t σ G H ρ _ hs hr ho fun d e v G' H' S x o w=>⟨d,G',S,e,x,o,w⟩)) fun u s' hZ150=>(by obtain⟨v,H',I',rv,d,G',S,e,x,o,w⟩:=hZ150;exact⟨d,e,v,G',H',S,I',rv,x,o,w⟩)
theorem il {K:W.Frag}{G G' H H':Hp}{p:Addr}{ds:List D}{vs:List V}(x:Ext G H G' H')(hp:H' p=none)(rl:RepL K G' ds vs):Ext G H G' (a9 H' p (.lst vs))∧Ow K G' (a9 H' p (.lst vs)) 1 (.lst ds) (.ref p) [p]∧New H G' [p]:=by
 refine⟨x.hnew hp _,⟨p,vs,[],rfl,aq,rfl,?_⟩,⟨nodup_cons.mpr ⟨not_mem_nil,nodup_nil⟩,fun a ha=>?_⟩⟩
 ·have go:∀{ds:List D} {vs:List V},RepL K G' ds vs→AllW (Ow K G' (a9 H' p (.lst vs)) 0) ds vs []:=by
   intro ds
   induction ds with
   |nil=>intro vs h;exact⟨h.inv0,rfl⟩
   |cons d ds ih=>
    intro vs h;obtain⟨v,q,rfl,h1,h2⟩:=h.inv;refine⟨v,q,[],[],rfl,rfl,⟨rfl,h1⟩,(ih h2).mono fun d v A _ _ z=>?_⟩;exact z
  exact(go rl).mono fun d v A _ _ z=>z
 ·have e:a=p:=by simpa using ha
  subst e;exact⟨x.hh.free hp,by
   cases q:G' a with
   |none=>rfl
   |some o=>rw[x.gh a o q]at hp;cases hp⟩
theorem j7 {es:List Expr}{pos:Pos}{f:DS→Res (List D)}(h:lm X E es f):PN X E 1 (.List es pos) (dM f):=by
 refine .tn (ui (im h)) fun σ G H ρ Q hs hro ho k=>⟨G,ρ,hs,hro,ho.fst,fun ds e vs G1 H1 x1 r1=>?_⟩;have kk:=ho.snd e x1.hh;by_cases hl:aM ds.length=true
 ·refine⟨by rw[←r1.length];exact bu hl,fun p hp=>?_⟩;obtain⟨x,o,w⟩:=il x1 hp r1;exact k (.lst ds) (am e (if_pos hl)) _ _ _ _ x o w
 ·rw[if_neg hl]at kk;exact kk.elim
theorem AL {CX:rj}{k:Nat}{f:Addr}{fd:FuncData}{ps:List Str}{m:List D→Res D}{x:Str}{p pos:Pos}{e:Expr}{es:List Expr}{fs:DS→Res (List D)}(F:FnOk X.prog X.w X.K X.mg X.base CX k f fd ps (freshSp X.K n m))(hr:Room k X.A)(hg:Gl X x)(hm:X.mg x=some (.ref f))(hk:W.keepIn X.K (.ref f)=true)(hb:Binds X.K fd ps [])(hx:cQ CX X E)
  (ha:lm X E (e::es) fs) (hdb:(x==("__debug__" :Str))=false:=by decide) (he:starEach (e::es) X.env=(false,eval e X.env)::starEach es X.env:=by rfl) (hpl:(backTo pos (starEach es X.env)).any (·.1)=false:=by rfl) :
  PN X E n (.Call (.Name x p) (e::es) [] pos) (bf fs m):=
 .tn (AB F hr hg hm hk hb .nil hx (im ha) hdb he hpl) fun σ G H ρ Q hs hro ho k=>⟨G,ρ,hs,hro,ho.fst,fun ds e1 vs G1 H1 x1 p1=>⟨ds,G1,x1.gh,by rw[append_nil];exact p1,ho.snd e1 x1.hh,fun d ed v G' H' S xx o w=>k d (am e1 ed) v G' H' S (x1.trans xx) o ⟨w.1,fun a ha=>⟨x1.hh.free (w.2 a ha).1,(w.2 a ha).2⟩⟩⟩⟩
theorem AN {e:Expr}{p pos:Pos}{f:DS→Res D}(h:PD X E e f)(hg:Gl X "list")(hm:X.mg "list" =none)(he:starEach [e] X.env=(false,eval e X.env)::starEach [] X.env:=by rfl):PN X E 1 (.Call (.Name "list" p) [e] [] pos) (bf (fun ρ=>(f ρ).bind fun d=>.ok [d]) cE):=by
 have hpd:lm X E [e] (fun ρ=>(f ρ).bind fun d=>.ok [d]):=aa h af he;refine .tn (cW (x:= "list") (p:=p) (pos:=pos) ia hg hm kh (im hpd) (by decide) (by decide) he rfl) fun σ G H ρ Q hs hro ho k=>⟨G,ρ,hs,hro,ho.fst,fun ds e1 vs G1 H1 x1 p1=>?_⟩;have kk:=ho.snd e1 x1.hh;have e0:bf (fun ρ=>(f ρ).bind fun d=>.ok [d]) cE ρ=cE ds:=by show ((f ρ).bind fun d=>Res.ok [d]).bind cE=_;rw[e1];rfl
 unfold cE at kk;split at kk
 ·obtain⟨v,r,rfl,m,r0⟩:=p1.inv;rw[r0.inv0];rw[rep_lst]at m;obtain⟨q,xs,rfl,sq,m⟩:=m;refine⟨q,xs,rfl,.inl (x1.gh.seq sq.sq),fun l hl=>?_⟩;obtain⟨x,o,w⟩:=il x1 hl m;exact k _ e0 _ _ _ _ x o w
 ·obtain⟨v,r,rfl,m,r0⟩:=p1.inv;rw[r0.inv0];rw[rep_tup]at m;obtain⟨q,xs,rfl,sq,m⟩:=m;refine⟨q,xs,rfl,.inr (x1.gh.seqT sq),fun l hl=>?_⟩;obtain⟨x,o,w⟩:=il x1 hl m;exact k _ e0 _ _ _ _ x o w
 ·exact kk.elim
theorem PZ.zero {e:Expr}{f:DS→Res D}(h:PZ X E μ n e f):PZ X E μ 0 e f:=by
 intro pins s σ Ge B G H ρ fp I R ho;refine aW (h pins s σ Ge B G H ρ fp I R ho) fun u s' hZ151=>?_;obtain⟨d,e,v,t,J,S,I',rv,r,sg,sh,o,w⟩:=hZ151;have dec:∀b,Decidable (b∈S):=fun b=>Classical.propDecidable _;have U:Same t (fun b=>if b∈S then J b else t b):=fun b u e=>by
  show (if b∈S then J b else t b)=some u
  by_cases q:b∈S
  ·rw[(w.2 b q).2]at e;cases e
  ·rw[if_neg q];exact e
 have rp:Rep X.K (fun b=>if b∈S then J b else t b) d v:=o.rep U fun a ha u e=>by
  show (if a∈S then J a else t a)=some u
  rw[if_pos ha];exact e
 refine⟨d,e,v,fun b=>if b∈S then J b else t b,J,[],I',rv,⟨fun b u e=>?_,r.eg.trans U,r.bh,fun b u e=>?_,fun i a e=>?_,r.ob,r.oc,r.nd,r.dj,fun i d e=>?_⟩,sg.trans U,sh,⟨rfl,rp⟩,.nil⟩
 ·have e:(if b∈S then J b else t b)=some u:=e
  by_cases q:b∈S
  ·rw[if_pos q]at e;exact e
  ·rw[if_neg q]at e;exact r.gh b u e
 ·have e:(if b∈S then J b else t b)=some u:=e
  by_cases q:b∈S
  ·exact .inr (.inl (R.bh.free (w.2 b q).1))
  ·rw[if_neg q]at e;exact r.nw b u e
 ·show (if a∈S then J a else t a)=none
  rw[if_neg (fun z=>R.apart w i a z e)];exact r.gf i a e
 ·obtain⟨v,hv,hh⟩:=r.sl i d e;exact⟨v,hv,hh.mono U fun a _ o eo=>eo⟩
theorem kA {ρ:DS}:iM [] ρ=ρ:=by
 unfold iM;apply ext_getElem?;intro i;rw[List.getElem?_mapIdx];cases ρ[i]? <;> simp
theorem aL {e:Expr}{f:DS→Res D}(h:PN X E n e f):PZ X E [] n e f:=by
 have:=ar (μ:=[]) h;unfold bJ at this;simp only[kA]at this;exact this
theorem rf {tg iter:Expr}{fi:DS→Res (List D)}(h:PI X tg iter (tDI X.K E fi)):PI X tg iter (tZI X.K E [] fi):=by
 have:=fZ (μ:=[]) h;unfold zk at this;simp only[kA]at this;exact this
theorem AK {st:Stmt}{i:Nat}{x:Str}{te:TE}{f:DS→Res D}(hi:X.N[i]?=some x)(hps:PS X st (uz te (ck i)))(t:TN X.K E n f te)(hm:μ.getD i 0=n):l9 X E μ r st (aJ i (bJ μ f)):=by
 intro pins s σ Ge B G H ρ fp I R ho;have hiσ:i<σ.length:=by rw[I.len];exact(gz hi).1
 refine aW (hps pins s σ H {nx:=fun σ' H'=>∃d v G' S,bJ μ f ρ= .ok d∧σ'=σ.set i (some v)∧Rw X.K μ Ge B G' H' σ ρ fp∧Same G G'∧Ow X.K G' H' n d v S∧New H G' S,bk:=fun _ _=>False,ct:=fun _ _=>False,rt:=fun _ _=>False} I (t σ G H (iM μ ρ) _ R.gh R.rof (ho.res.le R.bh) fun d e v G' H' S x o w=>⟨d,v,G',S,e,rfl,R.growF x,x.gg,o,w⟩)) fun fl s1 q=>?_
 ·cases fl with
  |next=>
   obtain⟨σ',H',I',d,v,G',S,e,e2,R',sg,o,w⟩:=q;subst e2;rw[←hm]at o;exact⟨_,_,G',H',_,b_ e,I',R'.put hiσ o w.1 (fun a ha=>⟨(w.2 a ha).2,R.bh.free (w.2 a ha).1⟩) (fun j _=>R.apart w j),sg⟩
  |brk=>obtain⟨_,_,_,q⟩:=q;exact q.elim
  |cont=>obtain⟨_,_,_,q⟩:=q;exact q.elim
  |ret u=>obtain⟨_,_,_,_,_,q⟩:=q;exact q.elim
end
theorem TN.freeze {K:W.Frag}{E:XK}{n:Nat}{f:DS→Res D}{te:TE}(t:TN K E n f te):TN K E 0 f te:=fun σ G H ρ Q hs hr ho k=>t σ G H ρ Q hs hr ho fun d e v G' H' S x o w=>by
 obtain⟨G2,x2,_,rp⟩:=x.freeze hs w o;exact k d e v G2 H' [] x2 ⟨rfl,rp⟩ .nil
noncomputable def GC (K:W.Frag)(n:Nat)(g:TG)(asg:D→DS→Option DS):Prop:=
 ∀(G H:Hp) (σ:St) (ρ ρ':DS) (v:V) (d:D),σ.length=n→Same G H→Ro K G σ ρ→Rep K G d v→asg d ρ=some ρ'→g v σ H fun σ' H'=>H'=H∧Ro K G σ' ρ'
theorem u4 {K:W.Frag}{n j:Nat}(hj:j<n):GC K n (ck j) (bt j):=by
 intro G H σ ρ ρ' v d hl hs R h e;cases e;exact⟨rfl,R.set (by rw[hl];exact hj) h⟩
theorem xM {K:W.Frag}{n j k:Nat}(hj:j<n)(hk:k<n):GC K n (v9 K 2 (i7 (ck j) (i7 (ck k) v8))) (hJ j k):=by
 intro G H σ ρ ρ' v d hl hs R h e;unfold hJ at e;split at e
 ·rename_i a b;cases e;rw[rep_tup]at h;obtain⟨p,xs,rfl,t,rl⟩:=h;obtain⟨x,q,rfl,rx,rl⟩:=rl.inv;obtain⟨y,q,rfl,ry,rl⟩:=rl.inv;have:=rl.inv0;subst this;have R2:=(R.set (j:=j) (by rw[hl];exact hj) rx).set (j:=k) (by rw[List.length_set,hl];exact hk) ry;exact⟨p,[x,y],rfl,(show TpS K H p _ from ⟨hs _ _ t.h⟩).sq,rfl,x,[y],rfl,y,[],rfl,rfl,rfl,R2⟩
 ·cases e
theorem l0 {K:W.Frag}{caps:List (Option Nat)}{i j:Nat}(hi:caps[i]?=some none)(hj:caps[j]?=some none):ke caps (v9 K 2 (i7 (ck i) (i7 (ck j) v8))):=fun x σ0 H Q q=>by
 obtain⟨a,xs,e1,sq,hl,v1,r1,e2,v2,r2,e3,e4,q⟩:=q;refine⟨a,xs,e1,sq,hl,v1,r1,e2,v2,r2,e3,e4,q,by simp,fun k m v hk hv=>?_⟩;have n1:k≠i:=fun z=>by rw[z,hi]at hk;cases hk
 have n2:k≠j:=fun z=>by rw[z,hj]at hk;cases hk
 rw[getElem?_set_ne (Ne.symm n2),getElem?_set_ne (Ne.symm n1)];exact hv
noncomputable def ot {α:Type}(asg:D→DS→Option DS)(ρ:DS)(f:DS→Res α)(d:D):Res α:=match asg d ρ with
 |some ρ'=>f ρ'
 |none=>.bad
noncomputable def aT (fi:DS→Res (List D))(caps:List (Option Nat))(asg:D→DS→Option DS)(ft:DS→Res Bool)(fe:DS→Res D):DS→Res D:=fun ρ=>(fi ρ).bind fun ds=>if aM ds.length=true then
 (bA (ot asg (eA caps ρ) ft) (ot asg (eA caps ρ) fe) ds).bind fun es=>.ok (.lst es) else .bad
theorem lx {t:D→Res Bool}{f:D→Res D}{c:Addr}:∀(l:List D),bA t f l≠ .exc c
 | []=>fun z=>by unfold bA at z;cases z
 |a::as=>fun z=>by
  unfold bA at z;split at z
  ·split at z
   ·cases q:bA t f as with
    |bad=>rw[q]at z;cases z
    |ok x=>rw[q]at z;cases z
    |exc c'=>rw[q]at z;have z':Res.exc c'=Res.exc c:=z;cases z';exact lx as q
   ·cases z
  ·exact lx as z
  ·cases z
theorem ii {t:D→Res Bool}{f:D→Res D}{d:D}{o:List D}(hd:bA t f [d]= .ok o):∀{as es:List D},bA t f as= .ok es→bA t f (as ++ [d])= .ok (es ++ o)
 | [],es,h=>by unfold bA at h;cases h;exact hd
 |a::as,es,h=>by
  rw[List.cons_append];unfold bA at h ⊢;split at h
  ·rename_i ha;split at h
   ·rename_i e0 hf;cases q:bA t f as with
    |bad=>rw[q]at h;cases h
    |exc c=>rw[q]at h;cases h
    |ok e2=>
     rw[q]at h;have h':Res.ok (e0::e2)=Res.ok es:=h;cases h';rw[ii hd q];rfl
   ·cases h
  ·exact ii hd h
  ·cases h
section
variable{X:Cx}{E:XK}{n:Nat}
theorem mI {K:W.Frag}{caps:List (Option Nat)}{g:TG}{asg:D→DS→Option DS}{fi:DS→Res (List D)}{ft:DS→Res Bool}{fe:DS→Res D}(hg:GC K caps.length g asg)(hgm:∀x σ H (Q Q':St→Hp→Prop),(∀σ' H',Q σ' H'→Q' σ' H')→g x σ H Q→g x σ H Q') :
  TN K E (n+1) (aT fi caps asg ft fe) (za (tDI K E fi) caps g (tDT K oz ft) (tN K oz n fe)):=by
 intro σ G H h Q hs hro ho k;refine⟨G,h,hs,hro,ho.fst,fun V e J G1 H1 x1 src=>?_⟩;have kk:=ho.snd e x1.hh;by_cases hl:aM V.length=true
 ·rw[if_pos hl]at kk;cases hm:bA (ot asg (eA caps h) ft) (ot asg (eA caps h) fe) V with
  |bad=>rw[hm]at kk;exact kk.elim
  |exc c=>exact absurd hm (lx V)
  |ok es=>
   have hres:aT fi caps asg ft fe h= .ok (.lst es):=am e (by rw[if_pos hl];exact am hm rfl);refine⟨fun i m ys H2=>m=V.length-i∧i≤V.length∧∃L u S,Ext G1 H1 L H2∧bA (ot asg (eA caps h) ft) (ot asg (eA caps h) fe) (V.take i)= .ok u∧AllW (Ow K L H2 n) u ys S∧New H1 L S,
    ⟨_,rfl,zero_le _,G1,[],[],.refl x1.gh,rfl,⟨rfl,rfl⟩,.nil⟩,?_⟩
   intro i m ys H2 hZ22;obtain⟨rfl,hi,L,u,S,x2,w,I,w1⟩:=hZ22;have hlen:ys.length≤sizeLine:=by
    have h1:=ly w;rw[length_take]at h1;have h2:=bu hl;rw[←I.length];omega
   obtain⟨sg,ss⟩:=src L H2 x2.gg x2.gh i;by_cases hlt:i<V.length
   ·obtain⟨go,yl⟩:=sg V[i] (by simp[hlt]);have j:V=V.take i ++ (V[i]::V.drop (i+1)):=by rw[List.getElem_cons_drop,List.take_append_drop]
    refine .inr ⟨go,fun ys' H'=>∃L u S,Ext G1 H1 L H'∧bA (ot asg (eA caps h) ft) (ot asg (eA caps h) fe) (V.take (i+1))= .ok u∧AllW (Ow K L H' n) u ys' S∧New H1 L S,fun ys' H' hZ152=>(by obtain⟨G3,es3,S3,a,b,c,d⟩:=hZ152;exact⟨V.length-(i+1),by omega,rfl,hlt,G3,es3,S3,a,b,c,d⟩),fun x H' hy=>?_⟩;obtain⟨G3,x3,rx⟩:=yl x H' hy;have htk:V.take (i+1)=V.take i ++ [V[i]]:=by rw[List.take_add_one];simp[hlt]
    have hm2:=hm;rw[j]at hm2;obtain⟨ea,eb,q1,C,q3⟩:=lv hm2;rw[w]at q1;cases q1;have hcl:(fw caps σ).length=caps.length:=by simp[fw]
    unfold bA at C;have ht0:∃b,ot asg (eA caps h) ft V[i]= .ok b:=by
     cases F:ot asg (eA caps h) ft V[i] with
     |bad=>rw[F]at C;cases C
     |exc c=>rw[F]at C;cases C
     |ok b=>exact⟨b,rfl⟩
    obtain⟨b,F⟩:=ht0;rw[F]at C;cases qa:asg V[i] (eA caps h) with
    |none=>unfold ot at F;rw[qa]at F;cases F
    |some B=>
    have ht2:ft B= .ok b:=by unfold ot at F;rw[qa]at F;exact F
    refine hgm _ _ _ _ _ (fun σ2 H3 hZ153=>?_) (hg G3 H' _ _ B x V[i] hcl x3.gh (zx (hro.mono ((x1.gg.trans x2.gg).trans x3.gg))) rx qa);obtain⟨e3,ro3⟩:=hZ153;subst e3;refine⟨G3,B,x3.gh,ro3,by rw[ht2];trivial,fun b' eb' G4 H4 x4=>?_⟩;rw[ht2]at eb';cases eb';have x24:=(x2.trans x3).trans x4;have M:=x3.trans x4;have N:AllW (Ow K G4 H4 n) u ys S:=I.mono fun d v A _ _ z=>z.mono M.gg fun a _ o eo=>M.hh a o eo;have w4:New H1 G4 S:=w1.step I.has M;cases b with
    |false=>
     rw[if_neg Bool.false_ne_true];refine⟨G4,u,S,x24,?_,N,w4⟩;rw[htk];have:=ii (t:=ot asg (eA caps h) ft) (f:=ot asg (eA caps h) fe) (d:=V[i]) (o:=[]) (by unfold bA;rw[F];rfl) w;rw[append_nil]at this;exact this
    |true=>
     rw[if_pos rfl];dsimp only at C;have fe2:ot asg (eA caps h) fe V[i]=fe B:=by unfold ot;rw[qa]
     refine⟨hlen,G4,B,x4.gh,ro3.mono x4.gg,?_,fun y ey v G5 H5 S5 x5 ry w5=>?_⟩
     ·rw[fe2]at C;cases hf:fe B with
      |ok y=>trivial
      |exc c=>rw[hf]at C;cases C
      |bad=>rw[hf]at C;cases C
     ·refine⟨G5,u ++ [y],S ++ S5,x24.trans x5,?_,(N.mono fun d v A _ _ z=>z.mono x5.gg fun a _ o eo=>x5.hh a o eo).append (.one ry),(w4.step N.has x5).join w5 N.has (x2.hh.trans M.hh)⟩;rw[htk];exact ii (by unfold bA;rw[F,fe2,ey];rfl) w
   ·have hie:i=V.length:=by omega
    subst hie;rw[List.take_length,hm]at w;cases w;refine .inl ⟨ss (le_refl _),hlen,fun p hp=>?_⟩;have x12:=x1.trans x2;refine k _ hres (.ref p) L _ (p::S) (x12.hnew hp _) ⟨p,ys,S,rfl,aq,rfl,I.mono fun d v A _ hA z=>z.mono (.refl _) fun a ha o eo=>by rw[ak (az eo hp)];exact eo⟩ ⟨nodup_cons.mpr ⟨fun z=>?_,w1.1⟩,fun a ha=>?_⟩
    ·obtain⟨o,ho,_⟩:=I.has p z;rw[hp]at ho;cases ho
    ·rcases mem_cons.mp ha with z|z
     ·subst z;exact⟨x12.hh.free hp,by
       cases q:L a with
       |none=>rfl
       |some o=>rw[x2.gh a o q]at hp;cases hp⟩
     ·exact⟨x1.hh.free (w1.2 a z).1,(w1.2 a z).2⟩
 ·rw[if_neg hl]at kk;exact kk.elim
theorem u6 {j:Nat}:∀x σ H (Q Q':St→Hp→Prop),(∀σ' H',Q σ' H'→Q' σ' H')→ck j x σ H Q→ck j x σ H Q':=fun _ _ _ _ _ k h=>k _ _ h
theorem xO {K:W.Frag}{j i:Nat}:∀x σ H (Q Q':St→Hp→Prop),(∀σ' H',Q σ' H'→Q' σ' H')→v9 K 2 (i7 (ck j) (i7 (ck i) v8)) x σ H Q→v9 K 2 (i7 (ck j) (i7 (ck i) v8)) x σ H Q':=fun _ _ _ _ _ k h=>by
 obtain⟨a,xs,e1,sq,hl,v1,r1,e2,v2,r2,e3,e4,q⟩:=h;exact⟨a,xs,e1,sq,hl,v1,r1,e2,v2,r2,e3,e4,k _ _ q⟩
theorem bI {elt iter:Expr}{ifs:List Expr}{x:Str}{px pos:Pos}{scope:Scope}{N:List Str}{caps:List (Option Nat)}{j:Nat}{fi:DS→Res (List D)}{ft:DS→Res Bool}{fe:DS→Res D}(hc:X.calm=true)(S:CompSc X scope N caps)(hjN:N[j]?=some x)(hjc:caps[j]?=some none)(hjl:tj scope x)
  (hi:PI X (.Name x px) iter (tDI X.K E fi)) (ht:∀s H C ex,vJ (X.comp s H scope C N ex) oz ifs ft) (he:∀s H C ex,PN (X.comp s H scope C N ex) oz n elt fe)
  (hs:∀x,foldedSetIterable iter X.env x=pure x:=by intro _;rfl):PN X E (n+1) (.ListComp elt [⟨.Name x px,iter,ifs,0⟩] scope pos) (aT fi caps (bt j) ft fe):=
 have hlb:=cX (env:=X.env) hjl
 .tn (vm (pos:=pos) (te:=tN X.K oz n fe) (tc:=tDT X.K oz ft) hc S hi (fun s H C ex=>eV (X:=X.comp s H scope C N ex) (i:=j) S.nd hjN hlb.1 hlb.2) (kO hjc) (fun s H C ex=>ht s H C ex) (fun s H C ex=>yu (he s H C ex)) hs)
  (mI (u4 (gz hjc).1) u6)
theorem sC {elt iter:Expr}{ifs:List Expr}{x y:Str}{px py pt pos:Pos}{kt:Nat}{scope:Scope}{N:List Str}{caps:List (Option Nat)}{j l:Nat}{fi:DS→Res (List D)}{ft:DS→Res Bool}{fe:DS→Res D}(hc:X.calm=true)(S:CompSc X scope N caps)(hjN:N[j]?=some x)(hlN:N[l]?=some y)(hjc:caps[j]?=some none)(hlc:caps[l]?=some none)(hjl:tj scope x)(hll:tj scope y)
  (hi:PI X (.Tuple [.Name x px,.Name y py] kt pt) iter (tDI X.K E fi)) (ht:∀s H C ex,vJ (X.comp s H scope C N ex) oz ifs ft) (he:∀s H C ex,PN (X.comp s H scope C N ex) oz n elt fe)
  (hs:∀x,foldedSetIterable iter X.env x=pure x:=by intro _;rfl):PN X E (n+1) (.ListComp elt [⟨.Tuple [.Name x px,.Name y py] kt pt,iter,ifs,0⟩] scope pos) (aT fi caps (hJ j l) ft fe):=
 have hlb:=cX (env:=X.env) hjl;have hlb':=cX (env:=X.env) hll
 .tn (vm (pos:=pos) (te:=tN X.K oz n fe) (tc:=tDT X.K oz ft) hc S hi (fun s H C ex=>um (X:=X.comp s H scope C N ex) hc (gM (eV (X:=X.comp s H scope C N ex) (i:=j) S.nd hjN hlb.1 hlb.2) (gM (eV (X:=X.comp s H scope C N ex) (i:=l) S.nd hlN hlb'.1 hlb'.2) qM))) (l0 hjc hlc) (fun s H C ex=>ht s H C ex) (fun s H C ex=>yu (he s H C ex)) hs)
  (mI (xM (gz hjc).1 (gz hlc).1) xO)
theorem yJ {elt iter:Expr}{ifs:List Expr}{x y:Str}{px py pos spos:Pos}{scope:Scope}{N:List Str}{caps:List (Option Nat)}{i j:Nat}{fi:DS→Res (List D)}{ft:DS→Res Bool}{fe:DS→Res D}(hN:X.N.Nodup)(hi:X.N[i]?=some y)(hy:X.env.scope.names.lookup y=some .local)(hc:X.calm=true)(S:CompSc X scope N caps)(hjN:N[j]?=some x)(hjc:caps[j]?=some none)(hjl:tj scope x)
  (hit:PI X (.Name x px) iter (tDI X.K E fi)) (ht:∀s H C ex,vJ (X.comp s H scope C N ex) oz ifs ft) (he:∀s H C ex,PN (X.comp s H scope C N ex) oz n elt fe)
  (hsw:swapsWith (.ListComp elt [⟨.Name x px,iter,ifs,0⟩] scope pos) (some (.Name y py)) spos.line X.env=pure true:=by rfl)
  (hs:∀x,foldedSetIterable iter X.env x=pure x:=by intro _;rfl):∃te,PS X (.Assign [.Name y py] (.ListComp elt [⟨.Name x px,iter,ifs,0⟩] scope pos) spos) (uz te (ck i))∧TN X.K E (n+1) (aT fi caps (bt j) ft fe) te:=
 have hlb:=cX (env:=X.env) hjl
 ⟨_,nZ (pos:=pos) (py:=py) (spos:=spos) (te:=tN X.K oz n fe) (tc:=tDT X.K oz ft) hN hi hy hc S hit (fun s H C ex=>eV (X:=X.comp s H scope C N ex) (i:=j) S.nd hjN hlb.1 hlb.2) (kO hjc) (fun s H C ex=>ht s H C ex) (fun s H C ex=>yu (he s H C ex)) hsw hs,
  mI (u4 (gz hjc).1) u6⟩
theorem yI {elt iter:Expr}{ifs:List Expr}{x z y:Str}{px pz pt py pos spos:Pos}{kt:Nat}{scope:Scope}{N:List Str}{caps:List (Option Nat)}{i j l:Nat}{fi:DS→Res (List D)}{ft:DS→Res Bool}{fe:DS→Res D}(hN:X.N.Nodup)(hi:X.N[i]?=some y)(hy:X.env.scope.names.lookup y=some .local)(hc:X.calm=true)(S:CompSc X scope N caps)(hjN:N[j]?=some x)(hlN:N[l]?=some z)(hjc:caps[j]?=some none)(hlc:caps[l]?=some none)(hjl:tj scope x)(hll:tj scope z)
  (hit:PI X (.Tuple [.Name x px,.Name z pz] kt pt) iter (tDI X.K E fi)) (ht:∀s H C ex,vJ (X.comp s H scope C N ex) oz ifs ft) (he:∀s H C ex,PN (X.comp s H scope C N ex) oz n elt fe)
  (hsw:swapsWith (.ListComp elt [⟨.Tuple [.Name x px,.Name z pz] kt pt,iter,ifs,0⟩] scope pos) (some (.Name y py)) spos.line X.env=pure true:=by rfl)
  (hs:∀x,foldedSetIterable iter X.env x=pure x:=by intro _;rfl):∃te,PS X (.Assign [.Name y py] (.ListComp elt [⟨.Tuple [.Name x px,.Name z pz] kt pt,iter,ifs,0⟩] scope pos) spos) (uz te (ck i))∧TN X.K E (n+1) (aT fi caps (hJ j l) ft fe) te:=
 have hlb:=cX (env:=X.env) hjl;have hlb':=cX (env:=X.env) hll
 ⟨_,nZ (pos:=pos) (py:=py) (spos:=spos) (te:=tN X.K oz n fe) (tc:=tDT X.K oz ft) hN hi hy hc S hit (fun s H C ex=>um (X:=X.comp s H scope C N ex) hc (gM (eV (X:=X.comp s H scope C N ex) (i:=j) S.nd hjN hlb.1 hlb.2) (gM (eV (X:=X.comp s H scope C N ex) (i:=l) S.nd hlN hlb'.1 hlb'.2) qM))) (l0 hjc hlc) (fun s H C ex=>ht s H C ex) (fun s H C ex=>yu (he s H C ex)) hsw hs,
  mI (xM (gz hjc).1 (gz hlc).1) xO⟩
end
section
variable{K:W.Frag}{μ:List Nat}{Ge B G H:Hp}{σ:St}{ρ:DS}{fp:Nat→List Addr}{j n:Nat}
noncomputable def Bj (B G:Hp)(fp:Nat→List Addr)(S:List Addr):Prop:=∀b∈S,(G b=none∧B b=none)∧∀i,b∉fp i
theorem Rw.top {l:List D}(R:Rw K μ Ge B G H σ ρ fp)(hr:ρ[j]?=some (some (.lst l)))(hm:μ.getD j 0=n+1):∃a xs T,σ[j]?=some (some (.ref a))∧H a=some (.lst xs)∧fp j=a::T∧AllW (Ow K G H n) l xs T:=by
 obtain⟨v,hv,o⟩:=R.sl j _ hr;rw[hm]at o;obtain⟨a,xs,T,e1,e2,e3,h⟩:=o;subst e1;exact⟨a,xs,T,hv,e2,e3,h⟩
theorem Rw.relist {l':List D}{a:Addr}{ys:List V}{T T':List Addr}(R:Rw K μ Ge B G H σ ρ fp)(hm:μ.getD j 0=n+1)(hv:σ[j]?=some (some (.ref a)))(hf:fp j=a::T)(o:AllW (Ow K G (a9 H a (.lst ys)) n) l' ys T')(nd:T'.Nodup)(hT:∀b∈T',b∈T∨((G b=none∧B b=none)∧∀i,b∉fp i)):Rw K μ Ge B G (a9 H a (.lst ys)) σ (ρ.set j (some (.lst l'))) (fun i=>if i=j then a::T' else fp i):=by
 have hnd:=R.nd j;rw[hf]at hnd;have haT:a∉T:=(nodup_cons.mp hnd).1;have C:a∈fp j:=by rw[hf];exact mem_cons_self ..
 have inT:∀b∈T,b∈fp j:=fun b hb=>by rw[hf];exact eB hb
 refine R.write C hv (by rw[hm];exact⟨a,ys,T',rfl,aq,rfl,o⟩) (nodup_cons.mpr ⟨fun z=>?_,nd⟩) (fun b hb=>?_) fun i hi b hb hbi=>?_
 ·rcases hT a z with y|y
  ·exact haT y
  ·exact y.2 j C
 ·rcases mem_cons.mp hb with z|z
  ·subst z;exact⟨R.gf j _ C,R.ob j _ C⟩
  ·rcases hT b z with y|y
   ·exact⟨R.gf j _ (inT b y),R.ob j _ (inT b y)⟩
   ·exact y.1
 ·rcases mem_cons.mp hb with z|z
  ·subst z;exact hi (R.dj i j _ hbi C)
  ·rcases hT b z with y|y
   ·exact hi (R.dj i j _ hbi (inT b y))
   ·exact y.2 i hbi
theorem Rw.app1 {l:List D}{d:D}{v:V}{S T:List Addr}{a:Addr}{xs:List V}(R:Rw K μ Ge B G H σ ρ fp)(hm:μ.getD j 0=n+1)(hv:σ[j]?=some (some (.ref a)))(hH:H a=some (.lst xs))(hf:fp j=a::T)(h:AllW (Ow K G H n) l xs T)(o:Ow K G H n d v S)(nd:S.Nodup)(hS:Bj B G fp S):Rw K μ Ge B G (a9 H a (.lst (xs ++ [v]))) σ (ρ.set j (some (.lst (l ++ [d])))) (fun i=>if i=j then a::(T ++ S) else fp i):=by
 have hnd:=R.nd j;rw[hf]at hnd;have haj:a∈fp j:=by rw[hf];exact mem_cons_self ..
 have inT:∀b∈T,b∈fp j:=fun b p=>by rw[hf];exact eB p
 have neT:∀b,b∈T→b≠a:=fun b p z=>(nodup_cons.mp hnd).1 (z ▸ p);have neS:∀b,b∈S→b≠a:=fun b p z=>(hS b p).2 j (z ▸ haj);have o1:AllW (Ow K G (a9 H a (.lst (xs ++ [v]))) n) l xs T:=h.mono fun d v A _ hA z=>z.mono (.refl _) fun b p u e=>by
  rw[ak (neT b (hA b p))];exact e
 have o2:Ow K G (a9 H a (.lst (xs ++ [v]))) n d v S:=o.mono (.refl _) fun b p u e=>by
  rw[ak (neS b p)];exact e
 exact R.relist hm hv hf (o1.append (.one o2)) (nodup_append.mpr ⟨(nodup_cons.mp hnd).2,nd,fun b p c hc e=>by subst e;exact(hS b hc).2 j (inT b p)⟩) fun b p=>(mem_append.mp p).imp id (hS b)
theorem pI {A A' L R:List Addr}(h:(L ++ A ++ R).Nodup)(nd:A'.Nodup)(hA:∀b∈A',b∈A∨(b∉L∧b∉R)):(L ++ A' ++ R).Nodup:=by
 obtain⟨h1,h2,h3⟩:=nodup_append.mp h;obtain⟨h4,h5,h6⟩:=nodup_append.mp h1;refine nodup_append.mpr ⟨nodup_append.mpr ⟨h4,nd,fun a ha b hb e=>?_⟩,h2,fun a ha b hb e=>?_⟩
 ·subst e
  rcases hA a hb with z|z
  ·exact h6 a ha a z rfl
  ·exact z.1 ha
 ·subst e
  rcases mem_append.mp ha with z|z
  ·exact h3 a (mem_append_left _ z) a hb rfl
  ·rcases hA a z with y|y
   ·exact h3 a (mem_append_right _ y) a hb rfl
   ·exact y.2 hb
theorem Rw.freshOf {H0 G0:Hp}{S:List Addr}(R:Rw K μ Ge B G H σ ρ fp)(w:New H0 G S)(R0:Rw K μ Ge B G0 H0 σ ρ fp):Bj B G fp S:=fun b hb=>⟨⟨(w.2 b hb).2,R0.bh.free (w.2 b hb).1⟩,fun i=>R0.apart w i b hb⟩
end
section
variable{X:Cx}{E:XK}{μ:List Nat}{r n:Nat}
noncomputable def kg (j:Nat)(f:DS→Res D):DS→Out:=fun ρ=>match ρ[j]? with
 |some (some (.lst l))=>(f ρ).out fun d=>if aM l.length=true then .nx (ρ.set j (some (.lst (l ++ [d])))) else .bad
 |_=>.bad
theorem jb {m:Nat}(h:aM m=true):m<sizeLine:=by
 have h6:sizeLine=16777216:=sizeLine_eq;have h7:m≤100000:=of_decide_eq_true h;omega
theorem lI {j:Nat}{x:Str}{e:Expr}{px apos cpos pos:Pos}{f:DS→Res D}(hm:μ.getD j 0=n+1)(hN:X.N[j]?=some x)(hv:uJ X.env.scope x)(h:PZ X E μ n e f)
  (hd:(x==("__debug__" :Str))=false:=by decide) (hcd:(x==("__classdict__" :Str))=false:=by decide)
  (hs:starEach [e] X.env=(false,eval e X.env)::starEach [] X.env:=by rfl)
  (hbase:attributeBase (.Name x px) "append" X.env (eval (.Name x px) X.env)=eval (.Name x px) X.env:=by rfl)
  (hfew:((backTo cpos (starEach [e] X.env)).all (fun x=> !x.1)&&(backToKw cpos (keywordEach [] X.env)).all (fun x=>x.1.isSome)&&decide (([e].length+([]:List Keyword).length+if ([]:List Keyword).isEmpty=true then 0 else 1)<30))=true:=by rfl)
  (hline:(apos.endLine==cpos.line)=true:=by rfl)
  (hsw:swapsWith (.Call (.Attribute (.Name x px) "append" apos) [e] [] cpos) none pos.line X.env=pure false:=by rfl) :
  l9 X E μ r (.Expr (.Call (.Attribute (.Name x px) "append" apos) [e] [] cpos) pos) (kg j f):=by
 intro pins s σ Ge B G H ρ fp I R ho;have hp:=nT (apos:=apos) (cpos:=cpos) (r:=eW) PySem.F.plainAttrs_list PySem.F.slot_list_append PySem.F.type_list_append (show zj X "list.append" eW from jC) (fH (pos:=px) hN hv hd hcd) (bH (uk h) dq hs) hbase hfew hline hs rfl;have hslot:∃l,ρ[j]?=some (some (.lst l)):=by
  unfold kg at ho;split at ho
  ·rename_i l q;exact⟨l,q⟩
  ·exact ho.elim
 obtain⟨l,hr⟩:=hslot;have eo:kg j f ρ=(f ρ).out fun d=>if aM l.length=true then .nx (ρ.set j (some (.lst (l ++ [d])))) else .bad:=by
  unfold kg;rw[hr]
 rw[eo]at ho ⊢;obtain⟨a,xs,T,h1,h2,h3,h4⟩:=R.top hr hm;refine aW (iu hp hsw pins s σ H {nx:=fun σ' H'=>∃d v G1 H1 S,f ρ= .ok d∧aM l.length=true∧σ'=σ∧Rw X.K μ Ge B G1 H1 σ ρ fp∧Same G G1∧Same H H1∧Ow X.K G1 H1 n d v S∧New H G1 S∧H'=a9 H1 a (.lst (xs ++ [v])),bk:=fun _ _=>False,ct:=fun _ _=>False,rt:=fun _ _=>False} I ?_) fun fl s1 J=>?_
 ·refine⟨_,h1,.inl ⟨rfl,xs,.inl (.inl h2)⟩,Ge,B,G,ρ,fp,R,ho.res,fun d ed v G1 H1 S R1 sg sh o w=>?_⟩;have k:=ho.res2 ed (Same.refl B);by_cases hc:aM l.length=true
  ·exact⟨a,xs,v,rfl,rfl,sh _ _ h2,by rw[←h4.length];exact jb hc,d,v,G1,H1,S,ed,hc,rfl,R1,sg,sh,o,w,rfl⟩
  ·rw[if_neg hc]at k;exact k.elim
 ·cases fl with
  |next=>
   obtain⟨σ',H',I',d,v,G1,H1,S,q,hlk,e2,R1,sg,sh,o,w,e3⟩:=J;subst e2 e3;obtain⟨a2,xs2,T2,g1,g2,g3,g4⟩:=R1.top hr hm;rw[h1]at g1;cases g1;rw[sh _ _ h2]at g2;cases g2;refine⟨_,_,_,_,_,?_,I',R1.app1 hm h1 (sh _ _ h2) g3 g4 o w.1 (R1.freshOf w R),sg⟩;rw[b_ q,if_pos hlk]
  |brk=>obtain⟨_,_,_,J⟩:=J;exact J.elim
  |cont=>obtain⟨_,_,_,J⟩:=J;exact J.elim
  |ret u=>obtain⟨_,_,_,_,_,J⟩:=J;exact J.elim
theorem New.keep {H G1 H1 G3 H3:Hp}{fp:Nat→List Addr}{S:List Addr}(w:New H G1 S)(hc:∀a∈S,∃o,H1 a=some o∧¬oG o)(ha:∀i,∀a∈S,a∉fp i)(x:Ext (mJ fp G1 H1) H1 G3 H3):New H (lQ (oq fp) G3) S:=⟨w.1,fun a h=>⟨(w.2 a h).1,by
 cases q:lQ (oq fp) G3 a with
 |none=>rfl
 |some o=>
  obtain⟨q1,q2⟩:=i8 q
  rcases x.nw a o q2 with z|z
  ·rw[mK q1,(w.2 a h).2]at z;cases z
  ·obtain⟨o',h',hk⟩:=hc a h
   rcases z with z|z
   ·rw[z]at h';cases h'
   ·have h2:=x.gh a o q2;rw[x.hh a _ h']at h2;cases h2;exact(hk z).elim⟩⟩
end
section
variable{prog:Program}{w:World}{A:Around}{R:Result→Shared→Prop}{I S:Addr}{fp wr:List Addr}{n:Nat}{P:Nat→Value→Prop}{St:Nat→Heap→Prop}{C:Heap→Prop}
end
section
variable{prog:Program}{w:World}{A:Around}{E:Value→Shared→Prop}{s:Shared}
end
noncomputable def Dp:D→Option (List Int)
 |.tup l=>allInts l
 |_=>none
noncomputable def g0:List D→Option (List (List Int))
 | []=>some []
 |d::ds=>match Dp d,g0 ds with
  |some t,some ts=>some (t::ts)
  |_,_=>none
theorem mP:∀{l:List D} {ts:List (List Int)},g0 l=some ts→l=ts.map fun t=>.tup (t.map D.int)
 | [],ts,h=>by unfold g0 at h;cases h;rfl
 |d::ds,ts,h=>by
  unfold g0 at h;split at h
  ·rename_i t us e1 e2;cases h;rw[map_cons,←mP e2];unfold Dp at e1;split at e1
   ·rename_i l;rw[fj e1]
   ·cases e1
  ·cases h
theorem lO:∀(ts:List (List Int)),g0 (ts.map fun t=>.tup (t.map D.int))=some ts
 | []=>rfl
 |t::ts=>by
  rw[map_cons];unfold g0;rw[lO ts];unfold Dp;dsimp only;rw[d9]
section
variable{X:Cx}{E:XK}
noncomputable def xb (K:W.Frag)(H:Hp)(vs:List V)(ts:List (List Int)):Prop:=vs.length=ts.length∧∀(i:Nat) (v:V) (t:List Int),vs[i]?=some v→ts[i]?=some t→∃a,v= .ref a∧mj K H a (t.map V.int)
theorem wS {K:W.Frag}{G H:Hp}(hs:Same G H):∀{ts:List (List Int)} {vs:List V},RepL K G (ts.map fun t=>.tup (t.map D.int)) vs→xb K H vs ts:=by
 intro ts vs rl;refine⟨by rw[←rl.length,length_map],fun i v t hv ht=>?_⟩;obtain⟨w,hw,rw'⟩:=rl.get (i:=i) (d:=.tup (t.map D.int)) (by rw[getElem?_map,ht];rfl);rw[hv]at hw;cases hw;rw[rep_tup]at rw';obtain⟨a,xs,rfl,sq,rl2⟩:=rw';rw[rl2.ints]at sq;exact⟨a,rfl,hs.seqT sq.sq⟩
end
noncomputable def oa {α:Type}(n:Nat)(lt:Nat→Nat→Bool):W.KasT α→Option α
 |.ret a=>some a
 |.ask i j k=>if i<n∧j<n then oa n lt (k (lt i j)) else none
theorem r_ {α:Type}{cmp:Nat→Nat→(Bool→Shared→Prop)→Shared→Prop}{n:Nat}{lt:Nat→Nat→Bool}{s:Shared}(hc:∀i j (Q:Bool→Shared→Prop),i<n→j<n→Q (lt i j) s→cmp i j Q s):∀(t:W.KasT α) (p:α) (Q:α→Shared→Prop),oa n lt t=some p→Q p s→t.kasWp cmp Q s
 |.ret a,p,Q,h,q=>by unfold oa at h;cases h;exact q
 |.ask i j k,p,Q,h,q=>by
  unfold oa at h;split at h
  ·rename_i hb;exact hc i j _ hb.1 hb.2 (r_ hc (k (lt i j)) p Q h q)
  ·cases h
section
variable{prog:Program}{w:World}{A:Around}{E:Value→Shared→Prop}{s:Shared}
theorem sd {b fin:Bool}{Q:Bool→Shared→Prop}:∀{vs ws:List Value} {ns ms:List Int} (i:Nat),IntsAre vs ns→IntsAre ws ms→fin=decide (ns.length<ms.length)→Q (HT.iK ns ms) s→W.KatLex prog w A b fin Q (vs.zip ws) i s
 |_,_,_,_,i,.nil,.nil,hf,h=>by
  rw[HT.oJ]at h;rw[List.zip_nil_left];exact W.kat_nil (by rw[hf];exact h)
 |_,_,_,_,i,.nil,.cons n t h2,hf,h=>by
  rw[HT.nI]at h;rw[List.zip_nil_left];exact W.kat_nil (by rw[hf];simpa using h)
 |_,_,_,_,i,.cons n t h1,.nil,hf,h=>by
  rw[HT.nH]at h;rw[List.zip_nil_right];exact W.kat_nil (by rw[hf];simpa using h)
 |_,_,_,_,i,.cons n t h1,.cons m u h2,hf,h=>by
  rw[HT.tY]at h;rw[List.zip_cons_cons];refine W.kat_cons (wpAny_eqBool_int ?_);by_cases e:n=m
  ·rw[if_pos e]at h;have e':(n==m)=true:=by simp[e]
   rw[e'];exact W.kat_yes (sd (i+1) h1 h2 (by rw[hf];simp) h)
  ·rw[if_neg e]at h;have e':(n==m)=false:=beq_eq_false_iff_ne.mpr e;rw[e'];refine W.kat_no ?_;cases hb:(b&&i==0) with
   |true=>exact oneLt_int h
   |false=>exact W.kat_one _ _ (lt_int (by exact h))
theorem A7 {x y:Addr}{xs ys:Array Value}{ns ms:List Int}{b:Bool}{Q:Bool→Shared→Prop}(hx:IsTup s.heap x xs)(hy:IsTup s.heap y ys)(ix:IntsAre xs.toList ns)(iy:IntsAre ys.toList ms)(h:Q (HT.iK ns ms) s):wpAny (model prog w) A (keyLt' (tuples' b) (.ref x) (.ref y)) Q E s:=by
 obtain⟨ox,hox,_,n,dx⟩:=hx;obtain⟨oy,hoy,_,k,dy⟩:=hy;refine W.kat_lt hox dx hoy dy (sd 0 ix iy ?_ h);have h1:=ix.length;have h2:=iy.length;rw[length_toList]at h1 h2;rw[h1,h2]
noncomputable def TupsIn (h:Heap)(vs:List Value)(ts:List (List Int)):Prop:=vs.length=ts.length∧∀(i:Nat) (v:Value),vs[i]?=some v→∃b items,v= .ref b∧IsTup h b items∧IntsAre items.toList (ts.getD i [])∧ts.getD i []≠[]
theorem TupsIn.keep {h h':Heap}{vs:List Value}{ts:List (List Int)}(x:TupsIn h vs ts)(k:∀b o,h.get? b=some o→o.cls= .type "tuple" →h'.get? b=some o):TupsIn h' vs ts:=⟨x.1,fun i v hv=>by
 obtain⟨b,items,e,⟨o,ho,hc,hd⟩,r⟩:=x.2 i v hv;exact⟨b,items,e,⟨o,k b o ho hc,hc,hd⟩,r⟩⟩
theorem nC {h:Heap}:∀{vs:List Value} {ts:List (List Int)},TupsIn h vs ts→∃fs:List Value,W.KatTups h vs fs∧fs.length=vs.length∧∀v∈fs,∃n t,v= .int n t
 | [],ts,_=>⟨[],.nil,rfl,fun v hv=>nomatch hv⟩
 |v::vs,ts,x=>by
  obtain⟨t,E,rfl⟩:∃t E,ts=t::E:=by
   match ts,x.1 with
   | [],h=>simp at h
   |t::E,_=>exact⟨t,E,rfl⟩
  obtain⟨b,F,e,⟨o,ho,hc,nn,hd⟩,hi,hne⟩:=x.2 0 v rfl;have hi:IntsAre F.toList t:=hi;have hne:t≠[]:=hne;obtain⟨fs,h1,h2,h3⟩:=nC (vs:=vs) (ts:=E) ⟨by have:=x.1;simpa using this,fun i u hu=>x.2 (i+1) u (by simpa using hu)⟩;subst e;cases q:F.toList with
  |nil=>rw[q]at hi;cases hi;exact absurd rfl hne
  |cons f r=>
   rw[q]at hi;cases hi with
   |cons n tk hi'=>
    refine⟨.int n tk::fs,.cons ho hc hd ?_ h1,by simp[h2],fun u hu=>?_⟩
    ·rw[←getElem?_toList,q];rfl
    ·rcases mem_cons.mp hu with z|z
     ·exact⟨n,tk,z⟩
     ·exact h3 u z
theorem oM {a:Addr}{vs:List Value}{n:Nat}{P:Fin→Shared→Prop}(ho:s.heap.get? a=some (seqObj "list" vs.toArray n))(h1:vs.length<2)(h:P (.done (.ret .none)) {s with heap:=sortedHeap s.heap a vs vs.toArray}):wpAny (model prog w) A (Builtin.«list.sort» ⟨[.ref a],[]⟩) P E s:=by
 rw[list_sort_plain];have ha:a<s.heap.objs.size:=Heap.lt_size ho;refine wpAny_bind (listItems_at ho rfl ?_);refine wpAny_bind (listUpdate_at ho rfl ?_ (by rw[size_toArray,sizeLine_eq];omega) (zero_le _));obtain⟨e1,ho1⟩:∃e1,(s.heap.update a (Obj.mapSeq fun _=> #[])).get? a=some (seqObj "list" #[] e1):=⟨_,get?_update_seq ho (fun _=> #[])⟩;refine wpAny_bind (seqEpoch_at ho1 rfl ?_);refine wpAny_bind (wpAny_newTuple ?_ (by show vs.length≤_;rw[sizeLine_eq];omega));refine wpAny_bind (wpAny_newList ?_ (zero_le _));refine wpAny_holding ?_;have ho6:(((s.heap.update a (Obj.mapSeq fun _=> #[])).push (seqObj "tuple" vs.toArray 0)).push (seqObj "list" #[] 0)).get? a=some (seqObj "list" #[] e1):=Heap.get?_push_of_some _ (Heap.get?_push_of_some _ ho1);show wpAny (model prog w) A _ P E {s with heap:=((s.heap.update a (Obj.mapSeq fun _=> #[])).push (seqObj "tuple" vs.toArray 0)).push (seqObj "list" #[] 0)}
 dsimp only;have h2:vs.toArray.size<2:=by rw[size_toArray];exact h1
 rw[if_pos h2,if_pos h2];refine wpAny_bind (wpAny_pure ?_);rw[StateT.run_pure];refine wpAny_bind (wpAny_pure ?_);dsimp only;refine wpAny_bind (seqEpoch_at ho6 rfl ?_);have hz:(arrOf (SortSt.mk' general' (vs.toArray.zip vs.toArray) #[] 7 none)).map (·.2)=vs.toArray:=by
  show (vs.toArray.zip vs.toArray).map (·.2)=vs.toArray;apply Array.toList_inj.mp;simp[List.map_snd_zip]
 rw[hz];refine wpAny_bind (listUpdate_at ho6 rfl ?_ (zero_le _) (by rw[size_toArray,sizeLine_eq];omega));simp only[bne_self_eq_false,false_eq_true,if_false];exact wpAny_pure h
theorem nJ {a:Addr}{vs:List Value}{ts:List (List Int)}{n:Nat}{p:Array Nat}{P:Fin→Shared→Prop}(ho:s.heap.get? a=some (seqObj "list" vs.toArray n))(hT:TupsIn s.heap vs ts)(h2:2≤vs.length)(h64:vs.length<64)
  (hr:oa vs.length (fun i j=>HT.iK (ts.getD i []) (ts.getD j [])) (W.kas_sort vs.length)=some p) (h:P (.done (.ret .none)) {s with heap:=sortedHeap s.heap a vs (List.toArray (p.toList.map fun i=>vs.getD i Value.none))}) (hp:p.size=vs.length):wpAny (model prog w) A (Builtin.«list.sort» ⟨[.ref a],[]⟩) P E s:=by
 rw[list_sort_plain];have ha:a<s.heap.objs.size:=Heap.lt_size ho;refine wpAny_bind (listItems_at ho rfl ?_);refine wpAny_bind (listUpdate_at ho rfl ?_ (by rw[size_toArray,sizeLine_eq];omega) (zero_le _));obtain⟨e1,ho1⟩:∃e1,(s.heap.update a (Obj.mapSeq fun _=> #[])).get? a=some (seqObj "list" #[] e1):=⟨_,get?_update_seq ho (fun _=> #[])⟩;refine wpAny_bind (seqEpoch_at ho1 rfl ?_);refine wpAny_bind (wpAny_newTuple ?_ (by show vs.length≤_;rw[sizeLine_eq];omega));refine wpAny_bind (wpAny_newList ?_ (zero_le _));refine wpAny_holding ?_;have ho6:(((s.heap.update a (Obj.mapSeq fun _=> #[])).push (seqObj "tuple" vs.toArray 0)).push (seqObj "list" #[] 0)).get? a=some (seqObj "list" #[] e1):=Heap.get?_push_of_some _ (Heap.get?_push_of_some _ ho1);show wpAny (model prog w) A _ P E {s with heap:=((s.heap.update a (Obj.mapSeq fun _=> #[])).push (seqObj "tuple" vs.toArray 0)).push (seqObj "list" #[] 0)}
 dsimp only;have hn2:¬vs.toArray.size<2:=by rw[size_toArray];omega
 rw[if_neg hn2,if_neg hn2];have hT2:TupsIn (((s.heap.update a (Obj.mapSeq fun _=> #[])).push (seqObj "tuple" vs.toArray 0)).push (seqObj "list" #[] 0)) vs ts:=hT.keep fun b o e hc=>by
  have hb:b≠a:=fun z=>by rw[z,ho]at e;cases e;injection hc with hc;exact absurd hc (by decide)
  exact Heap.get?_push_of_some _ (Heap.get?_push_of_some _ ((Heap.get?_update_other _ _ (Ne.symm hb)).trans e))
 obtain⟨fs,k1,k2,k3⟩:=nC hT2;refine wpAny_bind (W.kat_kind (T:=.type "int") (s:={s with heap:=((s.heap.update a (Obj.mapSeq fun _=> #[])).push (seqObj "tuple" vs.toArray 0)).push (seqObj "list" #[] 0)}) k1 (by omega) (fun v hv=>?_) rfl ?_)
 ·obtain⟨m,t,rfl⟩:=k3 v hv;exact W.Looks.of_pure rfl
 ·refine wpAny_bind (wpAny_mono (W.kat_run (s:={s with heap:=((s.heap.update a (Obj.mapSeq fun _=> #[])).push (seqObj "tuple" vs.toArray 0)).push (seqObj "list" #[] 0)}) (Q:=fun H s'=>arrOf H=p.map (W.kas_item (vs.toArray.zip vs.toArray))∧failedOf H=none∧s'={s with heap:=((s.heap.update a (Obj.mapSeq fun _=> #[])).push (seqObj "tuple" vs.toArray 0)).push (seqObj "list" #[] 0)})
   (G:=fun p' s'=>p'=p∧s'={s with heap:=((s.heap.update a (Obj.mapSeq fun _=> #[])).push (seqObj "tuple" vs.toArray 0)).push (seqObj "list" #[] 0)}) rfl h2 h64 (fun p' H s' a1 a2 a3 a4=>⟨by rw[a2,a4.1],a3,a4.2⟩) (r_ (fun i j Q hi hj hQ=>?_) _ p _ hr ⟨rfl,rfl⟩)) ?_ fun _ _ e=>e)
  ·obtain⟨b,ib,e1',p1,n1,_⟩:=hT2.2 i vs[i] (iN hi);obtain⟨c,ic,e2',p2,n2,_⟩:=hT2.2 j vs[j] (iN hj);unfold W.kas_ask;have g1:vs.getD i Value.none= .ref b:=by simp[hi,e1']
   have g2:vs.getD j Value.none= .ref c:=by simp[hj,e2']
   rw[g1,g2];exact A7 p1 p2 n1 n2 hQ
  ·rintro⟨⟨⟩,H⟩ s' ⟨har,hf,rfl⟩;dsimp only;refine wpAny_bind (seqEpoch_at ho6 rfl ?_);have hout:=W.kat_snds (vs:=vs) rfl har;rw[hout];refine wpAny_bind (listUpdate_at ho6 rfl ?_ (zero_le _) (by rw[size_toArray,length_map,length_toList,hp,sizeLine_eq];omega));rw[hf];simp only[bne_self_eq_false,false_eq_true,if_false];exact wpAny_pure h
theorem pR {l:Addr}{vs:List Value}{out:Array Value}{Q:Value→Shared→Prop}(hl:s.heap.IsList l vs.toArray)(hn:vs.length<64)
  (hsort:∀(s':Shared) (P:Fin→Shared→Prop) (E':Value→Shared→Prop) (A':Around) (a:Addr),(∀b o,s.heap.get? b=some o→s'.heap.get? b=some o)→s'.heap.get? a=some (seqObj "list" vs.toArray 0)→P (.done (.ret .none)) {s' with heap:=sortedHeap s'.heap a vs out}→wpAny (model prog w) A' (Builtin.«list.sort» ⟨[.ref a],[]⟩) P E' s')
  (h:Q (.ref (s.heap.objs.size+1)) {s with heap:=sortedAll s.heap vs out}):wpAny (model prog w) A (call (.builtin "sorted") [.ref l]) Q E s:=by
 refine Calls.call_function_entry kind_sorted plain_sorted entry_sorted (args_sorted1 _) ?_;unfold Builtin.«sorted»;refine wpAny_bind (m:=checkCount "sorted" 1 1 _) (wpAny_pure ?_);refine wpAny_bind (collect_list hl ?_ (by rw[sizeLine_eq];omega));refine wpAny_bind (wpAny_newList ?_ (by rw[sizeLine_eq];omega));have hsz:((s.heap.push (seqObj "list" #[] 0)).update s.heap.objs.size (Obj.mapSeq (· ++ vs.toArray))).objs.size=s.heap.objs.size+1:=by
  rw[Heap.size_update,size_push']
 have hoL:(((s.heap.push (seqObj "list" #[] 0)).update s.heap.objs.size (Obj.mapSeq (· ++ vs.toArray))).push (seqObj "list" vs.toArray 0)).get? (s.heap.objs.size+1)=some (seqObj "list" vs.toArray 0):=by
  rw[←hsz];exact Heap.get?_push_size _ rfl
 show wpAny _ _ _ _ _ {s with heap:=((s.heap.push (seqObj "list" #[] 0)).update s.heap.objs.size (Obj.mapSeq (· ++ vs.toArray))).push (seqObj "list" vs.toArray 0)}
 rw[hsz];refine wpAny_bind (wpAny_holding (wpAny_call_entry slot_list_sort ⟨_,hoL,rfl⟩ entry_list_sort (hsort {s with heap:=((s.heap.push (seqObj "list" #[] 0)).update s.heap.objs.size (Obj.mapSeq (· ++ vs.toArray))).push (seqObj "list" vs.toArray 0)} _ _ _ _ (fun b o e=>?_) hoL ⟨_,rfl,?_⟩) (args_list_sort _)))
 ·have hlt:b<s.heap.objs.size:=Heap.lt_size e;exact Heap.get?_push_of_some _ ((Heap.get?_update_other _ _ (ne_of_gt hlt)).trans (Heap.get?_push_of_some _ e))
 ·exact wpAny_pure ⟨_,rfl,h⟩
end
noncomputable def iG:List D→Res D
 | [.lst l]=>if l.length<2 then .ok (.lst l) else (match g0 l with
  |some ts=>if (ts.all (fun t=> !t.isEmpty)&&decide (ts.length<64))=true then (match oa ts.length (fun i j=>HT.iK (ts.getD i []) (ts.getD j [])) (W.kas_sort ts.length) with
   |some p=>if p.size=ts.length∧(p.toList.all fun i=>decide (i<ts.length))=true then .ok (.lst (p.toList.map fun i=>.tup ((ts.getD i []).map D.int))) else .bad
   |none=>.bad) else .bad
  |none=>.bad)
 |_=>.bad
section
variable{X:Cx}{E:XK}
theorem jZ {pins:List (Addr×Obj)}{σ:St}{H:Hp}{s:Shared}{vs:List Value}{out:List Value}{ys:List V}{Q:VK}(I:Inv X pins σ H s)(rv:Vals ys out)(hz:ys.length≤sizeLine)(q:∀p,H p=none→Q (.ref p) (a9 H p (.lst ys))):EP X pins σ Q (.ref (s.heap.objs.size+1)) {s with heap:=sortedAll s.heap vs out.toArray}:=by
 obtain⟨e,he⟩:=sortedAll_at s.heap vs out.toArray;have hn:=I.hok.fresh (le_succ s.heap.objs.size);refine⟨.ref (s.heap.objs.size+1),_,I.laid (o:=.lst ys) (t':=s.toks) (fun b o q=>sortedAll_old q) (le_succ _) ⟨hz,out,e,rv,he⟩,rfl,q _ hn⟩
theorem tH:d7 X (.builtin "sorted") (fun xs H Q=>∃p vs,xs=[.ref p]∧gB X.K H p vs∧((vs.length<2∧∀l,H l=none→Q (.ref l) (a9 H l (.lst vs)))∨
  ∃ts pr,xb X.K H vs ts∧(∀t∈ts,t≠[])∧2≤ts.length∧ts.length<64∧oa ts.length (fun i j=>HT.iK (ts.getD i []) (ts.getD j [])) (W.kas_sort ts.length)=some pr∧pr.size=ts.length∧(∀i∈pr.toList,i<ts.length)∧∀l,H l=none→Q (.ref l) (a9 H l (.lst (pr.toList.map fun i=>vs.getD i .non))))):=by
 intro pins s σ H xs us Q I r h;obtain⟨p,vs,rfl,sq,h⟩:=h;obtain⟨u,rfl,ru⟩:=jm r;cases (show u= .ref p from ru);obtain⟨A,rv,pl,hz⟩:=I.list sq;have hil:=rv.length
 rcases h with ⟨hlt,q⟩|⟨ts,pr,⟨hlen,htup⟩,hne,h2,h64,hr,hps,hin,q⟩
 ·exact pR pl.isList (by omega) (fun s' P E' A' a _ ho h=>oM ho (by omega) h) (jZ I rv hz q)
 ·have hit:A.length=ts.length:=by omega
  have T:TupsIn s.heap A ts:=⟨hit,fun i u hu=>by
   have hi:i<A.length:=(gz hu).1;have hi':i<ts.length:=by omega
   have J:i<vs.length:=by omega
   obtain⟨u',M,L⟩:=rv.get (iN J);rw[hu]at M;cases M;obtain⟨a,ea,sqa⟩:=htup i vs[i] ts[i] (iN J) (iN hi');rw[ea]at L;cases L;obtain⟨its2,r2,p2,_⟩:=I.tuple sqa;have:ts.getD i []=ts[i]:=by rw[getD_eq_getElem?_getD,iN hi'];rfl
   rw[this];exact⟨a,its2.toArray,rfl,p2,jY r2,hne _ (getElem_mem hi')⟩⟩
  have rv2:Vals (pr.toList.map fun i=>vs.getD i .non) (pr.toList.map fun i=>A.getD i Value.none):=by
   have go:∀(l:List Nat),(∀i∈l,i<ts.length)→Vals (l.map fun i=>vs.getD i .non) (l.map fun i=>A.getD i Value.none):=by
    intro l
    induction l with
    |nil=>intro _;exact .nil
    |cons i l ih=>
     intro hl;have hi:=hl i (mem_cons_self ..);have J:i<vs.length:=by omega
     obtain⟨u',M,L⟩:=rv.get (iN J);refine .cons ?_ (ih fun j hj=>hl j (eB hj));have e1:vs.getD i .non=vs[i]:=by rw[getD_eq_getElem?_getD,iN J];rfl
     have e2:A.getD i Value.none=u':=by rw[getD_eq_getElem?_getD,M];rfl
     show RelV (vs.getD i .non) (A.getD i Value.none);rw[e1,e2];exact L
   exact go _ hin
  refine pR pl.isList (by omega) (fun s' P E' A' a k ho h=>nJ (p:=pr) (ts:=ts) ho (T.keep fun b o e _=>k b o e) (by omega) (by omega) (by rw[hit];exact hr) h (by omega)) (jZ I rv2 (by rw[length_map,length_toList,hps];have:=sizeLine_eq;omega) q)
theorem yF {e:Expr}{p pos:Pos}{f:DS→Res D}(hm:X.mg "sorted" =none)(h:PD X E e f)(hg:Gl X "sorted" :=by rfl)(he:starEach [e] X.env=(false,eval e X.env)::starEach [] X.env:=by rfl):PN X E 1 (.Call (.Name "sorted" p) [e] [] pos) (fun ρ=>(f ρ).bind fun a=>iG [a]):=by
 have hpd:lm X E [e] (fun ρ=>(f ρ).bind fun d=>.ok [d]):=aa h af he;refine .tn (nV (x:= "sorted") (p:=p) (pos:=pos) tH hg hm boot_sorted (im hpd) (by decide) (by decide) he rfl) fun σ G H ρ Q hs hro ho k=>⟨G,ρ,hs,hro,?_,fun ds e1 vs G1 H1 x1 p1=>?_⟩
 ·have ho:=ho.fst;show OkR E H ((f ρ).bind fun d=>.ok [d]);cases q:f ρ with
  |ok d=>trivial
  |exc c=>rw[q]at ho;exact ho
  |bad=>rw[q]at ho;exact ho
 ·have ed:∃d,f ρ= .ok d∧ds=[d]:=by
   have e1:((f ρ).bind fun d=>(.ok [d]:Res (List D)))= .ok ds:=e1;cases q:f ρ with
   |ok d=>rw[q]at e1;cases e1;exact⟨d,rfl,rfl⟩
   |exc c=>rw[q]at e1;cases e1
   |bad=>rw[q]at e1;cases e1
  obtain⟨d,ed,rfl⟩:=ed;have L:=ho.snd ed x1.hh;have e0:((f ρ).bind fun a=>iG [a])=iG [d]:=by rw[ed];rfl
  obtain⟨v,r,rfl,rx,r0⟩:=p1.inv;rw[r0.inv0];unfold iG at L;split at L
  ·rename_i l hd;cases hd;rw[rep_lst]at rx;obtain⟨q,xs,rfl,sq,rx⟩:=rx;refine⟨q,xs,rfl,x1.gh.seq sq.sq,?_⟩;by_cases hl:l.length<2
   ·refine .inl ⟨by rw[←rx.length];exact hl,fun m hm=>?_⟩;obtain⟨x,o,w⟩:=il x1 hm rx;exact k _ (e0.trans (if_pos hl)) _ _ _ _ x o w
   ·rw[if_neg hl]at L;split at L
    ·rename_i ts qt;have el:=mP qt;split at L
     ·rename_i hc;split at L
      ·rename_i pr hrun;split at L
       ·rename_i hp;rw[and_eq_true]at hc;have hlen:l.length=ts.length:=by rw[el,length_map]
        have hin:∀i∈pr.toList,i<ts.length:=fun i hi=>of_decide_eq_true (all_eq_true.mp hp.2 i hi);refine .inr ⟨ts,pr,wS x1.gh (by rw[←el];exact rx),fun t ht=>?_,by omega,of_decide_eq_true hc.2,hrun,hp.1,hin,fun m hm=>?_⟩
        ·have:=all_eq_true.mp hc.1 t ht;intro z;rw[z]at this;cases this
        ·have rl:RepL X.K G1 (pr.toList.map fun i=>.tup ((ts.getD i []).map D.int)) (pr.toList.map fun i=>xs.getD i .non):=by
          have go:∀(m:List Nat),(∀i∈m,i<ts.length)→RepL X.K G1 (m.map fun i=>.tup ((ts.getD i []).map D.int)) (m.map fun i=>xs.getD i .non):=by
           intro m
           induction m with
           |nil=>intro _;exact .nil
           |cons i m ih=>
            intro hm;have hi:=hm i (mem_cons_self ..);obtain⟨v,hv,rv⟩:=rx.get (i:=i) (d:=.tup ((ts.getD i []).map D.int)) (by
             rw[el,getElem?_map,iN hi,getD_eq_getElem?_getD,iN hi];rfl)
            refine .cons ?_ (ih fun j hj=>hm j (eB hj));have e2:xs.getD i .non=v:=by rw[getD_eq_getElem?_getD,hv];rfl
            show Rep X.K G1 _ (xs.getD i .non);rw[e2];exact rv
          exact go _ hin
         obtain⟨x,o,w⟩:=il x1 hm rl;refine k _ (e0.trans ?_) _ _ _ _ x o w;show (if l.length<2 then _ else _)=_
         rw[if_neg hl,qt];dsimp only;rw[if_pos (by rw[and_eq_true];exact hc),hrun];exact if_pos hp
       ·exact L.elim
      ·exact L.elim
     ·exact L.elim
    ·exact L.elim
  ·exact L.elim
end
section
variable{X:Cx}{E:XK}{μ:List Nat}{r n:Nat}
noncomputable def Fo (K:W.Frag)(te tk:TE):TE:=fun σ H Q=>te σ H fun x H1=>tk σ H1 fun k H2=>k= .int (-1)∧∃a xs,x= .ref a∧gB K H2 a xs∧∀p,H2 p=none→Q (.ref p) (a9 H2 p (.lst xs.reverse))
theorem C9 {e st:Expr}{te tk:TE}{p2 pos:Pos}(he:PE X e te)(hk:PE X st tk):PE X (.Subscript e (.Slice none none (some st) p2) pos) (Fo X.K te tk):=by
 intro u s σ H Q I h;refine Subscript_ (aW (he u s σ H _ I h) fun v s1 hZ154=>?_);obtain⟨x,H1,I1,r1,q1⟩:=hZ154;refine wpAny_Slice ?_;rw[evalPart_none,evalPart_some];refine wpAny_pure (wpAny_pure (aW (hk u s1 σ H1 _ I1 q1) fun vk s3 hZ155=>?_));obtain⟨k,H3,I3,rk,ek,a,xs,ea,sq,q3⟩:=hZ155;subst ek ea;cases r1;obtain⟨t,rfl⟩:=rk;have I4:Inv X u σ H3 {s3 with heap:=s3.heap.push {cls:=.type "slice",data:=.fields #[.none,.none,.int (-1) t]}}:=I3.kept (t':=s3.toks) fun b ob q=>Heap.get?_push_of_some _ q
 obtain⟨its,rv,pl,hz⟩:=I4.list sq;show wpAny (model X.prog X.w) X.A (subscriptTail e (.Slice none none (some st) p2) (.ref a) (.ref s3.heap.objs.size)) (EP X u σ Q) X.xe {s3 with heap:=s3.heap.push {cls:=.type "slice",data:=.fields #[.none,.none,.int (-1) t]}}
 refine tail_any (ops:=[.ref a,.ref s3.heap.objs.size]) pl.isList.typeIs slot_list_getitem.lookup ?_ (by with_unfolding_all rfl);refine wpAny_getItem_list_slice (vs:=.int (-1) t) (st:=some (-1)) pl.isList (Heap.IsSliceOf.new ..) .none .none (.int _ _) (by decide) ?_ (by rw[size_toArray];have:=rv.length;omega);rw[W.krv_pick];have hn:=I4.hok.fresh (le_refl _);have rr:Vals xs.reverse its.reverse:=by
  have go:∀{xs:List V} {us:List Value},Vals xs us→Vals xs.reverse us.reverse:=by
   intro xs
   induction xs with
   |nil=>intro us h;cases h;exact .nil
   |cons x xs ih=>
    intro us h;cases h with
    |cons r rr=>
     rw[reverse_cons,reverse_cons];exact(ih rr).append (.cons r .nil)
  exact go rv
 refine⟨.ref _,_,I4.laid (t':=s3.toks) (o:=.lst xs.reverse) (fun b ob q=>Heap.get?_push_of_some _ q) (le_refl _) ?_,rfl,q3 _ hn⟩;exact⟨by rw[length_reverse];exact hz,its.reverse,0,rr,Heap.get?_push_size _ rfl⟩
noncomputable def sM:D→D→Res D
 |.lst l,.int k=>if k= -1 then .ok (.lst l.reverse) else .bad
 |_,_=>.bad
theorem Dg {e st:Expr}{f g:DS→Res D}{p2 pos:Pos}(he:PD X E e f)(hk:PD X E st g):PN X E 1 (.Subscript e (.Slice none none (some st) p2) pos) (ae f g sM):=by
 refine .tn (C9 (pos:=pos) (p2:=p2) (du he) (du hk)) fun σ G H ρ Q hs hro ho k=>⟨G,ρ,hs,hro,ho.fst,fun d e1 v G1 H1 x1 p1=>⟨G1,ρ,x1.gh,hro.mono x1.gg,(ho.snd e1 x1.hh).fst,fun d2 e2 v2 G2 H2 x2 p2=>?_⟩⟩;have kk:=(ho.snd e1 x1.hh).snd e2 x2.hh;have e0:ae f g sM ρ=sM d d2:=by unfold ae;rw[e1,av,e2,av]
 unfold sM at kk;split at kk
 ·rename_i l kv;split at kk
  ·rename_i hk1;subst hk1;rw[rep_lst]at p1;rw[rep_int]at p2;obtain⟨a,xs,rfl,sq,rl⟩:=p1;refine⟨p2,a,xs,rfl,x2.hh.seq (x1.gh.seq sq.sq),fun p hp=>?_⟩;obtain⟨x,o,w⟩:=il (x1.trans x2) hp (rl.mono x2.gg).reverse;exact k _ (by rw[e0];unfold sM;exact if_pos rfl) _ _ _ _ x o w
  ·exact kk.elim
 ·exact kk.elim
noncomputable def Do:D→Res Bool
 |.lst l=>.ok (!l.isEmpty)
 |.bl b=>.ok b
 |_=>.bad
theorem qK {e:Expr}{f:DS→Res D}(h:PD X E e f)(he:∀whole,isTrue e X.env whole=(do let v ←whole;standAt e.pos;holding [v] (truthy v)):=by intro _;rfl):tm X E e (fun ρ=>(f ρ).bind Do):=by
 intro pins s σ G H ρ I hs hro ho;refine isTrue_plain (aW (h pins s σ G H ρ I hs hro ho.fst) fun v s1 hZ156=>?_) (he _);obtain⟨d,e,v3,G3,H3,I3,r3,x3,p3⟩:=hZ156;have k:=ho.snd e (Same.refl H);cases d with
 |bl b=>
  rw[rep_bl]at p3;subst p3;cases r3;exact wpAny_truthy_bool ⟨am e rfl,G3,H3,I3,x3⟩
 |lst l=>
  rw[rep_lst]at p3;obtain⟨a,xs,rfl,sq,rl⟩:=p3;cases r3;obtain⟨its,rv,pl,hz⟩:=I3.list (x3.gh.seq sq.sq);refine wpAny_truthy_list pl.isList (by rw[size_toArray,←rv.length];have:=sizeLine_eq;omega) ⟨am e ?_,G3,H3,I3.tok _,x3⟩;show Res.ok (!l.isEmpty)= .ok _;have h1:=rl.length;have h2:=rv.length;cases l with
  |nil=>
   cases its with
   |nil=>rfl
   |cons _ _=>simp at h1;rw[←h1]at h2;simp at h2
  |cons _ _=>
   cases its with
   |nil=>rw[←h1]at h2;simp at h2
   |cons _ _=>rfl
 |_=>exact k.elim
theorem cK {st:Stmt}:l9 X E μ r st (fun _=>.bad):=fun _ _ _ _ _ _ _ _ _ _ _ ho=>ho.elim
end
noncomputable def iJ (n:Nat)(N:List Str)(F:DS→Out):List D→Res D:=fun ds=>if ds.length=n then fG (F (aK N ds)) else .bad
section
variable{P:Program}{w:World}{K:W.Frag}{mg:Str→Option Value}{base:Heap}
structure Cal (P:Program)(w:World)(K:W.Frag)(mg:Str→Option Value)(base:Heap)(x:Str)(k:Nat)(ps:List Str)(sp:Sp):Prop where
 ex:∃f fd,FnOk P w K mg base (CXF P w) k f fd ps sp∧Binds K fd ps []∧mg x=some (.ref f)∧W.keepIn K (.ref f)=true
structure Sta (K:W.Frag)(mg:Str→Option Value)(x:Str)(st:Stmt)(ps:List Str):Prop where
 ex:∃f fd,Fun K x x st f fd∧Binds K fd ps []∧mg x=some (.ref f)∧W.keepIn K (.ref f)=true
theorem Sta.cal {x:Str}{st:Stmt}{N ps:List Str}{k r n:Nat}{F:DS→Out}(S:Sta K mg x st ps)(sc:FnScope N ps (aj st))(μ:List Nat)(hμ:∀i,i<ps.length→μ.getD i 0=0)(hn:ps.length=n)
  (hbody:∀(f:Addr) (cdv:Value) (A:Around) (outer:List Env) (s:Shared) (H:Hp) (E:XK),Room k (A.deeper (envOfC x (aj st) s.heap.objs.size f cdv))→
   tu (w9 P w K mg base N x (aj st) f cdv A outer s H E) E μ r (cN st) F):Cal P w K mg base x (k+1) ps (freshSp K r (iJ n N F)):=by
 obtain⟨f,fd,hf,hb,hm,hk⟩:=S.ex;refine⟨f,fd,hf.fresh sc μ hμ (fun ds h=>?_) (fun cdv A outer s H E hr=>⟨F,hbody f cdv A outer s H E hr,fun ds h=>?_⟩),hb,hm,hk⟩
 ·unfold iJ at h;split at h
  ·rename_i e;rw[e,hn]
  ·exact absurd rfl h
 ·unfold iJ at h ⊢;split at h
  ·rename_i e;rw[if_pos e]
  ·exact absurd rfl h
end
section
variable{X:Cx}{E:XK}{n:Nat}
theorem jg {k j:Nat}{ps:List Str}{m:List D→Res D}{x:Str}{p pos:Pos}{e:Expr}{es:List Expr}{fs:DS→Res (List D)}(C:Cal X.prog X.w X.K X.mg X.base x k ps (freshSp X.K n m))(hr:Room j X.A)
  (ha:lm X E (e::es) fs) (hx:cQ (CXF X.prog X.w) X E:=by exact iW fun _ _ _ h=>h) (hkj:k≤j:=by decide) (hg:Gl X x:=by rfl) (hdb:(x==("__debug__" :Str))=false:=by decide) (he:starEach (e::es) X.env=(false,eval e X.env)::starEach es X.env:=by rfl) (hpl:(backTo pos (starEach es X.env)).any (·.1)=false:=by rfl) :
  PN X E n (.Call (.Name x p) (e::es) [] pos) (bf fs m):=by
 obtain⟨f,fd,F,hb,hm,hk⟩:=C.ex;exact AL F (hr.mono hkj) hg hm hk hb hx ha hdb he hpl
theorem aN {k j:Nat}{ps:List Str}{m:List D→Res D}{x:Str}{p pos:Pos}{e:Expr}{es:List Expr}{fs:DS→Res (List D)}(C:Cal X.prog X.w X.K X.mg X.base x k ps (freshSp X.K n m))(hr:Room j X.A)
  (ha:lm X E (e::es) fs) (hx:cQ (CXF X.prog X.w) X E:=by exact iW fun _ _ _ h=>h) (hkj:k≤j:=by decide) (hg:Gl X x:=by rfl) (hdb:(x==("__debug__" :Str))=false:=by decide) (he:starEach (e::es) X.env=(false,eval e X.env)::starEach es X.env:=by rfl) (hpl:(backTo pos (starEach es X.env)).any (·.1)=false:=by rfl) :
  PD X E (.Call (.Name x p) (e::es) [] pos) (bf fs m):=(jg C hr ha hx hkj hg hdb he hpl).pd
end
noncomputable def fv (so:Scope)(No:List Str)(scope:Scope):List Str→List (Option Nat)→Bool
 |x::N,some k::caps=>decide (scope.names.lookup x=some .free)&&decide (No[k]?=some x)&&(decide (so.names.lookup x=some .cell)||decide (so.names.lookup x=some .free))&&fv so No scope N caps
 |_::N,none::caps=>fv so No scope N caps
 | [],[]=>true
 |_,_=>false
theorem jW {so:Scope}{No:List Str}{scope:Scope}:∀{N:List Str} {caps:List (Option Nat)},fv so No scope N caps=true→caps.length=N.length
 | [],[],_=>rfl
 | [],_::_,h=>by unfold fv at h;cases h
 |_::_,[],h=>by unfold fv at h;cases h
 |x::N,none::caps,h=>by unfold fv at h;rw[length_cons,length_cons,jW h]
 |x::N,some k::caps,h=>by unfold fv at h;rw[and_eq_true]at h;rw[length_cons,length_cons,jW h.2]
theorem jt {so:Scope}{No:List Str}{scope:Scope}:∀{N:List Str} {caps:List (Option Nat)} {j k:Nat} {x:Str},fv so No scope N caps=true→caps[j]?=some (some k)→N[j]?=some x→scope.names.lookup x=some .free∧No[k]?=some x∧(so.names.lookup x=some .cell∨so.names.lookup x=some .free)
 | [],[],j,k,x,_,h1,h2=>by simp at h1
 | [],_::_,j,k,x,h,h1,h2=>by simp at h2
 |_::_,[],j,k,x,h,h1,h2=>by simp at h1
 |y::N,none::caps,j,k,x,h,h1,h2=>by
  unfold fv at h;cases j with
  |zero=>simp at h1
  |succ j=>exact jt h (by simpa using h1) (by simpa using h2)
 |y::N,some k0::caps,j,k,x,h,h1,h2=>by
  unfold fv at h;rw[and_eq_true,and_eq_true,and_eq_true,or_eq_true]at h;obtain⟨⟨⟨a,b⟩,c⟩,d⟩:=h;cases j with
  |zero=>
   simp at h1 h2;subst h1 h2;exact⟨of_decide_eq_true a,of_decide_eq_true b,c.imp of_decide_eq_true of_decide_eq_true⟩
  |succ j=>exact jt d (by simpa using h1) (by simpa using h2)
noncomputable def qf (so:Scope)(No:List Str)(scope:Scope)(N:List Str)(caps:List (Option Nat)):Bool:=
 decide (scope.kind= .function)&&scope.names.all (fun y=>decide (scope.names.lookup y.1=some y.2))&&
  scope.names.all (fun y=>decide (y.2≠ .free)||(decide (so.names.lookup y.1=some .cell)||decide (so.names.lookup y.1=some .free)))&&decide N.Nodup&&fv so No scope N caps
theorem a7 {X:Cx}{scope:Scope}{N:List Str}{caps:List (Option Nat)}(so:Scope)(No:List Str)(hso:X.env.scope=so)(hNo:X.N=No)(chk:qf so No scope N caps=true):CompSc X scope N caps:=by
 unfold qf at chk;simp only[and_eq_true]at chk;obtain⟨⟨⟨⟨a,b⟩,d⟩,e⟩,f⟩:=chk;have b2:∀(y:Str×NameKind) {k:NameKind},y∈scope.names→y.2=k→scope.names.lookup y.1=some k:=fun y k L C=>by rw[←C];exact of_decide_eq_true (all_eq_true.mp b y L)
 refine⟨of_decide_eq_true a,fun y L C=>b2 y L C,fun y L C=>b2 y L C,fun y L C=>b2 y L C,fun y L C=>?_,of_decide_eq_true e,jW f,fun j k x h1 h2=>(jt f h1 h2).1,fun j k x h1 h2=>?_⟩
 ·have:=all_eq_true.mp d y L;rw[or_eq_true,or_eq_true]at this;rw[hso]
  rcases this with z|z|z
  ·exact absurd C (of_decide_eq_true z)
  ·exact .inl (of_decide_eq_true z)
  ·exact .inr (of_decide_eq_true z)
 ·obtain⟨_,h3,h4⟩:=jt f h1 h2;rw[hso,hNo];exact⟨h3,h4⟩
noncomputable abbrev pN:DS→Res (List D):=fun _=>.ok []
noncomputable abbrev pC (f:DS→Res D)(g:DS→Res (List D)):DS→Res (List D):=fun ρ=>(f ρ).bind fun d=>(g ρ).bind fun ds=>.ok (d::ds)
noncomputable abbrev kI (i:Int):DS→Res D:=fun _=>.ok (.int i)
noncomputable abbrev kB (b:Bool):DS→Res D:=fun _=>.ok (.bl b)
noncomputable abbrev kS (x:Str):DS→Res D:=fun _=>.ok (.str x)
noncomputable abbrev kN:DS→Res D:=fun _=>.ok .non
noncomputable abbrev c1 (f:DS→Res D)(m:List D→Res D):DS→Res D:=fun ρ=>(f ρ).bind fun a=>m [a]
theorem rF {X:Cx}{s:Shared}{H:Hp}{so:Scope}{C:Addr}{No:List Str}{ex:List Addr}{scope:Scope}{N:List Str}{caps:List (Option Nat)}(chk:qf so No scope N caps=true):CompSc (X.comp s H so C No ex) scope N caps:=by
 have S:CompSc {X with env:={X.env with scope:=so},N:=No} scope N caps:=a7 so No rfl rfl chk
 have up:∀{x:Str},so.names.lookup x=some .cell∨so.names.lookup x=some .free→(relabel so X.env).names.lookup x=some .cell∨(relabel so X.env).names.lookup x=some .free:=fun h=>h.elim (fun z=>.inl (iz z)) fun z=>iA z;exact⟨S.kind,S.freek,S.cellk,S.names,fun y hy hk=>up (S.free y hy hk),S.nd,S.len,S.capf,fun j k x h1 h2=>⟨(S.cap j k x h1 h2).1,up (S.cap j k x h1 h2).2⟩⟩
section
variable{X:Cx}{E:XK}{μ:List Nat}{r n:Nat}
theorem Dc {st:Stmt}{i:Nat}{x:Str}{f:DS→Res D}(h:∃te,PS X st (uz te (ck i))∧TN X.K E n f te)(hi:X.N[i]?=some x)(hm:μ.getD i 0=0):l9 X E μ r st (aJ i (bJ μ f)):=
 let ⟨_,h1,h2⟩:=h;AK hi h1 h2.freeze hm
theorem BH {st:Stmt}{i:Nat}{x:Str}{f:DS→Res D}(h:∃te,PS X st (uz te (ck i))∧TN X.K E n f te)(hi:X.N[i]?=some x):l9 X E [] r st (aJ i f):=by
 have:=Dc (μ:=[]) (r:=r) h hi rfl;unfold bJ at this;simp only[kA]at this;exact this
noncomputable abbrev sL (f:DS→Res D):DS→Res (List D):=fun ρ=>(f ρ).bind A4
noncomputable abbrev sT (f:DS→Res D):DS→Res (List D):=fun ρ=>(f ρ).bind Dq
noncomputable abbrev sR1 (fs:DS→Res (List D)):DS→Res (List D):=fun ρ=>(fs ρ).bind sN
noncomputable abbrev sR2 (fs:DS→Res (List D)):DS→Res (List D):=fun ρ=>(fs ρ).bind ur
noncomputable abbrev sE (fs:DS→Res (List D)):DS→Res (List D):=fun ρ=>(fs ρ).bind rL
noncomputable abbrev sZ (fs:DS→Res (List D)):DS→Res (List D):=fun ρ=>(fs ρ).bind uF
noncomputable abbrev oI (f:DS→Res D):DS→Res (Option Int):=fun ρ=>(f ρ).bind EU
noncomputable abbrev oN:DS→Res (Option Int):=fun _=>.ok none
noncomputable abbrev tR (f:DS→Res D):DS→Res Bool:=fun ρ=>(f ρ).bind Do
noncomputable abbrev nG (f:DS→Res D):DS→Res D:=fun ρ=>(f ρ).bind CS
noncomputable abbrev yes:DS→Res Bool:=fun _=>.ok true
noncomputable abbrev bad1:DS→Out:=fun _=>.bad
noncomputable abbrev nxt:DS→Out:=fun ρ=>.nx ρ
noncomputable abbrev Dx (f:DS→Res D):DS→Res (List D):=fun ρ=>(f ρ).bind fun d=>.ok [d]
end
structure CalM (P:Program)(w:World)(K:W.Frag)(mg:Str→Option Value)(base:Heap)(C:Addr)(m:Str)(k:Nat)(g:List D→Res D):Prop where
 cl:Cls K C
 ex:∃f fd,Meth K C m f∧FnOk P w K mg base (CXF P w) k f fd ["self"] (pureSp K g)∧Binds K fd ["self"] []
structure CalI (P:Program)(w:World)(K:W.Frag)(mg:Str→Option Value)(base:Heap)(x:Str)(C:Addr)(k:Nat)(ps:List Str)(m:List D→Res D):Prop where
 of:BP C m
 mgx:mg x=some (.ref C)
 ex:∃f fd,Mk K C f∧FnOk P w K mg base (CXF P w) k f fd ps (qv K C m)∧Binds K fd ps []
section
variable{X:Cx}{E:XK}
theorem vj {pl:Sem Bool}{k j:Nat}{C:Addr}{g:List D→Res D}{m:Str}{apos pos:Pos}{o:Expr}{fo:DS→Res D}(M:CalM X.prog X.w X.K X.mg X.base C m k g)(hr:Room j X.A)(hoo:PD X E o fo)
  (hx:cQ (CXF X.prog X.w) X E:=by exact iW fun _ _ _ h=>h) (hkj:k≤j:=by decide)
  (ht:eval (.Call (.Attribute o m apos) [] [] pos) X.env=(do
   let ov ←eval o X.env
   standAt apos.atName
   let (f,first) ←holding [ov] (getMethod ov m pl)
   callWith pos f first (backTo pos (starEach [] X.env)) (backToKw pos (keywordEach [] X.env))):=by rfl):PD X E (.Call (.Attribute o m apos) [] [] pos) (kM C m fo g):=by
 obtain⟨f,fd,hm,F,hb⟩:=M.ex;exact El hoo M.cl hm F (hr.mono hkj) hb hx ht
theorem Em {k j:Nat}{C:Addr}{ps:List Str}{m:List D→Res D}{x:Str}{p pos:Pos}{e:Expr}{es:List Expr}{fs:DS→Res (List D)}(M:CalI X.prog X.w X.K X.mg X.base x C k ps m)(hr:Room j X.A)(ha:lm X E (e::es) fs)
  (hx:cQ (CXF X.prog X.w) X E:=by exact iW fun _ _ _ h=>h) (hkj:k+1≤j:=by decide) (hg:Gl X x:=by rfl) (hdb:(x==("__debug__" :Str))=false:=by decide)
  (he:starEach (e::es) X.env=(false,eval e X.env)::starEach es X.env:=by rfl) (hpl:(backTo pos (starEach es X.env)).any (·.1)=false:=by rfl):PD X E (.Call (.Name x p) (e::es) [] pos) (bf fs m):=by
 obtain⟨f,fd,mk,F,hb⟩:=M.ex;exact Ay mk F M.of (hr.mono hkj) hg M.mgx hb hx ha fun t ht=>AC mk F (hr.mono hkj) hg M.mgx hb .nil hx ht hdb he hpl
end
theorem Bf {i:Nat}{ρ:DS}{c:Addr}:ac i ρ≠ .exc c:=by
 unfold ac;split <;> intro h <;> cases h
theorem lA {a b:D}{c:Addr}:aH a b≠ .exc c:=by
 unfold aH
 repeat' split
 all_goals (intro h;cases h)
section
variable{X:Cx}{E:XK}
end
noncomputable def vE (K:W.Frag):Sp:=fun vs H Q _=>∃(ad:Addr) (sc:List Int),vs=[.ref ad]∧sc.length≤63∧gB K H ad (sc.map V.int)∧∀H',Q (.bl true) H'
section
variable{P:Program}{w:World}{K:W.Frag}{mg:Str→Option Value}{base:Heap}{r:Nat}
theorem Av {k:Nat}{f:Addr}{fd:FuncData}{m:List D→Res D}(F:FnOk P w K mg base (CXF P w) k f fd ["script"] (freshSp K 0 m))(h:∀ns:List Int,ns.length≤63→m [.scr ns]= .ok (.bl true)):FnOk P w K mg base (CXF P w) k f fd ["script"] (vE K):=
 F.imp fun vs H Q E hZ157=>by
  obtain⟨ad,sc,e,hl,sq,q⟩:=hZ157;subst e;refine⟨[.scr sc],H,.refl _,.cons (by unfold Rep;exact⟨ad,rfl,sq⟩) .nil,by rw[h sc hl];trivial,fun d ed v G' H' S _ o _=>?_⟩;rw[h sc hl]at ed;cases ed;have o2:=o.2;rw[rep_bl]at o2;rw[o2];exact q H'
theorem Fun.freshM {x qual:Str}{st:Stmt}{f:Addr}{fd:FuncData}{N ps:List Str}{k n:Nat}{F:DS→Out}(Fn:Fun K x qual st f fd)(sc:FnScope N ps (aj st))(μ:List Nat)(hμ:∀i,i<ps.length→μ.getD i 0=0)(hn:ps.length=n)
  (hbody:∀(cdv:Value) (A:Around) (outer:List Env) (s:Shared) (H:Hp) (E:XK),Room k (A.deeper (envOfC qual (aj st) s.heap.objs.size f cdv))→
   tu (w9 P w K mg base N qual (aj st) f cdv A outer s H E) E μ r (cN st) F):FnOk P w K mg base (CXF P w) (k+1) f fd ps (freshSp K r (iJ n N F)):=by
 refine Fn.fresh sc μ hμ (fun ds h=>?_) (fun cdv A outer s H E hr=>⟨F,hbody cdv A outer s H E hr,fun ds h=>?_⟩)
 ·unfold iJ at h;split at h
  ·rename_i e;rw[e,hn]
  ·exact absurd rfl h
 ·unfold iJ at h ⊢;split at h
  ·rename_i e;rw[if_pos e]
  ·exact absurd rfl h
end
theorem kG {K:W.Frag}{t:Value}:W.kitOne K t t=some true:=by
 unfold W.kitOne;rw[if_pos (beq_iff_eq.mpr rfl)]
theorem u_ {K:W.Frag}{C D:Addr}{b:Bool}(hne:C≠D)(hc:(W.clsIn K D).isSome=true)(ht:W.typeIn K (.ref D)=some (.type "type"))(hm:W.mroIn K C (.ref D)=some b):W.kitOne K (.ref C) (.ref D)=some b:=by
 unfold W.kitOne;rw[if_neg (fun q=>hne (Value.ref.inj (beq_iff_eq.mp q)))];unfold W.kitCls;dsimp only;rw[if_pos (by rw[hc,ht];rfl)];exact hm
theorem CJ {K:W.Frag}{C:Addr}{T:String}{b:Bool}(hk:W.kitMeta T=true)(hm:W.mroIn K C (.type T)=some b):W.kitOne K (.ref C) (.type T)=some b:=by
 unfold W.kitOne;rw[if_neg (fun q=>by have:=beq_iff_eq.mp q;cases this)];unfold W.kitCls;dsimp only;rw[if_pos hk];exact hm
theorem CI {K:W.Frag}:W.kitOne K (.type "int") (.type "bool")=some false:=by
 unfold W.kitOne;rw[if_neg (by decide +kernel)];unfold W.kitCls;dsimp only;rw[if_pos (by decide +kernel)];show Option.map (fun x=>x.contains (Value.type "bool")) (fastBuiltinMro "int")=some false;decide +kernel
theorem Ab {K:W.Frag}{C D:Addr}(hb:W.mroIn K D (.type "BaseException")=some true)(hc:(W.clsIn K D).isSome=true)(ht:W.typeIn K (.ref D)=some (.type "type"))(hm:W.mroIn K C (.ref D)=some true):W.exmOne K (.ref C) (.ref D)=some true:=by
 unfold W.exmOne;have h1:W.subIn K (.ref D) (.type "BaseException")=some true:=hb;rw[if_pos (by rw[h1];rfl)];unfold W.kitCls;dsimp only;rw[if_pos (by rw[hc,ht];rfl)];exact hm
theorem vO {P:Program}{w:World}{H:Hp}{s:Shared}{e:Value}{s':Shared}(h:CXF P w [] H s (fun _ _ _=>False) e s'):False:=by
 obtain⟨_,_,_,_,_,_,_,_,_,_,_,_,_,_,q⟩:=h;exact q
theorem x7 (k:Nat){l:W.OpenLaw}{q:Program}{loose:List Str}{XP:(Str→Option Value)→Heap→Prop}{YP:World→Heap→Prop}{d:DefRec}{K:Params→W.Frag}(hr:Room k callerA)(hn:l.most=some 63)(hdf:d.params.defaults=[])
  (hY:∀(w:World) (h:Heap),YP w h→(K w.params).In h)
  (F:∀(w:World) (mg:Str→Option Value) (fa:Addr) (h:Heap),(K w.params).In h→h.Ns mainGlobals mg→mg d.name=some (.ref fa)→
   ∃fd:FuncData,(∀(s:Shared) (u:Value),BindsTo s fd ⟨[u],[]⟩ [("script",u)])∧∀base:Heap,(K w.params).In base→base.Ns mainGlobals mg→FnOk l.prog w (K w.params) mg base (CXF l.prog w) k fa fd ["script"] (vE (K w.params))) :
  W.WalkO q loose XP YP l.row.toRowW d [] (fun f vs=>PySem.call f vs):=
 Bg (n:=63) (k:=k) (x:= "script") (CX:=fun w=>CXF l.prog w) (sp:=fun w=>vE (K w.params)) hn (by decide) hdf hr hY F (fun _ _ a ns hl _ hS=>⟨a,ns,rfl,hl,hS,fun _=>rfl⟩) fun _ _ _ _ _ z=>vO z
end L2
namespace L2
open PySem
section
variable{α:Type}{ρ ρ' ρ1:DS}{μ:List Nat}{n j k m:Nat}{f fi':DS→Res D}{fc:DS→Res Bool}{F R:DS→Out}{fi:DS→Res (List D)}{asg:D→DS→Option DS}{o:Option D}{d e:D}{ds l row:List D}
theorem DP:bJ μ f ρ=f (iM μ ρ):=id rfl
theorem Cf:zk μ fi ρ=fi (iM μ ρ):=id rfl
theorem Bp:si n f ρ=(f ρ).bind fun d=>if bU n d=true then .ok d else .bad:=id rfl
theorem Cc:iM (0::μ) (o::ρ)=o::iM μ ρ:=by unfold iM;rw[List.mapIdx_cons];rfl
theorem Ce:iM ((n+1)::μ) (o::ρ)=none::iM μ ρ:=by unfold iM;rw[List.mapIdx_cons];rfl
theorem Cd:iM μ []=[]:=id rfl
theorem zH:fQ fi asg F ρ=(fi ρ).out fun ds=>d_ asg F ds ρ:=id rfl
theorem xB:d_ asg F [] ρ= .nx ρ:=id rfl
theorem uZ (h1:asg d ρ=some ρ1)(h2:F ρ1= .nx ρ'):d_ asg F (d::ds) ρ=d_ asg F ds ρ':=by
 conv=>lhs;unfold d_
 rw[h1];dsimp only;rw[h2]
theorem nA (I:List D→DS→Prop)(step:∀d ds ρ,I (d::ds) ρ→∃ρ1 ρ',asg d ρ=some ρ1∧F ρ1= .nx ρ'∧I ds ρ'):∀ds ρ,I ds ρ→∃ρ',d_ asg F ds ρ= .nx ρ'∧I [] ρ'
 | [],ρ,h=>⟨ρ,rfl,h⟩
 |d::ds,ρ,h=>by
  obtain⟨ρ1,ρ',h1,h2,h3⟩:=step d ds ρ h;obtain⟨ρ2,h4,h5⟩:=nA I step ds ρ' h3;exact⟨ρ2,(uZ h1 h2).trans h4,h5⟩
theorem rY {x:Res D}(I:List D→DS→Prop)(h:I ds ρ)(step:∀d ds ρ,I (d::ds) ρ→∃ρ1 ρ',asg d ρ=some ρ1∧F ρ1= .nx ρ'∧I ds ρ')(fin:∀ρ',I [] ρ'→fG (R ρ')=x):fG ((d_ asg F ds ρ).then R)=x:=by
 obtain⟨ρ',e,h'⟩:=nA I step ds ρ h;rw[e];exact fin ρ' h'
theorem v6 {P:D→Prop}(I:List D→DS→Prop)(h:I ds ρ)(step:∀d ds ρ,I (d::ds) ρ→∃ρ1 ρ',asg d ρ=some ρ1∧F ρ1= .nx ρ'∧I ds ρ')(fin:∀ρ',I [] ρ'→∃x,fG (R ρ')= .ok x∧P x):∃x,fG ((d_ asg F ds ρ).then R)= .ok x∧P x:=by
 obtain⟨ρ',e,h'⟩:=nA I step ds ρ h;rw[e];exact fin ρ' h'
theorem wn {l:List (List Int)}:bU 1 (.lst (l.map fun t=>.tup (t.map D.int)))=true:=by
 unfold bU;rw[all_eq_true];intro d hd;obtain⟨t,_,rfl⟩:=mem_map.mp hd;exact nz t
theorem rR {i:Int}:bU 0 (.int i)=true:=by unfold bU flat;rfl
theorem i6 {st:List α→DS→Prop}{c:α→D}:∀(xs pre:List α) (ρ:DS),st pre ρ→(∀pre' x post,pre ++ xs=pre' ++ x::post→∀ρ,st pre' ρ→∃ρ1,asg (c x) ρ=some ρ1∧∃ρ',F ρ1= .nx ρ'∧st (pre' ++ [x]) ρ')→∃ρ',d_ asg F (xs.map c) ρ= .nx ρ'∧st (pre ++ xs) ρ'
 | [],pre,ρ,h,_=>⟨ρ,rfl,by rw[append_nil];exact h⟩
 |x::xs,pre,ρ,h,step=>by
  obtain⟨ρ1,h1,ρ',h2,h3⟩:=step pre x xs rfl ρ h;obtain⟨ρ2,h4,h5⟩:=i6 xs (pre ++ [x]) ρ' h3 fun pre' y post e=>step pre' y post (by rw[←e,append_assoc];rfl);refine⟨ρ2,(uZ h1 h2).trans h4,?_⟩;rw[append_assoc]at h5;exact h5
theorem dz {x:Res D}{xs:List α}{c:α→D}(st:List α→DS→Prop)(h:st [] ρ)(step:∀pre y post,xs=pre ++ y::post→∀ρ,st pre ρ→∃ρ1,asg (c y) ρ=some ρ1∧∃ρ',F ρ1= .nx ρ'∧st (pre ++ [y]) ρ')(fin:∀ρ',st xs ρ'→fG (R ρ')=x):fG ((d_ asg F (xs.map c) ρ).then R)=x:=by
 obtain⟨ρ',e,h'⟩:=i6 (asg:=asg) (F:=F) (c:=c) xs [] ρ h step;rw[e];exact fin ρ' h'
theorem wH {P:DS→Prop}{xs:List α}{c:α→D}(st:List α→DS→Prop)(h:st [] ρ)(step:∀pre y post,xs=pre ++ y::post→∀ρ,st pre ρ→∃ρ1,asg (c y) ρ=some ρ1∧∃ρ',F ρ1= .nx ρ'∧st (pre ++ [y]) ρ')(fin:∀ρ',st xs ρ'→∃ρ'',R ρ'= .nx ρ''∧P ρ''):∃ρ'',(d_ asg F (xs.map c) ρ).then R= .nx ρ''∧P ρ'':=by
 obtain⟨ρ',e,h'⟩:=i6 (asg:=asg) (F:=F) (c:=c) xs [] ρ h step;rw[e];exact fin ρ' h'
theorem mE {P:DS→Prop}{xs:List α}{c:α→D}(st:List α→DS→Prop)(h:st [] ρ)(step:∀pre y post,xs=pre ++ y::post→∀ρ,st pre ρ→∃ρ1,asg (c y) ρ=some ρ1∧∃ρ',F ρ1= .nx ρ'∧st (pre ++ [y]) ρ')(fin:∀ρ',st xs ρ'→P ρ'):∃ρ'',d_ asg F (xs.map c) ρ= .nx ρ''∧P ρ'':=by
 obtain⟨ρ',e,h'⟩:=i6 (asg:=asg) (F:=F) (c:=c) xs [] ρ h step;exact⟨ρ',e,fin ρ' h'⟩
theorem fP (I:Nat→DS→Prop)(Dn:DS→Prop)(h:∀n ρ,I n ρ→(fc ρ= .ok false∧Dn ρ)∨(fc ρ= .ok true∧∃m ρ',n=m+1∧F ρ= .nx ρ'∧I m ρ')):∀(n k:Nat) (ρ:DS),n<k→I n ρ→∃ρ',bL fc F k ρ= .nx ρ'∧Dn ρ'
 |n,k+1,ρ,hk,hI=>by
  rcases h n ρ hI with ⟨h1,h2⟩|⟨h1,m,ρ',rfl,h2,h3⟩
  ·refine⟨ρ,?_,h2⟩
   conv=>lhs;unfold bL
   rw[h1];rfl
  ·obtain⟨ρ2,h4,h5⟩:=fP I Dn h m k ρ' (by omega) h3;refine⟨ρ2,?_,h5⟩;rw[←h4]
   conv=>lhs;unfold bL
   rw[h1,cz,if_pos rfl,h2]
theorem s_ {x:Res D}(I:Nat→DS→Prop)(Dn:DS→Prop)(n:Nat)(hn:n<k)(h0:I n ρ)(h:∀n ρ,I n ρ→(fc ρ= .ok false∧Dn ρ)∨(fc ρ= .ok true∧∃m ρ',n=m+1∧F ρ= .nx ρ'∧I m ρ'))(fin:∀ρ',Dn ρ'→fG (R ρ')=x):fG ((bL fc F k ρ).then R)=x:=by
 obtain⟨ρ',e,h'⟩:=fP I Dn h n k ρ hn h0;rw[e];exact fin ρ' h'
theorem pK {c:α→D}:∀(l:List α) (n:Nat),bY n (l.map c)=(l.zipIdx n).map fun q=>.tup [.int (q.2:Int),c q.1]
 | [],n=>rfl
 |x::l,n=>by
  rw[map_cons,List.zipIdx_cons,map_cons];unfold bY;rw[pK l (n+1)]
theorem jv {c:α→D}{l:List α}:rL [.lst (l.map c)]= .ok (l.zipIdx.map fun q=>.tup [.int (q.2:Int),c q.1]):=by
 unfold rL;dsimp only;rw[pK]
theorem vI {β:Type}{c:α→D}{c':β→D}:∀(l:List α) (l':List β),jL (l.map c) (l'.map c')=(l.zip l').map fun q=>.tup [c q.1,c' q.2]
 | [],_=>by unfold jL;rfl
 |_::_,[]=>by unfold jL;rfl
 |a::l,b::l'=>by
  rw[map_cons,map_cons,List.zip_cons_cons,map_cons];unfold jL;rw[vI l l']
theorem xF {β:Type}{c:α→D}{c':β→D}{l:List α}{l':List β}:uF [.lst (l.map c),.lst (l'.map c')]= .ok ((l.zip l').map fun q=>.tup [c q.1,c' q.2]):=by
 unfold uF;dsimp only;rw[vI]
theorem Be (h:ac j ρ= .ok d):ρ[j]?=some (some d):=by
 unfold ac at h;split at h
 ·rename_i x e;cases h;exact e
 ·cases h
theorem cI (h:n≤100000):aM n=true:=decide_eq_true h
theorem tM (h:ac j ρ= .ok (.lst l))(hf:f ρ= .ok d)(hl:l.length≤100000):kg j f ρ= .nx (ρ.set j (some (.lst (l ++ [d])))):=by
 unfold kg;rw[Be h];dsimp only;rw[hf,cz,if_pos (cI hl)]
theorem Aj (h:m<n):qy n (m:Int)=some m:=by
 unfold qy;rw[if_pos (by omega),if_pos (by omega)];simp
theorem dk {fe:DS→Res D}{ft:DS→Res Bool}{caps:List (Option Nat)}{xs:List α}{c:α→D}{p:α→Bool}{g:α→D}(hi:fi ρ= .ok (xs.map c))(hl:xs.length≤100000)
  (h:∀x∈xs,∃ρ',asg (c x) (eA caps ρ)=some ρ'∧ft ρ'= .ok (p x)∧(p x=true→fe ρ'= .ok (g x))):aT fi caps asg ft fe ρ= .ok (.lst ((xs.filter p).map g)):=by
 unfold aT;rw[hi,av,if_pos (cI (by rw[length_map];exact hl))];have go:∀ys:List α,(∀x∈ys,∃ρ',asg (c x) (eA caps ρ)=some ρ'∧ft ρ'= .ok (p x)∧(p x=true→fe ρ'= .ok (g x)))→
   bA (ot asg (eA caps ρ) ft) (ot asg (eA caps ρ) fe) (ys.map c)= .ok ((ys.filter p).map g):=by
  intro ys
  induction ys with
  |nil=>intro _;rfl
  |cons y ys ih=>
   intro h;obtain⟨ρ',h1,h2,h3⟩:=h y (mem_cons_self ..);have ih:=ih fun x hx=>h x (eB hx);rw[map_cons];unfold bA;have e1:ot asg (eA caps ρ) ft (c y)= .ok (p y):=by unfold ot;rw[h1];exact h2
   rw[e1];cases q:p y with
   |true=>
    dsimp only;have e2:ot asg (eA caps ρ) fe (c y)= .ok (g y):=by unfold ot;rw[h1];exact h3 q
    rw[e2];dsimp only;rw[ih,av,List.filter_cons_of_pos q];rfl
   |false=>
    dsimp only;rw[ih,List.filter_cons_of_neg (by rw[q];exact Bool.false_ne_true)]
 rw[go xs h,av]
theorem bM {fe:DS→Res D}{caps:List (Option Nat)}{xs:List α}{c:α→D}{g:α→D}(hi:fi ρ= .ok (xs.map c))(hl:xs.length≤100000)
  (h:∀x∈xs,∃ρ',asg (c x) (eA caps ρ)=some ρ'∧fe ρ'= .ok (g x)):aT fi caps asg yes fe ρ= .ok (.lst (xs.map g)):=by
 have:=dk (p:=fun _=>true) (ft:=yes) hi hl fun x hx=>(h x hx).imp fun ρ' h=>⟨h.1,rfl,fun _=>h.2⟩;rw[List.filter_eq_self.mpr fun _ _=>rfl]at this;exact this
theorem br {N:List Str}(h:ds.length=n):iJ n N F ds=fG (F (aK N ds)):=if_pos h
theorem bR {g:α→D}{l:List α}{v:α}{i:Nat}(h:l[i]?=some v):aH (.lst (l.map g)) (.int i)= .ok (g v):=nr (uL (by rw[getElem?_map,h];rfl))
theorem b7 {g:α→D}{l:List α}:bq [.lst (l.map g)]= .ok (.int l.length):=by rw[uU,length_map]
theorem sk {a:Int}{ns:List Int}:oO [.lst ((a::ns).map D.int)]= .ok (.int (dN (a::ns))):=by unfold oO;dsimp only;rw[d9]
theorem AY {n:Nat}:me 0 n=(List.range n).map fun (i:Nat)=>D.int (i:Int):=by
 unfold me;refine map_congr_left fun i _=>?_;rw[Int.zero_add]
theorem dZ {n:Nat}(h:n<1000000):sN [.int (n:Int)]= .ok ((List.range n).map fun (i:Nat)=>D.int (i:Int)):=by
 unfold sN;dsimp only;have:cj (n:Int)=true:=by unfold cj;rw[and_eq_true,decide_eq_true_eq,decide_eq_true_eq];omega
 rw[if_pos this,toNat_natCast,AY]
theorem mr {a b:Int}(h0: -1000000≤a)(h1:a<1000000)(h2: -1000000≤b)(h3:b<1000000):ur [.int a,.int b]= .ok (me a (b-a).toNat):=by
 unfold ur;dsimp only;have:(cj a&&cj b)=true:=by unfold cj;simp only[and_eq_true,decide_eq_true_eq];omega
 rw[if_pos this]
theorem ql {ns:List Int}:bq [.scr ns]= .ok (.int ns.length):=id rfl
theorem Ch {ns:List Int}{i n:Int}(h:atI ns i=some n):aH (.scr ns) (.int i)= .ok (.int n):=by unfold aH;dsimp only;rw[h]
theorem kx {i j:Int}(h1: -(2 ^ 64)<j)(h2:j<2 ^ 64):fF (.int i) (.int j)= .ok (.int (i*j)):=by
 unfold fF BD;rw[zO h1 h2]
theorem ku {i j:Int}(h1: -(2 ^ 64)<i)(h2:i<2 ^ 64):fF (.int i) (.int j)= .ok (.int (i*j)):=by
 unfold fF BD;rw[zN h1 h2]
noncomputable def cellOf (ns:List Int)(k:Int):Int:=if ns.length=0 then 7 else ns.getD (k % ns.length).toNat 0
noncomputable def oh (ns:List Int)(k:Int):Int:=(cellOf ns k*48271+(k+1)*7919+ns.length) % 2147483647
noncomputable def Ez (ns:List Int)(k:Int):Int:=(oh ns k*oh ns k+k*16807+11) % 2147483647
noncomputable def drawn (ns:List Int)(k many:Int):Int:=Ez ns k*48271 % 2147483647 / 16 % many
theorem A_ {ns:List Int}{k:Int}:0≤oh ns k∧oh ns k<2147483647:=⟨Int.emod_nonneg _ (by decide),Int.emod_lt_of_pos _ (by decide)⟩
theorem eP {ns:List Int}{k many:Int}(h:0<many):0≤drawn ns k many∧drawn ns k many<many:=⟨Int.emod_nonneg _ (by omega),Int.emod_lt_of_pos _ h⟩
theorem zy {ns:List Int}{k:Int}(hz:ns.length≠0):atI ns (k % (ns.length:Int))=some (cellOf ns k):=by
 have hm0:0≤k % (ns.length:Int):=Int.emod_nonneg _ (by omega);have hm1:k % (ns.length:Int)<ns.length:=Int.emod_lt_of_pos _ (by omega);refine jU hm0 ?_;have hlt:(k % (ns.length:Int)).toNat<ns.length:=by omega
 rw[iN hlt];unfold cellOf;rw[if_neg hz];simp[List.getD,iN hlt]
end
noncomputable def gl (n:Nat):W.KasT (Array Nat)→Bool
 |.ret p=>decide (p.size=n)&&p.toList.all (fun i=>decide (i<n))&&(List.range n).all fun i=>p.toList.contains i
 |.ask i j k=>decide (i<n)&&decide (j<n)&&gl n (k true)&&gl n (k false)
theorem j6 {n:Nat}{lt:Nat→Nat→Bool}:∀(t:W.KasT (Array Nat)),gl n t=true→∃p,oa n lt t=some p∧p.size=n∧(∀i∈p.toList,i<n)∧∀i,i<n→i∈p.toList
 |.ret p,h=>by
  unfold gl at h;simp only[and_eq_true,decide_eq_true_eq,all_eq_true]at h;refine⟨p,rfl,h.1.1,fun i hi=>h.1.2 i hi,fun i hi=>?_⟩;have:=h.2 i (mem_range.mpr hi);exact List.contains_iff_mem.mp this
 |.ask i j k,h=>by
  unfold gl at h;simp only[and_eq_true,decide_eq_true_eq]at h;obtain⟨⟨⟨h1,h2⟩,h3⟩,h4⟩:=h;have e:oa n lt (.ask i j k)=oa n lt (k (lt i j)):=by
   conv=>lhs;unfold oa
   rw[if_pos ⟨h1,h2⟩]
  rw[e];cases lt i j with
  |true=>exact j6 _ h3
  |false=>exact j6 _ h4
theorem Aq:gl 2 (W.kas_sort 2)=true:=by decide +kernel
theorem Ar:gl 3 (W.kas_sort 3)=true:=by decide +kernel
theorem As:gl 4 (W.kas_sort 4)=true:=by decide +kernel
theorem At:gl 5 (W.kas_sort 5)=true:=by decide +kernel
theorem t_ {n:Nat}(h2:2≤n)(h5:n≤5):gl n (W.kas_sort n)=true:=by
 rcases (show n=2∨n=3∨n=4∨n=5 by omega) with rfl|rfl|rfl|rfl
 ·exact Aq
 ·exact Ar
 ·exact As
 ·exact At
theorem wQ (l:List (List Int))(h:l.length≤5)(hne:∀t∈l,t≠[]):∃l':List (List Int),iG [.lst (l.map fun t=>.tup (t.map D.int))]= .ok (.lst (l'.map fun t=>.tup (t.map D.int)))∧l'.length=l.length∧∀t,t∈l'↔t∈l:=by
 by_cases h2:l.length<2
 ·refine⟨l,?_,rfl,fun _=>Iff.rfl⟩;unfold iG;dsimp only;rw[if_pos (by rw[length_map];exact h2)]
 ·obtain⟨p,e,h3,h4,h5⟩:=j6 (lt:=fun i j=>HT.iK (l.getD i []) (l.getD j [])) _ (t_ (by omega) h);refine⟨p.toList.map fun i=>l.getD i [],?_,by rw[length_map,length_toList];exact h3,fun t=>?_⟩
  ·unfold iG;dsimp only;rw[if_neg (by rw[length_map];exact h2),lO];dsimp only;rw[if_pos,e]
   ·dsimp only;rw[if_pos,map_map]
    ·rfl
    ·exact⟨h3,all_eq_true.mpr fun i hi=>decide_eq_true (h4 i hi)⟩
   ·rw[and_eq_true,all_eq_true];refine⟨fun t ht=>?_,decide_eq_true (by omega)⟩;cases t with
    |nil=>exact absurd rfl (hne [] ht)
    |cons _ _=>rfl
  ·rw[mem_map];constructor
   ·intro hZ23;obtain⟨i,hi,rfl⟩:=hZ23;have hl:=h4 i hi;rw[getD_eq_getElem?_getD,iN hl];exact getElem_mem hl
   ·intro ht;obtain⟨i,hi,e⟩:=List.getElem_of_mem ht;refine⟨i,h5 i hi,?_⟩;rw[getD_eq_getElem?_getD,iN hi];exact e
end L2
namespace L2
open PySem PySem.Spec PyProof.Rows
theorem AllW.zero {K:W.Frag}{G H:Hp}:∀{ds:List D} {vs:List V} {S:List Addr},AllW (Ow K G H 0) ds vs S→S=[]∧RepL K G ds vs
 | [],_,_,h=>by rw[h.1,h.2];exact⟨rfl,.nil⟩
 |d::ds,_,_,h=>by
  obtain⟨v,r,A,B,e1,e2,h1,h2⟩:=h;obtain⟨e3,h3⟩:=AllW.zero h2;subst e1 e2 e3;rw[h1.1];exact⟨rfl,.cons h1.2 h3⟩
theorem AllW.of0 {K:W.Frag}{G H:Hp}:∀{ds:List D} {vs:List V},RepL K G ds vs→AllW (Ow K G H 0) ds vs []
 | [],_,h=>⟨h.inv0,rfl⟩
 |d::ds,_,h=>by
  obtain⟨v,r,rfl,h1,h2⟩:=h.inv;exact⟨v,r,[],[],rfl,rfl,⟨rfl,h1⟩,AllW.of0 h2⟩
theorem RepL.erase {K:W.Frag}{G:Hp}:∀{ds:List D} {vs:List V} (i:Nat),RepL K G ds vs→RepL K G (ds.eraseIdx i) (vs.eraseIdx i)
 | [],_,i,h=>by rw[h.inv0];exact .nil
 |d::ds,_,0,h=>by
  obtain⟨v,r,rfl,h1,h2⟩:=h.inv;exact h2
 |d::ds,_,i+1,h=>by
  obtain⟨v,r,rfl,h1,h2⟩:=h.inv;exact .cons h1 (RepL.erase i h2)
section
variable{X:Cx}{E:XK}{μ:List Nat}{n:Nat}
variable{q:Nat}
theorem xV {m:Nat}{k:Int}{t:Nat}(h:aM m=true)(e:qy m k=some t): -(2 ^ 63)≤k∧k<2 ^ 63:=by
 have h7:m≤100000:=of_decide_eq_true h;obtain⟨_,_,h1,h2⟩:=kE e;omega
end
section
variable{X:Cx}{E:XK}{μ:List Nat}{n:Nat}
end
theorem Rw.forget {K:W.Frag}{μ:List Nat}{Ge B G H:Hp}{σ:St}{ρ:DS}{fp:Nat→List Addr}{i:Nat}{o:Option V}(R:Rw K μ Ge B G H σ ρ fp):Rw K μ Ge B G H (σ.set i o) (ρ.set i none) (fun j=>if j=i then [] else fp j):=by
 have M:=R.drop (i:=i);refine⟨M.gh,M.eg,M.bh,M.nw,M.gf,M.ob,M.oc,M.nd,M.dj,fun k d e=>?_⟩;obtain⟨v,hv,h⟩:=M.sl k d e;refine⟨v,?_,h⟩;have hk:k≠i:=fun z=>by
  subst z;rw[List.getElem?_set]at e;split at e
  ·split at e <;> cases e
  ·rename_i hne;exact hne rfl
 rw[getElem?_set_ne (Ne.symm hk)];exact hv
section
variable{X:Cx}{E:XK}{μ:List Nat}{n:Nat}
end
section
variable{P:Program}{w:World}{K:W.Frag}{mg:Str→Option Value}{base:Heap}
end
section
variable{P:Program}{w:World}{K:W.Frag}{mg:Str→Option Value}{base:Heap}
end
section
variable{X:Cx}{E:XK}{μ:List Nat}{r n:Nat}
theorem Ow.up {K:W.Frag}{G H:Hp}:∀{n:Nat} {d:D} {v:V} {S:List Addr},bU n d=true→Ow K G H n d v S→Ow K G H (n+1) d v S
 |0,d,v,S,hf,h=>by
  cases d with
  |lst ds=>cases hf
  |dct ks ds=>cases hf
  |tup ds=>exact .inl ⟨hf,h.1,h.2⟩
  |_=>exact⟨hf,h.1,h.2⟩
 |n+1,d,v,S,hf,h=>by
  cases d with
  |lst ds=>
   obtain⟨a,xs,T,e1,e2,e3,h1⟩:=h;unfold bU at hf;exact⟨a,xs,T,e1,e2,e3,h1.mono fun d v A hd _ z=>Ow.up (all_eq_true.mp hf d hd) z⟩
  |dct ks ds=>
   obtain⟨a,xs,T,e1,e2,e4,e3,h1⟩:=h;unfold bU at hf;exact⟨a,xs,T,e1,e2,e4,e3,h1.mono fun d v A hd _ z=>Ow.up (all_eq_true.mp hf d hd) z⟩
  |tup ds=>
   rcases h with h|⟨a,xs,T,e1,e2,e3,e5,h1⟩
   ·exact .inl h
   ·refine .inr ⟨a,xs,T,e1,e2,e3,e5,h1.mono fun d v A hd _ z=>Ow.up ?_ z⟩;unfold bU at hf;rw[or_eq_true]at hf
    rcases hf with y|y
    ·unfold L2.flat at y;exact lD (jw y hd)
    ·exact all_eq_true.mp y d hd
  |_=>exact h
theorem PN.up {e:Expr}{f:DS→Res D}(h:PN X E n e f):PN X E (n+1) e (si n f):=by
 intro pins s σ G H ρ I hs hr ho;refine aW (h pins s σ G H ρ I hs hr ho.fst) fun u s' hZ158=>?_;obtain⟨d,e,v,G',H',S,I',rv,x,o,w⟩:=hZ158;have k:=ho.snd e (Same.refl H);by_cases hl:bU n d=true
 ·exact⟨d,am e (if_pos hl),v,G',H',S,I',rv,x,o.up hl,w⟩
 ·rw[if_neg hl]at k;exact k.elim
inductive tNA (K:W.Frag)(E:XK)(n:Nat)(f:DS→Res (List D))(σ:St)(H:Hp)(Q:List V→Hp→Prop):Prop
 |mk (G:Hp) (ρ:DS) (s:Same G H) (r:Ro K G σ ρ) (o:OkR E H (f ρ)) (k:∀ds,f ρ= .ok ds→∀vs G' H' S,Ext G H G' H'→AllW (Ow K G' H' n) ds vs S→New H G' S→Q vs H')
noncomputable def DB (X:Cx)(E:XK)(n:Nat)(es:List Expr)(f:DS→Res (List D)):Prop:=PA X es (tNA X.K E n f)
theorem vw:DB X E n [] pN:=fun pos pins s σ H Q I hZ159=>(by obtain⟨G,ρ,hs,hro,ho,k⟩:=hZ159;exact Calls.spliced_nil ⟨[],H,I,.nil,k [] rfl [] G H [] (.refl hs) ⟨rfl,rfl⟩ .nil⟩)
theorem sF {e:Expr}{es:List Expr}{f:DS→Res D}{g:DS→Res (List D)}(h:PN X E n e f)(hes:DB X E n es g)(hs:starEach (e::es) X.env=(false,eval e X.env)::starEach es X.env:=by rfl):DB X E n (e::es) (pC f g):=by
 intro pos pins s σ H Q I hZ24;obtain⟨G,ρ,hsm,hro,ho,k⟩:=hZ24;refine bH (yu h) hes hs pos pins s σ H Q I ⟨G,ρ,hsm,hro,ho.fst,fun d ed v G1 H1 S x1 o w=>⟨G1,ρ,x1.gh,hro.mono x1.gg,(ho.snd ed x1.hh).fst,fun ds eds vs G2 H2 T x2 os w2=>?_⟩⟩;have hc:∀a∈S,∃u,H1 a=some u∧¬oG u:=fun a ha=>let ⟨u,e,c⟩:=o.cell a ha;⟨u,e,c.nokey⟩
 have w3:=w.step hc x2;exact k (d::ds) (am ed (am eds rfl)) (v::vs) G2 H2 (S ++ T) (x1.trans x2) ⟨v,vs,S,T,rfl,rfl,o.mono x2.gg fun a _ u e=>x2.hh a u e,os⟩ (w3.join w2 hc x1.hh)
theorem AM {es:List Expr}{pos:Pos}{f:DS→Res (List D)}(h:DB X E n es f):PN X E (n+1) (.List es pos) (dM f):=by
 refine .tn (ui h) fun σ G H ρ Q hs hro ho k=>⟨G,ρ,hs,hro,ho.fst,fun ds e vs G1 H1 S x1 os w=>?_⟩;have kk:=ho.snd e x1.hh;by_cases hl:aM ds.length=true
 ·refine⟨by rw[←os.length];exact bu hl,fun p hp=>?_⟩;have hpS:p∉S:=fun z=>by obtain⟨u,hu,_⟩:=os.has p z;rw[hp]at hu;cases hu
  have gp:G1 p=none:=by
   cases q:G1 p with
   |none=>rfl
   |some u=>rw[x1.gh p u q]at hp;cases hp
  have o1:AllW (Ow X.K G1 (a9 H1 p (.lst vs)) n) ds vs S:=os.mono fun d v A _ hA z=>z.mono (.refl _) fun b hb u e=>by
   have hne:b≠p:=fun zz=>hpS (zz ▸ hA b hb);rw[ak hne];exact e
  have w1:New H G1 (p::S):=⟨nodup_cons.mpr ⟨hpS,w.1⟩,fun a ha=>by
   rcases mem_cons.mp ha with z|z
   ·subst z;exact⟨x1.hh.free hp,gp⟩
   ·exact w.2 a z⟩
  exact k (.lst ds) (am e (if_pos hl)) (.ref p) G1 _ (p::S) (x1.hnew hp _) ⟨p,vs,S,rfl,aq,rfl,o1⟩ w1
 ·rw[if_neg hl]at kk;exact kk.elim
theorem ci {i:Nat}:∀ρ c,ac i ρ≠ .exc c:=fun ρ c=>Bf
end
end L2
namespace L2
open PySem
theorem nO {f g:DS→Res D}{o:D→D→Res D}(hf:∀ρ c,f ρ≠ .exc c)(hg:∀ρ c,g ρ≠ .exc c)(ho:∀{a b:D} {c:Addr},o a b≠ .exc c):∀ρ c,ae f g o ρ≠ .exc c:=fun ρ c h=>by
 rw[Bq]at h;cases q:f ρ with
 |exc e=>exact hf ρ e q
 |bad=>rw[q]at h;cases h
 |ok a=>
  rw[q,av]at h;cases q2:g ρ with
  |exc e=>exact hg ρ e q2
  |bad=>rw[q2]at h;cases h
  |ok b=>rw[q2,av]at h;exact ho h
theorem wz {i:Int}:∀(ρ:DS) (c:Addr),kI i ρ≠ .exc c:=fun ρ c h=>by cases h
theorem zp {a b:D}{c:Addr}:aU a b≠ .exc c:=by
 unfold aU BD;have h1:∀x y:D,xg x y≠ .exc c:=fun x y h=>by
  unfold xg iO at h;split at h
  ·split at h <;> cases h
  ·cases h
 have h2:∀x y:D,xh x y≠ .exc c:=fun x y h=>by
  unfold xh at h;split at h
  ·split at h <;> cases h
  ·cases h
 have h3:∀x y:D,l_ x y≠ .exc c:=fun x y h=>by
  unfold l_ at h;split at h
  ·split at h <;> cases h
  ·cases h
 intro h;split at h
 ·split at h
  ·exact h3 _ _ h
  ·exact h2 _ _ h
 ·exact h1 _ _ h
noncomputable def Fy:=And.intro @bQ (And.intro @Cs (And.intro @DU (And.intro @Bq (And.intro @DO (And.intro @B7 (And.intro @iZ (And.intro @zZ (And.intro @z_ (And.intro @zS (And.intro @zT (And.intro @av (And.intro @rQ (And.intro @cz (And.intro @tO (And.intro @aY (And.intro @tP (And.intro @rT (And.intro @xD (And.intro @xC (And.intro @vW (And.intro @uU (And.intro @zI (And.intro @DV (And.intro @Bo (And.intro @DT (And.intro @DR (And.intro @B5 (And.intro @Cu (And.intro @B6 (And.intro @DW (And.intro @Cr (And.intro @zF (And.intro @Cb (And.intro @Co (And.intro @B_ (And.intro @zE (And.intro @zP (And.intro @zM (And.intro @zK (And.intro @zJ (And.intro @zX (And.intro @zL (And.intro @xE (And.intro @Cv (And.intro @Cg (And.intro @zQ (And.intro @vV (And.intro @Ci (And.intro @B8 (And.intro @zY (And.intro @zR (And.intro @DX (And.intro @Cq (And.intro @zW (And.intro @nu (And.intro @rS (And.intro @uW (And.intro @uS (And.intro @uT (And.intro @Ct (And.intro @Cj (And.intro @Ck (And.intro @Cl (And.intro @Cm (And.intro @Cn (And.intro @ql (And.intro @Ca (And.intro @Cp (And.intro @DP (And.intro @Cf (And.intro @Bp (And.intro @Cc (And.intro @Ce (And.intro @Cd (And.intro @zH (And.intro @xB (And.intro @rP @kA)))))))))))))))))))))))))))))))))))))))))))))))))))))))))))))))))))))))))))))
def aR:=And.intro Fy (And.intro @if_true.{1} (And.intro @if_false.{1} (And.intro @false_eq_true (And.intro @Bool.not_true (And.intro @Bool.not_false (And.intro @Bool.true_and (And.intro @Bool.false_and (And.intro @Bool.true_or (And.intro @Bool.false_or (And.intro @pC.eq_1 (And.intro @pN.eq_1 (And.intro @kI.eq_1 (And.intro @kB.eq_1 (And.intro @kS.eq_1 (And.intro @kN.eq_1 (And.intro @c1.eq_1 (And.intro @sL.eq_1 (And.intro @sT.eq_1 (And.intro @sR1.eq_1 (And.intro @sR2.eq_1 (And.intro @sE.eq_1 (And.intro @sZ.eq_1 (And.intro @oI.eq_1 (And.intro @oN.eq_1 (And.intro @tR.eq_1 (And.intro @nG.eq_1 (And.intro @yes.eq_1 (And.intro @bad1.eq_1 (And.intro @nxt.eq_1 (And.intro @length_map.{0,0} (And.intro @beq_self_eq_true.{0} @bne_self_eq_false.{0})))))))))))))))))))))))))))))))
section
variable{α:Type}{ρ ρ' ρ1:DS}{F R:DS→Out}{asg:D→DS→Option DS}{d:D}
end
theorem mz {n:Nat}{α:Type}{f:α→D}:∀(l:List α),(∀x∈l,a_ n (f x)=true)→plL n (l.map f)=true
 | [],_=>by unfold plL;rfl
 |x::l,h=>by
  rw[map_cons];unfold plL;rw[h x (mem_cons_self ..),mz l fun y hy=>h y (eB hy)];rfl
theorem gn {n:Nat}{i:Int}:a_ n (.int i)=true:=by unfold a_;rfl
theorem qN {n:Nat}{α:Type}{f:α→D}{l:List α}(h:∀x∈l,a_ n (f x)=true):a_ (n+1) (.lst (l.map f))=true:=by
 unfold a_;rw[show n+1-1=n from rfl,mz l h,decide_eq_true (by omega)];rfl
theorem mx {d:D}(h:a_ 20 d=true):qH d d= .ok (.bl false):=by
 unfold qH;rw[if_pos ⟨h,h⟩,rN h];rfl
section
variable{ρ:DS}{F:DS→Out}{fi fa f:DS→Res D}{l row ds:List D}{j m t n:Nat}{d:D}{N:List Str}
theorem j9 {R:DS→Out}{x:Res D}(ρ':DS)(h:F ρ= .nx ρ')(hr:fG (R ρ')=x):fG (aC F R ρ)=x:=by
 rw[bQ,h];exact hr
theorem pB {n:Nat}{α:Type}{f:α→D}{l:List α}(h:∀x∈l,bU n (f x)=true):bU (n+1) (.lst (l.map f))=true:=by
 unfold bU;rw[all_eq_true];intro d hd;obtain⟨x,hx,rfl⟩:=mem_map.mp hd;exact h x hx
end
end L2
namespace L2
open PySem PySem.Spec PyProof.Rows
noncomputable def gH:D→List D
 |.lst l=>l
 |.tup l=>l
 |.dct _ l=>l
 |_=>[]
noncomputable def sJ:D→List D→D
 |.lst _,l=>.lst l
 |.tup _,l=>.tup l
 |.dct ks _,l=>.dct ks l
 |d,_=>d
noncomputable def se:HO→List V
 |.lst xs=>xs
 |.tup xs=>xs
 |.dT kvs=>kvs.map (·.2)
 |_=>[]
noncomputable def fy:List Nat→D→Option D
 | [],d=>some d
 |m::p,d=>match (gH d)[m]? with|some c=>fy p c|none=>none
noncomputable def iP:List Nat→D→D→D
 | [],_,e=>e
 |m::p,d,e=>match (gH d)[m]? with|some c=>sJ d ((gH d).set m (iP p c e))|none=>d
noncomputable def valP (H:Hp):List Nat→V→V→Prop
 | [],v,u=>u=v
 |m::p,v,u=>∃a o w,v= .ref a∧H a=some o∧(se o)[m]?=some w∧valP H p w u
theorem valP.mono {H H':Hp}(s:Same H H'):∀{p:List Nat} {v u:V},valP H p v u→valP H' p v u
 | [],_,_,h=>h
 |_::_,_,_,⟨a,o,w,e,h,k,r⟩=>⟨a,o,w,e,s _ _ h,k,valP.mono s r⟩
theorem valP.one {H:Hp}:∀{p:List Nat} {v u u':V},valP H p v u→valP H p v u'→u=u'
 | [],_,_,_,h,h'=>h.trans h'.symm
 |_::_,_,_,_,⟨a,o,w,e,h,k,r⟩,⟨a',o',w',e',h',k',r'⟩=>by
  subst e;cases e';rw[h]at h';cases h';rw[k]at k';cases k';exact valP.one r r'
theorem valP.snoc {H:Hp}{m:Nat}{a:Addr}{o:HO}{w:V}(h:H a=some o)(k:(se o)[m]?=some w):∀{p:List Nat} {v:V},valP H p v (.ref a)→valP H (p ++ [m]) v w
 | [],_,e=>⟨a,o,w,e.symm,h,k,rfl⟩
 |_::_,_,⟨a',o',w',e',h',k',r⟩=>⟨a',o',w',e',h',k',valP.snoc h k r⟩
theorem rV {d c:D}{m:Nat}(h:L2.flat d=true)(e:(gH d)[m]?=some c):L2.flat c=true:=by
 cases d with
 |lst l=>unfold L2.flat at h;cases h
 |dct ks l=>unfold L2.flat at h;cases h
 |tup l=>unfold L2.flat at h;exact jw h (mem_of_getElem? e)
 |_=>simp[gH]at e
theorem ny:∀{p:List Nat} {d c:D},L2.flat d=true→fy p d=some c→L2.flat c=true
 | [],d,c,h,e=>by cases e;exact h
 |m::p,d,c,h,e=>by
  have e':(match (gH d)[m]? with|some c=>fy p c|none=>none)=some c:=e
  cases q:(gH d)[m]? with
  |none=>rw[q]at e';cases e'
  |some k=>rw[q]at e';exact ny (rV h q) e'
section
variable{K:W.Frag}{G H:Hp}
theorem Ow.kid {n m:Nat}{d c:D}{v:V}{S:List Addr}(h:Ow K G H (n+1) d v S)(e:(gH d)[m]?=some c)(hc:L2.flat c=false) :
  ∃a o T,v= .ref a∧H a=some o∧S=a::T∧AllW (Ow K G H n) (gH d) (se o) T∧∀(H':Hp) l' T',H' a=some o→T'≠[]→AllW (Ow K G H' n) l' (se o) T'→Ow K G H' (n+1) (sJ d l') v (a::T'):=by
 cases d with
 |lst l=>
  obtain⟨a,xs,T,e1,e2,e3,h1⟩:=h;exact⟨a,_,T,e1,e2,e3,h1,fun H' l' T' h' _ o=>⟨a,xs,T',e1,h',rfl,o⟩⟩
 |dct ks l=>
  obtain⟨a,xs,T,e1,e2,e4,e3,h1⟩:=h;exact⟨a,_,T,e1,e2,e3,h1,fun H' l' T' h' _ o=>⟨a,xs,T',e1,h',e4,rfl,o⟩⟩
 |tup l=>
  rcases h with h|⟨a,xs,T,e1,e2,e3,e5,h1⟩
  ·rw[rV h.1 e]at hc;cases hc
  ·exact⟨a,_,T,e1,e2,e3,h1,fun H' l' T' h' n o=>.inr ⟨a,xs,T',e1,h',rfl,n,o⟩⟩
 |_=>simp[gH]at e
theorem rX {l:List D}:L2.flat (.lst l)=false:=by unfold L2.flat;rfl
theorem xI {ks:List (List bw)}{l:List D}:L2.flat (.dct ks l)=false:=by unfold L2.flat;rfl
theorem Ow.at:∀{p:List Nat} {n:Nat} {d c:D} {v:V} {S:List Addr},Ow K G H (n+p.length) d v S→fy p d=some c→L2.flat c=false→∃u A,valP H p v u∧Ow K G H n c u A
 | [],n,d,c,v,S,h,e,hc=>by cases e;exact⟨v,S,rfl,h⟩
 |m::p,n,d,c,v,S,h,e,hc=>by
  have e':(match (gH d)[m]? with|some c=>fy p c|none=>none)=some c:=e
  cases q:(gH d)[m]? with
  |none=>rw[q]at e';cases e'
  |some k=>
   rw[q]at e';have hk:L2.flat k=false:=by
    cases z:L2.flat k with
    |false=>rfl
    |true=>rw[ny z e']at hc;cases hc
   obtain⟨a,o,T,e1,e2,e3,h1,_⟩:=Ow.kid (n:=n+p.length) h q hk;obtain⟨w,A,L,R,g1,g2,g3,g4⟩:=h1.at q;obtain⟨u,A',h2,h3⟩:=Ow.at g3 e' hc;exact⟨u,A',⟨a,o,w,e1,e2,g1,h2⟩,h3⟩
theorem sV {α:Type}{l:List α}{m:Nat}{x:α}(h:l[m]?=some x):l.set m x=l:=by
 apply ext_getElem?;intro k;by_cases hk:k=m
 ·subst hk;rw[getElem?_set_self (gz h).1,h]
 ·rw[getElem?_set_ne (Ne.symm hk)]
theorem Ow.path:∀{p:List Nat} {n:Nat} {d:D} {row:List D} {v:V} {S:List Addr},Ow K G H (n+1+p.length) d v S→fy p d=some (.lst row)→S.Nodup→
  ∃b ys U L R,valP H p v (.ref b)∧H b=some (.lst ys)∧S=L ++ (b::U) ++ R∧AllW (Ow K G H n) row ys U∧
   (∀q t a,p=q ++ t→t≠[]→valP H q v (.ref a)→a≠b)∧
   ∀ys' row' U',AllW (Ow K G (a9 H b (.lst ys')) n) row' ys' U'→Ow K G (a9 H b (.lst ys')) (n+1+p.length) (iP p d (.lst row')) v (L ++ (b::U') ++ R)
 | [],n,d,row,v,S,h,e,nd=>by
  cases e;obtain⟨a,xs,T,e1,e2,e3,h1⟩:=h;exact⟨a,xs,T,[],[],e1.symm,e2,by rw[e3];simp,h1,fun q t a e hn=>absurd (List.append_eq_nil_iff.mp e.symm).2 hn,fun ys' row' U' o=>⟨a,ys',U',e1,aq,by simp,o⟩⟩
 |m::p,n,d,row,v,S,h,e,nd=>by
  have e':(match (gH d)[m]? with|some c=>fy p c|none=>none)=some (.lst row):=e
  cases q:(gH d)[m]? with
  |none=>rw[q]at e';cases e'
  |some k=>
   rw[q]at e';have hk:L2.flat k=false:=by
    cases z:L2.flat k with
    |false=>rfl
    |true=>have:=ny z e';rw[rX]at this;cases this
   obtain⟨a,o,T,e1,e2,e3,h1,back⟩:=Ow.kid (n:=n+1+p.length) h q hk;obtain⟨w,A,L,R,g1,g2,g3,g4⟩:=h1.at q;subst e3;obtain⟨haT,hT⟩:=nodup_cons.mp nd;rw[g2]at hT haT;obtain⟨h2,h3,h4⟩:=nodup_append.mp hT;obtain⟨h5,h6,h7⟩:=nodup_append.mp h2;obtain⟨b,ys,U,L2,R2,k1,k2,k3,k4,k6,k5⟩:=Ow.path g3 e' h6;have hbA:b∈A:=by rw[k3];exact mem_append_left _ (mem_append_right _ (mem_cons_self ..))
   have nb:∀c,c∈L∨c∈R→c≠b:=fun c hc z=>by
    subst z
    rcases hc with y|y
    ·exact h7 c y c hbA rfl
    ·exact h4 c (mem_append_right _ hbA) c y rfl
   have hab:a≠b:=fun z=>haT (z ▸ mem_append_left _ (mem_append_right _ hbA));refine⟨b,ys,U,a::(L ++ L2),R2 ++ R,⟨a,o,w,e1,e2,g1,k1⟩,k2,by rw[g2,k3];simp[append_assoc],k4,fun q t x eq hn hx=>?_,fun ys' row' U' ou=>?_⟩
   ·cases q with
    |nil=>cases (show V.ref x=v from hx);cases e1;exact hab
    |cons i q=>
     cases eq;obtain⟨a2,o2,w2,z1,z2,z3,z4⟩:=hx;subst e1;cases z1;rw[e2]at z2;cases z2;rw[g1]at z3;cases z3;exact k6 q t x rfl hn z4
   have big:=g4 (Ow K G (a9 H b (.lst ys')) (n+1+p.length)) (fun d v C hC z=>z.mono (.refl _) fun c hc u eu=>by rw[ak (nb c (hC c hc))];exact eu) (iP p k (.lst row')) w (L2 ++ (b::U') ++ R2) (k5 ys' row' U' ou);rw[sV g1]at big;have fin:=back (a9 H b (.lst ys')) ((gH d).set m (iP p k (.lst row'))) (L ++ (L2 ++ (b::U') ++ R2) ++ R) (by rw[ak hab];exact e2) (by intro z;simp at z) big;have es:iP (m::p) d (.lst row')=sJ d ((gH d).set m (iP p k (.lst row'))):=by
    show (match (gH d)[m]? with|some c=>sJ d ((gH d).set m (iP p c (.lst row')))|none=>d)=_
    rw[q]
   rw[es];have el:a::(L ++ L2) ++ (b::U') ++ (R2 ++ R)=a::(L ++ (L2 ++ (b::U') ++ R2) ++ R):=by simp[append_assoc]
   rw[el];exact fin
end
section
variable{K:W.Frag}{μ:List Nat}{Ge B G H:Hp}{σ:St}{ρ:DS}{fp:Nat→List Addr}{j n:Nat}
theorem Rw.path {p:List Nat}{d:D}{row:List D}(R:Rw K μ Ge B G H σ ρ fp)(hm:μ.getD j 0=n+1+p.length)(hr:ρ[j]?=some (some d))(hp:fy p d=some (.lst row)) :
  ∃v b ys U,σ[j]?=some (some v)∧valP H p v (.ref b)∧H b=some (.lst ys)∧AllW (Ow K G H n) row ys U∧U.Nodup∧b∉U∧b∈fp j∧(∀c∈U,c∈fp j)∧(∀q t a,p=q ++ t→t≠[]→valP H q v (.ref a)→a≠b)∧
   ∀ys' row' U',AllW (Ow K G (a9 H b (.lst ys')) n) row' ys' U'→U'.Nodup→(∀c∈U',c∈U∨((G c=none∧B c=none)∧∀i,c∉fp i))→∃fp',Rw K μ Ge B G (a9 H b (.lst ys')) σ (ρ.set j (some (iP p d (.lst row')))) fp':=by
 obtain⟨v,hv,o⟩:=R.sl j d hr;rw[hm]at o;obtain⟨b,ys,U,L,Q,h1,h2,h3,h4,h6,h5⟩:=o.path hp (R.nd j);have nd:=R.nd j;rw[h3]at nd;obtain⟨n1,n2,n3⟩:=nodup_append.mp nd;obtain⟨n4,n5,n6⟩:=nodup_append.mp n1;obtain⟨n7,n8⟩:=nodup_cons.mp n5;have sb:b∈fp j:=by rw[h3];exact mem_append_left _ (mem_append_right _ (mem_cons_self ..))
 have sU:∀c∈U,c∈fp j:=fun c r=>by rw[h3];exact mem_append_left _ (mem_append_right _ (eB r))
 have sL:∀c∈L,c∈fp j:=fun c r=>by rw[h3];exact mem_append_left _ (mem_append_left _ r)
 have sQ:∀c∈Q,c∈fp j:=fun c r=>by rw[h3];exact mem_append_right _ r
 refine⟨v,b,ys,U,hv,h1,h2,h4,n8,n7,sb,sU,h6,fun ys' row' U' ou nU hU=>?_⟩;have ndm:(L ++ (b::U') ++ Q).Nodup:=pI nd (nodup_cons.mpr ⟨fun z=>by
   rcases hU b z with y|y
   ·exact n7 y
   ·exact y.2 j sb,nU⟩) fun c r=>by
  rcases mem_cons.mp r with z|z
  ·subst z;exact .inl (mem_cons_self ..)
  ·rcases hU c z with y|y
   ·exact .inl (eB y)
   ·exact .inr ⟨fun x=>y.2 j (sL c x),fun x=>y.2 j (sQ c x)⟩
 have old:∀c∈L ++ (b::U') ++ Q,c∈fp j∨((G c=none∧B c=none)∧∀i,c∉fp i):=fun c r=>by
  rcases mem_append.mp r with z|z
  ·rcases mem_append.mp z with y|y
   ·exact .inl (sL c y)
   ·rcases mem_cons.mp y with x|x
    ·subst x;exact .inl sb
    ·exact(hU c x).imp (sU c) id
  ·exact .inl (sQ c z)
 refine⟨_,R.write (S:=L ++ (b::U') ++ Q) sb hv (by rw[hm];exact h5 ys' row' U' ou) ndm (fun c r=>?_) fun i hi c r hci=>?_⟩
 ·rcases old c r with y|y
  ·exact⟨R.gf j c y,R.ob j c y⟩
  ·exact y.1
 ·rcases old c r with y|y
  ·exact hi (R.dj i j c hci y)
  ·exact y.2 i hci
end
inductive tAt (K:W.Frag)(E:XK)(μ:List Nat)(j:Nat)(g:DS→Res (List Nat))(σ:St)(H:Hp)(Q:VK):Prop
 |mk (Ge B G:Hp) (ρ:DS) (fp:Nat→List Addr) (R:Rw K μ Ge B G H σ ρ fp) (o:OkR E B (g ρ)) (k:∀p,g ρ= .ok p→∀v0 v G' H',σ[j]?=some (some v0)→valP H' p v0 v→Rw K μ Ge B G' H' σ ρ fp→Same G G'→Same H H'→Q v H')
noncomputable def BR (X:Cx)(E:XK)(μ:List Nat)(j:Nat)(e:Expr)(g:DS→Res (List Nat)):Prop:=PE X e (tAt X.K E μ j g)
noncomputable def tE (j:Nat):DS→Res (List Nat):=fun ρ=>match ρ[j]? with|some (some _)=>.ok []|_=>.bad
noncomputable def Dw (ρ:DS)(j:Nat)(p:List Nat)(i:D):Res (List Nat):=match ρ[j]? with
 |some (some d)=>(match fy p d with
  |some (.lst l)=>(match i with|.int k=>(match qy l.length k with|some m=>.ok (p ++ [m])|none=>.bad)|_=>.bad)
  |some (.tup l)=>if L2.flat (.tup l)=true then .bad else (match i with|.int k=>(match qy l.length k with|some m=>.ok (p ++ [m])|none=>.bad)|_=>.bad)
  |_=>.bad)
 |_=>.bad
noncomputable def xk (j n:Nat)(g:DS→Res (List Nat))(fi:DS→Res D):DS→Res (List Nat):=fun ρ=>(g ρ).bind fun p=>(fi ρ).bind fun i=>if p.length=n then Dw ρ j p i else .bad
section
variable{X:Cx}{E:XK}{μ:List Nat}{r n j:Nat}
theorem qb {x:Str}{px:Pos}(hN:X.N[j]?=some x)(hv:uJ X.env.scope x)(hd:(x==("__debug__" :Str))=false:=by decide)(hcd:(x==("__classdict__" :Str))=false:=by decide):BR X E μ j (.Name x px) (tE j):=by
 intro pins s σ H Q I hZ25;obtain⟨Ge,B,G,ρ,fp,R,ho,k⟩:=hZ25;have hs:∃d,ρ[j]?=some (some d):=by
  unfold tE at ho;split at ho
  ·rename_i d q;exact⟨d,q⟩
  ·exact ho.elim
 obtain⟨d,hd'⟩:=hs;obtain⟨v,hv',_⟩:=R.sl j d hd';exact fH hN hv hd hcd pins s σ H Q I ⟨v,hv',k [] (by unfold tE;rw[hd']) v v G H hv' rfl R (.refl _) (.refl _)⟩
theorem Rw.node {K:W.Frag}{Ge B G H:Hp}{σ:St}{ρ:DS}{fp:Nat→List Addr}{p:List Nat}{d c:D}{m:Nat}(R:Rw K μ Ge B G H σ ρ fp)(hm:μ.getD j 0=m+p.length)(hr:ρ[j]?=some (some d))(hp:fy p d=some c)(hc:L2.flat c=false){v0 v:V}(hv:σ[j]?=some (some v0))(h:valP H p v0 v):∃A,Ow K G H m c v A:=by
 obtain⟨w,hw,o⟩:=R.sl j d hr;rw[hv]at hw;cases hw;rw[hm]at o;obtain⟨u,A,h1,h2⟩:=o.at hp hc;cases valP.one h h1;exact⟨A,h2⟩
theorem DF {o i:Expr}{pos:Pos}{g:DS→Res (List Nat)}{fi:DS→Res D}{m:Nat}(hm:μ.getD j 0=m+1+n)(ho:BR X E μ j o g)(hi:PD X E i fi)(hpi:pY i:=by intro _ _;rfl):BR X E μ j (.Subscript o i pos) (xk j n g fi):=by
 intro pins s σ H Q I hZ26;obtain⟨Ge,B,G,ρ,fp,R,hok,k⟩:=hZ26;refine BF (IxR.or ix_list ix_tup) ho (du hi) hpi pins s σ H Q I ?_;refine⟨Ge,B,G,ρ,fp,R,hok.fst,fun p ep v0 v G1 H1 hv N R1 sg sh=>⟨mJ fp G1 H1,ρ,R1.vh,R1.ro,(hok.snd ep (Same.refl B)).fst.le R1.bh,fun di ei vi G3 H3 x3 ri=>?_⟩⟩;have K:=(hok.snd ep (Same.refl B)).snd ei (Same.refl B);by_cases hn:p.length=n
 ·subst hn;rw[if_pos rfl]at K;have e0:xk j p.length g fi ρ=Dw ρ j p di:=by unfold xk;rw[ep,av,ei,av,if_pos rfl]
  unfold Dw at K;cases hr:ρ[j]? with
  |none=>rw[hr]at K;exact K.elim
  |some od=>
  cases od with
  |none=>rw[hr]at K;exact K.elim
  |some d=>
  rw[hr]at K;dsimp only at K;have fin:∀{l:List D} {x:List V} {a:Addr} {ob:HO} {k0:Int} {O:Nat} {w:V},v= .ref a→H1 a=some ob→se ob=x→x[O]?=some w→Dw ρ j p di= .ok (p ++ [O])→Q w H3:=fun {l x a ob k0 O w} ev eo ek ew ei'=>by
   subst ev ek;exact k (p ++ [O]) (e0.trans ei') v0 w (lQ (oq fp) G3) H3 hv ((N.mono x3.hh).snoc (x3.hh _ _ eo) ew) (R1.grow x3) (sg.trans (R1.gg x3)) (sh.trans x3.hh)
  cases hp:fy p d with
  |none=>rw[hp]at K;exact K.elim
  |some c=>
  rw[hp]at K;cases c with
  |lst l=>
   dsimp only at K;cases di with
   |int k0=>
    dsimp only at K;cases q:qy l.length k0 with
    |none=>rw[q]at K;exact K.elim
    |some O=>
     rw[rep_int]at ri;subst ri;obtain⟨A,a,x,T,e1,e2,e3,h1⟩:=R1.node (m:=m+1) hm hr hp rX hv N;have S:O<x.length:=by rw[←h1.length];exact(kE q).2.1
     refine .inl ⟨a,x,k0,x[O],e1,rfl,.inl (.inl (x3.hh _ _ e2)),by unfold L2.atI;rw[←h1.length,q];exact iN S,fin (l:=l) (k0:=k0) e1 e2 rfl (iN S) ?_⟩;unfold Dw;rw[hr];dsimp only;rw[hp];dsimp only;rw[q]
   |_=>exact K.elim
  |tup l=>
   dsimp only at K;by_cases hf:L2.flat (.tup l)=true
   ·rw[if_pos hf]at K;exact K.elim
   ·rw[if_neg hf]at K;have hf':=Bool.eq_false_iff.mpr hf;cases di with
    |int k0=>
     dsimp only at K;cases q:qy l.length k0 with
     |none=>rw[q]at K;exact K.elim
     |some O=>
      rw[rep_int]at ri;subst ri;obtain⟨A,ow⟩:=R1.node (m:=m+1) hm hr hp hf' hv N
      rcases ow with ow|⟨a,x,T,e1,e2,e3,e5,h1⟩
      ·exact absurd ow.1 hf
      ·have S:O<x.length:=by rw[←h1.length];exact(kE q).2.1
       refine .inr ⟨a,x,k0,x[O],e1,rfl,.inl (.inl (x3.hh _ _ e2)),by unfold L2.atI;rw[←h1.length,q];exact iN S,fin (l:=l) (k0:=k0) e1 e2 rfl (iN S) ?_⟩;unfold Dw;rw[hr];dsimp only;rw[hp];dsimp only;rw[if_neg hf,q]
    |_=>exact K.elim
  |_=>exact K.elim
 ·rw[if_neg hn]at K;exact K.elim
noncomputable def oQ (ρ:DS)(j n:Nat)(p:List Nat)(f:List D→Out):Out:=if p.length=n then (match ρ[j]? with
 |some (some t)=>(match fy p t with|some (.lst row)=>f row|_=>.bad)
 |_=>.bad) else .bad
noncomputable def xj (ρ:DS)(j:Nat)(p:List Nat)(row:List D)(d:D):Out:=match ρ[j]? with
 |some (some t)=>if aM row.length=true then .nx (ρ.set j (some (iP p t (.lst (row ++ [d]))))) else .bad
 |_=>.bad
noncomputable def mU (j n:Nat)(g:DS→Res (List Nat))(f:DS→Res D):DS→Out:=fun ρ=>(g ρ).out fun p=>(f ρ).out fun d=>oQ ρ j n p fun row=>xj ρ j p row d
theorem vy {ρ:DS}{n:Nat}{p:List Nat}{f:List D→Out}{B:Hp}(h:OkO E B (oQ ρ j n p f)):p.length=n∧∃t row,ρ[j]?=some (some t)∧fy p t=some (.lst row)∧oQ ρ j n p f=f row:=by
 unfold oQ at h;by_cases hn:p.length=n
 ·rw[if_pos hn]at h;refine⟨hn,?_⟩;cases hr:ρ[j]? with
  |none=>rw[hr]at h;exact h.elim
  |some od=>
  cases od with
  |none=>rw[hr]at h;exact h.elim
  |some t=>
  rw[hr]at h;dsimp only at h;cases hp:fy p t with
  |none=>rw[hp]at h;exact h.elim
  |some c=>
  rw[hp]at h;cases c with
  |lst row=>exact⟨t,row,rfl,hp,by unfold oQ;rw[if_pos hn,hr];dsimp only;rw[hp]⟩
  |_=>exact h.elim
 ·rw[if_neg hn]at h;exact h.elim
theorem qO {o e:Expr}{apos cpos pos:Pos}{g:DS→Res (List Nat)}{f:DS→Res D}{m:Nat}(hm:μ.getD j 0=m+1+n)(hpa:BR X E μ j o g)(h:PZ X E μ m e f)(hex:∀ρ c,f ρ≠ .exc c)
  (hs:starEach [e] X.env=(false,eval e X.env)::starEach [] X.env:=by rfl)
  (hbase:attributeBase o "append" X.env (eval o X.env)=eval o X.env:=by rfl)
  (hfew:((backTo cpos (starEach [e] X.env)).all (fun x=> !x.1)&&(backToKw cpos (keywordEach [] X.env)).all (fun x=>x.1.isSome)&&decide (([e].length+([]:List Keyword).length+if ([]:List Keyword).isEmpty=true then 0 else 1)<30))=true:=by rfl)
  (hline:(apos.endLine==cpos.line)=true:=by rfl)
  (hsw:swapsWith (.Call (.Attribute o "append" apos) [e] [] cpos) none pos.line X.env=pure false:=by rfl) :
  l9 X E μ r (.Expr (.Call (.Attribute o "append" apos) [e] [] cpos) pos) (mU j n g f):=by
 intro pins s σ Ge B G H ρ fp I R ho;have hp:=nT (apos:=apos) (cpos:=cpos) (r:=eW) PySem.F.plainAttrs_list PySem.F.slot_list_append PySem.F.type_list_append (show zj X "list.append" eW from jC) hpa (bH (uk h) dq hs) hbase hfew hline hs rfl;refine aW (iu hp hsw pins s σ H {nx:=fun σ' H'=>∃M G' N,mU j n g f ρ= .nx M∧σ'=σ∧Rw X.K μ Ge B G' H' σ M N∧Same G G',bk:=fun _ _=>False,ct:=fun _ _=>False,rt:=fun _ _=>False} I ⟨Ge,B,G,ρ,fp,R,ho.res,fun p ep v0 v G1 H1 hv hval R1 sg sh=>?_⟩) fun fl s1 J=>?_
 ·have k:=ho.res2 ep (Same.refl B);have hfd:∃d,f ρ= .ok d:=by
   cases q:f ρ with
   |ok d=>exact⟨d,rfl⟩
   |exc c=>exact absurd q (hex ρ c)
   |bad=>rw[q]at k;exact k.elim
  obtain⟨d0,T⟩:=hfd;have kk:=k.res2 T (Same.refl B);have e0:mU j n g f ρ=oQ ρ j n p fun Q=>xj ρ j p Q d0:=by unfold mU;rw[b_ ep,b_ T]
  obtain⟨hn,t,Q,hr,hg,e1⟩:=vy kk;rw[e1]at kk;subst hn;have e2:xj ρ j p Q d0=if aM Q.length=true then .nx (ρ.set j (some (iP p t (.lst (Q ++ [d0]))))) else .bad:=by unfold xj;rw[hr]
  rw[e2]at kk;by_cases hc:aM Q.length=true
  ·have e3:=(e0.trans e1).trans (e2.trans (if_pos hc));obtain⟨v1,b,ys,U,c0,c1,c2,c3,c4,c5,c6,c7,c8,c9⟩:=R1.path hm hr hg;rw[hv]at c0;cases c0;have:=hval.one c1;subst this;refine⟨.inl ⟨rfl,ys,.inl (.inl c2)⟩,?_⟩;refine⟨Ge,B,G1,ρ,fp,R1,by rw[T];trivial,fun d ed v G2 H2 S R2 sg2 sh2 o w=>?_⟩;rw[T]at ed;cases ed;refine⟨b,ys,v,rfl,rfl,sh2 _ _ c2,by rw[←c3.length];exact jb hc,?_⟩;obtain⟨v1,b2,ys2,U2,p0,p1,p2,p3,p4,p5,p6,p7,p8,p9⟩:=R2.path hm hr hg;rw[hv]at p0;cases p0;have:=(c1.mono sh2).one p1;cases this;rw[sh2 _ _ c2]at p2;cases p2;have fr:=R2.freshOf w R1;have neU:∀c,c∈U2→c≠b:=fun c P z=>p5 (z ▸ P);have neS:∀c,c∈S→c≠b:=fun c P z=>(fr c P).2 j (z ▸ p6);obtain⟨N,R3⟩:=p9 (ys ++ [v]) (Q ++ [d0]) (U2 ++ S) (.append (p3.mono fun d v A _ hA z=>z.mono (.refl _) fun c P u e=>by rw[ak (neU c (hA c P))];exact e) (.one (o.mono (.refl _) fun c P u e=>by rw[ak (neS c P)];exact e))) (nodup_append.mpr ⟨p4,w.1,fun c P c2 hc2 e=>by subst e;exact(fr c hc2).2 j (p7 c P)⟩) (fun c P=>(mem_append.mp P).imp id (fr c));exact⟨_,_,N,e3,rfl,R3,sg.trans sg2⟩
  ·rw[if_neg hc]at kk;exact kk.elim
 ·cases fl with
  |next=>
   obtain⟨σ',H',I',M,G',N,e1,e2,R',sg⟩:=J;subst e2;exact⟨M,_,G',H',N,e1,I',R',sg⟩
  |brk=>obtain⟨_,_,_,J⟩:=J;exact J.elim
  |cont=>obtain⟨_,_,_,J⟩:=J;exact J.elim
  |ret u=>obtain⟨_,_,_,_,_,J⟩:=J;exact J.elim
end
section
variable{X:Cx}{E:XK}{μ:List Nat}{r n j:Nat}
noncomputable def vZ (ρ:DS)(j:Nat)(p:List Nat)(row:List D)(d:D):Out:=match ρ[j]?,d with
 |some (some t),.lst l=>if aM (row.length+l.length)=true then .nx (ρ.set j (some (iP p t (.lst (row ++ l))))) else .bad
 |_,_=>.bad
noncomputable def qn (j n:Nat)(g:DS→Res (List Nat))(f:DS→Res D):DS→Out:=fun ρ=>(g ρ).out fun p=>(f ρ).out fun d=>oQ ρ j n p fun row=>vZ ρ j p row d
theorem AJ {o e:Expr}{apos cpos pos:Pos}{g:DS→Res (List Nat)}{f:DS→Res D}(hm:μ.getD j 0=0+1+n)(hpa:BR X E μ j o g)(h:PZ X E μ 0 e f)(hex:∀ρ c,f ρ≠ .exc c)
  (hs:starEach [e] X.env=(false,eval e X.env)::starEach [] X.env:=by rfl)
  (hbase:attributeBase o "extend" X.env (eval o X.env)=eval o X.env:=by rfl)
  (hfew:((backTo cpos (starEach [e] X.env)).all (fun x=> !x.1)&&(backToKw cpos (keywordEach [] X.env)).all (fun x=>x.1.isSome)&&decide (([e].length+([]:List Keyword).length+if ([]:List Keyword).isEmpty=true then 0 else 1)<30))=true:=by rfl)
  (hline:(apos.endLine==cpos.line)=true:=by rfl)
  (hsw:swapsWith (.Call (.Attribute o "extend" apos) [e] [] cpos) none pos.line X.env=pure false:=by rfl) :
  l9 X E μ r (.Expr (.Call (.Attribute o "extend" apos) [e] [] cpos) pos) (qn j n g f):=by
 intro pins s σ Ge B G H ρ fp I R ho;have hp:=nT (apos:=apos) (cpos:=cpos) (r:=qQ) PySem.F.plainAttrs_list PySem.F.slot_list_extend PySem.F.type_list_extend (show zj X "list.extend" qQ from wv) hpa (bH (uk h) dq hs) hbase hfew hline hs rfl;refine aW (iu hp hsw pins s σ H {nx:=fun σ' H'=>∃M G' N,qn j n g f ρ= .nx M∧σ'=σ∧Rw X.K μ Ge B G' H' σ M N∧Same G G',bk:=fun _ _=>False,ct:=fun _ _=>False,rt:=fun _ _=>False} I ⟨Ge,B,G,ρ,fp,R,ho.res,fun p ep v0 v G1 H1 hv hval R1 sg sh=>?_⟩) fun fl s1 J=>?_
 ·have k:=ho.res2 ep (Same.refl B);have hfd:∃d,f ρ= .ok d:=by
   cases q:f ρ with
   |ok d=>exact⟨d,rfl⟩
   |exc c=>exact absurd q (hex ρ c)
   |bad=>rw[q]at k;exact k.elim
  obtain⟨d0,T⟩:=hfd;have kk:=k.res2 T (Same.refl B);have e0:qn j n g f ρ=oQ ρ j n p fun Q=>vZ ρ j p Q d0:=by unfold qn;rw[b_ ep,b_ T]
  obtain⟨hn,t,Q,hr,hg,e1⟩:=vy kk;rw[e1]at kk;subst hn;unfold vZ at kk;rw[hr]at kk;cases d0 with
  |lst l=>
   dsimp only at kk;by_cases hc:aM (Q.length+l.length)=true
   ·have e2:vZ ρ j p Q (.lst l)= .nx (ρ.set j (some (iP p t (.lst (Q ++ l))))):=by unfold vZ;rw[hr];exact if_pos hc
    obtain⟨v1,b,ys,U,c0,c1,c2,c3,c4,c5,c6,c7,c8,c9⟩:=R1.path hm hr hg;rw[hv]at c0;cases c0;have:=hval.one c1;subst this;refine⟨.inl ⟨rfl,ys,.inl (.inl c2)⟩,Ge,B,G1,ρ,fp,R1,by rw[T];trivial,fun d ed v G2 H2 S R2 sg2 sh2 o w=>?_⟩;rw[T]at ed;cases ed;obtain⟨_,rp⟩:=o;rw[rep_lst]at rp;obtain⟨q,zs,rfl,lz,rl⟩:=rp;obtain⟨v1,b2,ys2,U2,p0,p1,p2,p3,p4,p5,p6,p7,p8,p9⟩:=R2.path hm hr hg;rw[hv]at p0;cases p0;have:=(c1.mono sh2).one p1;cases this;rw[sh2 _ _ c2]at p2;cases p2;obtain⟨eU,rr⟩:=p3.zero;obtain⟨N,R3⟩:=p9 (ys ++ zs) (Q ++ l) [] (.of0 (rr.append rl)) nodup_nil (fun c h=>by cases h);exact⟨b,q,ys,zs,rfl,rfl,sh2 _ _ c2,R2.gh _ _ lz.h,by rw[←rr.length,←rl.length];exact bu hc,_,_,N,(e0.trans e1).trans e2,rfl,R3,sg.trans sg2⟩
   ·rw[if_neg hc]at kk;exact kk.elim
  |_=>exact kk.elim
 ·cases fl with
  |next=>
   obtain⟨σ',H',I',M,G',N,e1,e2,R',sg⟩:=J;subst e2;exact⟨M,_,G',H',N,e1,I',R',sg⟩
  |brk=>obtain⟨_,_,_,J⟩:=J;exact J.elim
  |cont=>obtain⟨_,_,_,J⟩:=J;exact J.elim
  |ret u=>obtain⟨_,_,_,_,_,J⟩:=J;exact J.elim
end
noncomputable def cn (ks:List (List bw))(k:List bw):Option Nat:=ks.findIdx? (fun q=>decide (q=k))
theorem j4 {q k:List bw}{ks:List (List bw)}:cn (q::ks) k=if q=k then some 0 else (cn ks k).map (· + 1):=by
 unfold cn;rw[List.findIdx?_cons];by_cases e:q=k
 ·rw[decide_eq_true e,if_pos e];rfl
 ·rw[decide_eq_false e,if_neg e];rfl
theorem lB {k:List bw}:∀{kvs:List (List bw×V)} {m:Nat},cn (kvs.map (·.1)) k=some m→iQ kvs k=(kvs.map (·.2))[m]?
 | [],m,h=>by cases h
 |(q,v)::r,m,h=>by
  rw[map_cons,j4]at h;by_cases e:q=k
  ·rw[if_pos e]at h;cases h;exact k_ e
  ·rw[if_neg e]at h;cases z:cn (r.map (·.1)) k with
   |none=>rw[z]at h;cases h
   |some m'=>
    rw[z]at h;cases h;rw[jl e,lB z];rfl
theorem nD {k:List bw}{ks:List (List bw)}{m:Nat}(h:cn ks k=some m):m<ks.length:=by
 unfold cn at h;exact(List.findIdx?_eq_some_iff_getElem.mp h).1
theorem tW {k:List bw}{kvs:List (List bw×V)}(h:cn (kvs.map (·.1)) k=none):iQ kvs k=none:=by
 induction kvs with
 |nil=>rfl
 |cons p r ih=>
  rw[map_cons,j4]at h;by_cases e:p.1=k
  ·rw[if_pos e]at h;cases h
  ·rw[if_neg e]at h;rw[jl e];apply ih;cases z:cn (r.map (·.1)) k with
   |none=>rfl
   |some m'=>rw[z]at h;cases h
theorem pH {k:List bw}{v:V}:∀{kvs:List (List bw×V)},¬k∈kvs.map (·.1)→(kvs.map fun kv=>if kv.1=k then (kv.1,v) else kv)=kvs
 | [],_=>rfl
 |p::r,h=>by
  have h1:¬p.1=k:=fun e=>h (by rw[map_cons,e];exact mem_cons_self ..);rw[map_cons,if_neg h1,pH fun z=>h (eB z)]
theorem vz {k:List bw}{v:V}:∀{kvs:List (List bw×V)} {m:Nat},(kvs.map (·.1)).Nodup→cn (kvs.map (·.1)) k=some m→(kvs.map fun kv=>if kv.1=k then (kv.1,v) else kv).map (·.1)=kvs.map (·.1)∧(kvs.map fun kv=>if kv.1=k then (kv.1,v) else kv).map (·.2)=(kvs.map (·.2)).set m v
 | [],m,_,h=>by cases h
 |p::r,m,nd,h=>by
  rw[map_cons,j4]at h;rw[map_cons]at nd;obtain⟨n1,n2⟩:=nodup_cons.mp nd;by_cases e:p.1=k
  ·rw[if_pos e]at h;cases h;rw[map_cons,if_pos e,pH (by rw[←e];exact n1)];exact⟨rfl,rfl⟩
  ·rw[if_neg e]at h;cases z:cn (r.map (·.1)) k with
   |none=>rw[z]at h;cases h
   |some m'=>
    rw[z]at h;cases h;obtain⟨a,b⟩:=vz n2 z;rw[map_cons,if_neg e];exact⟨by rw[map_cons,map_cons,a],by rw[map_cons,map_cons,b];rfl⟩
theorem yN {k:List bw}{v:V}{kvs:List (List bw×V)}{m:Nat}(nd:(kvs.map (·.1)).Nodup)(h:cn (kvs.map (·.1)) k=some m):(fJ kvs k v).map (·.1)=kvs.map (·.1)∧(fJ kvs k v).map (·.2)=(kvs.map (·.2)).set m v:=by
 have e:fJ kvs k v=kvs.map fun kv=>if kv.1=k then (kv.1,v) else kv:=by
  unfold fJ;rw[if_pos (by rw[k9,lB h,iN (by rw[length_map];have:=nD h;rwa[length_map]at this)];rfl)]
 rw[e];exact vz nd h
noncomputable def md (ks:List (List bw))(l:List D)(k:List bw)(d:D):D:=match cn ks k with
 |some m=>.dct ks (l.set m d)
 |none=>.dct (ks ++ [k]) (l ++ [d])
noncomputable def qi (j:Nat)(ks:List (List bw))(l:List D)(ρ:DS)(d i:D):Out:=match i with
 |.tup kd=>(match fA kd with|some k=>if aM ks.length=true then .nx (ρ.set j (some (md ks l k d))) else .bad|none=>.bad)
 |_=>.bad
noncomputable def iY (j:Nat)(fi f:DS→Res D):DS→Out:=fun ρ=>match ρ[j]? with
 |some (some (.dct ks l))=>(f ρ).out fun d=>(fi ρ).out fun i=>qi j ks l ρ d i
 |_=>.bad
noncomputable def DN (ρ:DS)(j:Nat)(p:List Nat)(i:D):Res (List Nat):=match ρ[j]? with
 |some (some d)=>(match fy p d with
  |some (.dct ks l)=>(match i with|.tup kd=>(match fA kd with|some k=>(match cn ks k with|some m=>.ok (p ++ [m])|none=>.bad)|none=>.bad)|_=>.bad)
  |_=>.bad)
 |_=>.bad
noncomputable def zt (j n:Nat)(g:DS→Res (List Nat))(fi:DS→Res D):DS→Res (List Nat):=fun ρ=>(g ρ).bind fun p=>(fi ρ).bind fun i=>if p.length=n then DN ρ j p i else .bad
theorem lT {H:Hp}:∀{kvs:List (List bw×V)} {xs:List (List bw×Addr×Value)},Paired (fun (p:List bw×V) (q:List bw×Addr×Value)=>p.1=q.1∧H q.2.1=some (.tup (p.1.map kV))∧RelV p.2 q.2.2) kvs xs→kvs.map (·.1)=xs.map (·.1)
 |_,_,.nil=>rfl
 |_,_,.cons q t=>by rw[map_cons,map_cons,q.1,lT t]
theorem Inv.dnd {X:Cx}{pins:List (Addr×Obj)}{σ:St}{H:Hp}{s:Shared}{a:Addr}{kvs:List (List bw×V)}(I:Inv X pins σ H s)(h:H a=some (.dT kvs)):(kvs.map (·.1)).Nodup:=by
 obtain⟨_,_,xs,pr,_,_,_,_,_,_,_,nd⟩:=I.hok a _ h;rw[lT pr];exact nd
section
variable{X:Cx}{E:XK}{μ:List Nat}{r n j:Nat}
theorem mD {pos:Pos}:PN X E (n+1) (.Dict [] [] pos) (fun _=>.ok (.dct [] [])):=by
 intro pins s σ G H ρ I hs hr ho;refine aW (yr pins s σ H (fun v H'=>∃p,v= .ref p∧H p=none∧H'=a9 H p (.dT [])) I fun p hp=>⟨p,rfl,hp,rfl⟩) fun u s' hZ160=>?_;obtain⟨v,H',I',rv,p,e1,hp,e2⟩:=hZ160;subst e1 e2;refine⟨.dct [] [],rfl,.ref p,G,_,[p],I',rv,(Ext.refl hs).hnew hp _,⟨p,[],[],rfl,aq,rfl,rfl,rfl,rfl⟩,by simp,fun a ha=>?_⟩;have e:a=p:=by simpa using ha
 subst e;refine⟨hp,?_⟩;cases q:G a with
 |none=>rfl
 |some o=>have:=hs a o q;rw[hp]at this;cases this
theorem Bk {o i:Expr}{pos:Pos}{g:DS→Res (List Nat)}{fi:DS→Res D}{m:Nat}(hu:X.A.units+64<cLine)(hm:μ.getD j 0=m+1+n)(ho:BR X E μ j o g)(hi:PD X E i fi)(hpi:zn i:=by intro _ _;rfl):BR X E μ j (.Subscript o i pos) (zt j n g fi):=by
 intro pins s σ H Q I hZ27;obtain⟨Ge,B,G,ρ,fp,R,hok,k⟩:=hZ27;refine vn (pos:=pos) (by omega) ho (du hi) hpi pins s σ H Q I ?_;refine⟨Ge,B,G,ρ,fp,R,hok.fst,fun p ep v0 v G1 H1 hv hval R1 sg sh=>⟨mJ fp G1 H1,ρ,R1.vh,R1.ro,(hok.snd ep (Same.refl B)).fst.le R1.bh,fun di ei vi G3 H3 x3 ri=>?_⟩⟩;have K:=(hok.snd ep (Same.refl B)).snd ei (Same.refl B);by_cases hn:p.length=n
 ·subst hn;rw[if_pos rfl]at K;have e0:zt j p.length g fi ρ=DN ρ j p di:=by unfold zt;rw[ep,av,ei,av,if_pos rfl]
  unfold DN at K;cases hr:ρ[j]? with
  |none=>rw[hr]at K;exact K.elim
  |some od=>
  cases od with
  |none=>rw[hr]at K;exact K.elim
  |some d=>
  rw[hr]at K;dsimp only at K;cases hp:fy p d with
  |none=>rw[hp]at K;exact K.elim
  |some c=>
  rw[hp]at K;cases c with
  |dct ks l=>
   dsimp only at K;cases di with
   |tup kd=>
    dsimp only at K;cases q1:fA kd with
    |none=>rw[q1]at K;exact K.elim
    |some kq=>
    rw[q1]at K;dsimp only at K;cases q2:cn ks kq with
    |none=>rw[q2]at K;exact K.elim
    |some m'=>
    obtain⟨A,a,J,T,e1,e2,e4,e3,h1⟩:=R1.node (m:=m+1) hm hr hp xI hv hval;subst e1 e4;rw[rep_tup]at ri;obtain⟨b,xs,rfl,tb,rk⟩:=ri;have hx:=gG rk q1;subst hx;have hlt:m'<(J.map (·.2)).length:=by have:=nD q2;rwa[length_map]at this ⊢
    have hw:(J.map (·.2))[m']?=some ((J.map (·.2))[m']):=iN hlt;refine⟨a,(J.map (·.2))[m'],rfl,.inr ⟨J,kq,b,.inl (x3.hh _ _ e2),rfl,x3.gh _ _ tb.h,by rw[lB q2];exact hw.symm⟩,?_⟩;refine k (p ++ [m']) (e0.trans ?_) v0 _ (lQ (oq fp) G3) H3 hv ((hval.mono x3.hh).snoc (x3.hh _ _ e2) hw) (R1.grow x3) (sg.trans (R1.gg x3)) (sh.trans x3.hh);unfold DN;rw[hr];dsimp only;rw[hp];dsimp only;rw[q1];dsimp only;rw[q2]
   |_=>exact K.elim
  |_=>exact K.elim
 ·rw[if_neg hn]at K;exact K.elim
theorem mB {x:Str}{i e:Expr}{px tpos pos:Pos}{fi f:DS→Res D}(hu:X.A.units+64<cLine)(hm:μ.getD j 0=n+1)(hN:X.N[j]?=some x)(hv:uJ X.env.scope x)(hi:PD X E i fi)(h:PZ X E μ n e f)
  (hd:(x==("__debug__" :Str))=false:=by decide) (hcd:(x==("__classdict__" :Str))=false:=by decide)
  (hs:swapsWith e (some (.Subscript (.Name x px) i tpos)) pos.line X.env=pure false:=by rfl) :
  l9 X E μ r (.Assign [.Subscript (.Name x px) i tpos] e pos) (iY j fi f):=by
 intro pins s σ Ge B G H g Z I R ho;have hslot:∃U l,g[j]?=some (some (.dct U l)):=by
  unfold iY at ho;split at ho
  ·rename_i U l q;exact⟨U,l,q⟩
  ·exact ho.elim
 obtain⟨U,l,hr⟩:=hslot;have eo:iY j fi f g=(f g).out fun d=>(fi g).out fun i=>qi j U l g d i:=by
  unfold iY;rw[hr]
 rw[eo]at ho ⊢;have top:∀{G H:Hp},Rw X.K μ Ge B G H σ g Z→∃a J T,σ[j]?=some (some (.ref a))∧H a=some (.dT J)∧J.map (·.1)=U∧Z j=a::T∧AllW (Ow X.K G H n) l (J.map (·.2)) T:=fun {G H} R=>by
  obtain⟨v,hv,o⟩:=R.sl j _ hr;rw[hm]at o;obtain⟨a,J,T,e1,e2,e4,e3,h1⟩:=o;subst e1;exact⟨a,J,T,hv,e2,e4,e3,h1⟩
 obtain⟨a,J,T0,h1,h2,h4,h3,h5⟩:=top R;have nd:=I.dnd h2;have hp:=AT (pos:=pos) (pos':=tpos) (by omega) (fH (pos:=px) hN hv hd hcd) (du hi) (uk h) hs;refine aW (hp pins s σ H {nx:=fun σ' H'=>∃ρ' G' O,((f g).out fun d=>(fi g).out fun i=>qi j U l g d i)= .nx ρ'∧σ'=σ∧Rw X.K μ Ge B G' H' σ ρ' O∧Same G G',bk:=fun _ _=>False,ct:=fun _ _=>False,rt:=fun _ _=>False} I ⟨Ge,B,G,g,Z,R,ho.res,fun d ed v G1 H1 S R1 sg sh o w=>?_⟩) fun fl s1 M=>?_
 ·have k:=ho.res2 ed (Same.refl B);refine⟨_,h1,mJ Z G1 H1,g,R1.vh,R1.ro,k.res.le R1.bh,fun di ei vi G3 H3 x3 ri=>?_⟩;have kk:=k.res2 ei (Same.refl B);have e0:((f g).out fun d=>(fi g).out fun i=>qi j U l g d i)=qi j U l g d di:=by rw[b_ ed,b_ ei]
  unfold qi at kk;cases di with
  |tup kd=>
   dsimp only at kk;cases q1:fA kd with
   |none=>rw[q1]at kk;exact kk.elim
   |some V=>
   rw[q1]at kk;dsimp only at kk;by_cases t:aM U.length=true
   ·have e0:=e0.trans (show qi j U l g d (.tup kd)= .nx (g.set j (some (md U l V d))) by unfold qi;dsimp only;rw[q1];exact if_pos t);rw[rep_tup]at ri;obtain⟨b,xs,rfl,tb,rk⟩:=ri;have hx:=gG rk q1;subst hx;have P:=R1.grow x3;obtain⟨a2,kvs2,T,g1,g2,g4,g3,g5⟩:=top P;rw[h1]at g1;cases g1;rw[x3.hh _ _ (sh _ _ h2)]at g2;cases g2;have hcS:∀b∈S,∃u,H1 b=some u∧¬oG u:=fun b p=>let ⟨u,e,c⟩:=o.cell b p;⟨u,e,c.nokey⟩
    have w3:=w.keep hcS (fun i b p=>R.apart w i b p) x3;have fr:=P.freshOf w3 R;have o3:=o.mono (R1.gg x3) fun b _ u e=>x3.hh b u e;have hnd:=P.nd j;rw[g3]at hnd;obtain⟨haT,hTn⟩:=nodup_cons.mp hnd;have F:a∈Z j:=by rw[g3];exact mem_cons_self ..
    have W:∀b∈T,b∈Z j:=fun b p=>by rw[g3];exact eB p
    have neT:∀b,b∈T→b≠a:=fun b p z=>haT (z ▸ p);have neS:∀b,b∈S→b≠a:=fun b p z=>(fr b p).2 j (z ▸ F);have fin:∀(T':List Addr) (d':D),Ow X.K (lQ (oq Z) G3) (a9 H3 a (.dT (fJ J V v))) (n+1) d' (.ref a) (a::T')→T'.Nodup→(∀c∈T',c∈T∨c∈S)→md U l V d=d'→∃O,Rw X.K μ Ge B (lQ (oq Z) G3) (a9 H3 a (.dT (fJ J V v))) σ (g.set j (some d')) O:=fun T' d' ow ndT hT' _=>by
     refine⟨_,P.write F h1 (by rw[hm];exact ow) (nodup_cons.mpr ⟨fun z=>?_,ndT⟩) (fun c t=>?_) fun i hi c t hci=>?_⟩
     ·rcases hT' a z with y|y
      ·exact haT y
      ·exact neS a y rfl
     ·rcases mem_cons.mp t with z|z
      ·subst z;exact⟨P.gf j _ F,P.ob j _ F⟩
      ·rcases hT' c z with y|y
       ·exact⟨P.gf j _ (W c y),P.ob j _ (W c y)⟩
       ·exact(fr c y).1
     ·rcases mem_cons.mp t with z|z
      ·subst z;exact hi (P.dj i j _ hci F)
      ·rcases hT' c z with y|y
       ·exact hi (P.dj i j _ hci (W c y))
       ·exact(fr c y).2 i hci
    have key:∃O,Rw X.K μ Ge B (lQ (oq Z) G3) (a9 H3 a (.dT (fJ J V v))) σ (g.set j (some (md U l V d))) O:=by
     cases q2:cn U V with
     |some m=>
      rw[←h4]at q2;obtain⟨y1,y2⟩:=yN (v:=v) nd q2;have hml:m<l.length:=by rw[g5.length,length_map];have:=nD q2;rwa[length_map]at this
      obtain⟨w0,A,L,Q,f1,f2,f3,f4⟩:=g5.at (iN hml);have hT:=hTn;rw[f2]at hT;have Y:∀c,c∈L∨c∈Q→c∈T:=fun c t=>by rw[f2];rcases t with z|z;exact mem_append_left _ (mem_append_left _ z);exact mem_append_right _ z
      have big:=f4 (Ow X.K (lQ (oq Z) G3) (a9 H3 a (.dT (fJ J V v))) n) (fun d v C hC z=>z.mono (.refl _) fun b p u e=>by rw[ak (neT b (Y b (hC b p)))];exact e) d v S (o3.mono (.refl _) fun b p u e=>by rw[ak (neS b p)];exact e);have ed':md U l V d= .dct U (l.set m d):=by unfold md;rw[←h4,q2]
      rw[ed'];refine fin (L ++ S ++ Q) _ ⟨a,fJ J V v,L ++ S ++ Q,rfl,aq,by rw[y1,h4],rfl,by rw[y2];exact big⟩ (pI hT w.1 fun c t=>.inr ⟨fun z=>(fr c t).2 j (W c (Y c (.inl z))),fun z=>(fr c t).2 j (W c (Y c (.inr z)))⟩) (fun c t=>?_) ed'
      rcases mem_append.mp t with z|z
      ·rcases mem_append.mp z with y|y
       ·exact .inl (Y c (.inl y))
       ·exact .inr y
      ·exact .inl (Y c (.inr z))
     |none=>
      have q3:=q2;rw[←h4]at q3;have ek:fJ J V v=J ++ [(V,v)]:=yM v (tW q3);have ed':md U l V d= .dct (U ++ [V]) (l ++ [d]):=by unfold md;rw[q2]
      rw[ed'];refine fin (T ++ S) _ ⟨a,fJ J V v,T ++ S,rfl,aq,by rw[ek,map_append,h4];rfl,rfl,?_⟩ (nodup_append.mpr ⟨hTn,w.1,fun b p c t e=>by subst e;exact(fr b t).2 j (W b p)⟩) (fun c t=>mem_append.mp t) ed';rw[ek,map_append];refine AllW.append (g5.mono fun d v A _ hA z=>z.mono (.refl _) fun b p u e=>by rw[ak (neT b (hA b p))];exact e) (.one (o3.mono (.refl _) fun b p u e=>by rw[ak (neS b p)];exact e))
    obtain⟨O,R4⟩:=key;have h9:J.length<sizeLine:=by
     have e9:J.length=U.length:=by rw[←h4,length_map]
     rw[e9];exact jb t
    exact⟨a,_,rfl,.inr ⟨J,V,b,x3.hh _ _ (sh _ _ h2),rfl,x3.gh _ _ tb.h,h9,rfl⟩,_,_,O,e0,rfl,R4,sg.trans (R1.gg x3)⟩
   ·rw[if_neg t]at kk;exact kk.elim
  |_=>exact kk.elim
 ·cases fl with
  |next=>
   obtain⟨σ',H',I',ρ',G',O,e1,e2,R',sg⟩:=M;subst e2;exact⟨ρ',_,G',H',O,e1,I',R',sg⟩
  |brk=>obtain⟨_,_,_,M⟩:=M;exact M.elim
  |cont=>obtain⟨_,_,_,M⟩:=M;exact M.elim
  |ret u=>obtain⟨_,_,_,_,_,M⟩:=M;exact M.elim
end
theorem Ow.noCells {K:W.Frag}{G H:Hp}{n:Nat}{d:D}{v:V}(h:Ow K G H (n+1) d v []):L2.flat d=true∧Rep K G d v:=by
 cases d with
 |lst l=>obtain⟨a,xs,T,_,_,e,_⟩:=h;cases e
 |dct ks l=>obtain⟨a,xs,T,_,_,_,e,_⟩:=h;cases e
 |tup l=>
  rcases h with h|⟨a,xs,T,_,_,e,_⟩
  ·exact⟨h.1,h.2.2⟩
  ·cases e
 |_=>exact⟨h.1,h.2.2⟩
theorem AllW.noCells {K:W.Frag}{G H:Hp}{n:Nat}:∀{ds:List D} {vs:List V},AllW (Ow K G H (n+1)) ds vs []→flats ds=true∧RepL K G ds vs
 | [],_,h=>by rw[h.1];exact⟨by unfold flats;rfl,.nil⟩
 |d::ds,_,h=>by
  obtain⟨v,r,A,B,e1,e2,h1,h2⟩:=h;obtain⟨rfl,rfl⟩:=List.append_eq_nil_iff.mp e2.symm;subst e1;obtain⟨f1,r1⟩:=h1.noCells;obtain⟨f2,r2⟩:=AllW.noCells h2;exact⟨by unfold flats;rw[f1,f2];rfl,.cons r1 r2⟩
section
variable{X:Cx}{E:XK}{μ:List Nat}{r n:Nat}
theorem AQ {es:List Expr}{x1:Nat}{pos:Pos}{f:DS→Res (List D)}(h:DB X E (n+1) es f):PN X E (n+2) (.Tuple es x1 pos) (cS f):=by
 refine .tn (uj h) fun σ G H ρ Q hs hro ho k=>⟨G,ρ,hs,hro,ho.fst,fun ds e vs G1 H1 S x1 os w=>?_⟩;have kk:=ho.snd e x1.hh;by_cases hl:aM ds.length=true
 ·refine⟨by rw[←os.length];exact bu hl,fun p hp=>?_⟩;by_cases hS:S=[]
  ·subst hS;obtain⟨fl,rl⟩:=os.noCells;exact k (.tup ds) (am e (if_pos hl)) (.ref p) (a9 G1 p (.tup vs)) _ [] (x1.trans (.new x1.gh hp _)) (.inl ⟨by unfold L2.flat;exact fl,rfl,rep_tup.mpr ⟨p,vs,rfl,.of aq,rl.mono (Ext.new x1.gh hp _).gg⟩⟩) .nil
  ·have hpS:p∉S:=fun z=>by obtain⟨u,hu,_⟩:=os.has p z;rw[hp]at hu;cases hu
   have gp:G1 p=none:=by
    cases q:G1 p with
    |none=>rfl
    |some u=>rw[x1.gh p u q]at hp;cases hp
   have o1:AllW (Ow X.K G1 (a9 H1 p (.tup vs)) (n+1)) ds vs S:=os.mono fun d v A _ hA z=>z.mono (.refl _) fun b hb u e=>by
    have hne:b≠p:=fun zz=>hpS (zz ▸ hA b hb);rw[ak hne];exact e
   have w1:New H G1 (p::S):=⟨nodup_cons.mpr ⟨hpS,w.1⟩,fun a ha=>by
    rcases mem_cons.mp ha with z|z
    ·subst z;exact⟨x1.hh.free hp,gp⟩
    ·exact w.2 a z⟩
   exact k (.tup ds) (am e (if_pos hl)) (.ref p) G1 _ (p::S) (x1.hnew hp _) (.inr ⟨p,vs,S,rfl,aq,rfl,hS,o1⟩) w1
 ·rw[if_neg hl]at kk;exact kk.elim
noncomputable def sy (f g:DS→Res D):DS→Res D:=fun ρ=>(f ρ).bind fun a=>(g ρ).bind fun b=>.ok (.tup [a,b])
theorem Ow.pairUp {K:W.Frag}{Ge B G H:Hp}{σ:St}{ρ:DS}{fp:Nat→List Addr}{d1 d2:D}{v1 v2:V}{S1 S2:List Addr}{p:Addr}(R:Rw K μ Ge B G H σ ρ fp)(o1:Ow K G H (n+1) d1 v1 S1)(o2:Ow K G H (n+1) d2 v2 S2)(nd:(S1 ++ S2).Nodup)(hS:∀a∈S1 ++ S2,G a=none∧B a=none)(hp:H p=none) :
  ∃G' S,Ext Ge B G' (a9 H p (.tup [v1,v2]))∧Ow K G' (a9 H p (.tup [v1,v2])) (n+2) (.tup [d1,d2]) (.ref p) S∧New B G' S:=by
 have os:AllW (Ow K G H (n+1)) [d1,d2] [v1,v2] (S1 ++ S2):=⟨v1,[v2],S1,S2,rfl,rfl,o1,v2,[],S2,[],rfl,(append_nil _).symm,o2,rfl,rfl⟩;by_cases hn:S1 ++ S2=[]
 ·rw[hn]at os;obtain⟨fl,rl⟩:=os.noCells;have x:=R.ext.trans (.new R.gh hp (.tup [v1,v2]));exact⟨_,[],x,.inl ⟨by unfold L2.flat;exact fl,rfl,rep_tup.mpr ⟨p,_,rfl,.of aq,rl.mono (Ext.new R.gh hp _).gg⟩⟩,.nil⟩
 ·have hpS:p∉S1 ++ S2:=fun z=>by obtain⟨u,hu,_⟩:=os.has p z;rw[hp]at hu;cases hu
  have gp:G p=none:=by
   cases q:G p with
   |none=>rfl
   |some u=>rw[R.gh p u q]at hp;cases hp
  refine⟨G,p::(S1 ++ S2),R.ext.hnew hp _,.inr ⟨p,_,_,rfl,aq,rfl,hn,os.mono fun d v A _ hA z=>z.mono (.refl _) fun b hb u e=>by
   have hne:b≠p:=fun zz=>hpS (zz ▸ hA b hb);rw[ak hne];exact e⟩,nodup_cons.mpr ⟨hpS,nd⟩,fun a ha=>?_⟩
  rcases mem_cons.mp ha with z|z
  ·subst z;exact⟨R.bh.free hp,gp⟩
  ·exact⟨(hS a z).2,(hS a z).1⟩
theorem yC {j:Nat}{x:Str}{e:Expr}{x1:Nat}{px tp pos:Pos}{f:DS→Res D}(hm:μ.getD j 0=n+1)(hN:X.N[j]?=some x)(hv:uJ X.env.scope x)(h:PZ X E μ (n+1) e f)
  (hd:(x==("__debug__" :Str))=false:=by decide) (hcd:(x==("__classdict__" :Str))=false:=by decide)
  (hs:starEach [.Name x px,e] X.env=(false,eval (.Name x px) X.env)::starEach [e] X.env:=by rfl) (hs2:starEach [e] X.env=(false,eval e X.env)::starEach [] X.env:=by rfl) :
  l9 X E μ (n+2) (.Return (some (.Tuple [.Name x px,e] x1 tp)) pos) (bF (sy (ac j) f)):=by
 intro pins s σ Ge B G H ρ fp I R ho;have hp:=qP (pos:=pos) (uj (x1:=x1) (pos:=tp) (bH (fH (pos:=px) hN hv hd hcd) (bH (uk h) dq hs2) hs));have hslot:∃d2,ρ[j]?=some (some d2)∧ac j ρ= .ok d2:=by
  have h:=ho.res.fst;unfold ac at h;split at h
  ·rename_i l q;exact⟨l,q,by unfold ac;rw[q]⟩
  ·exact h.elim
 obtain⟨d2,hr,er⟩:=hslot;obtain⟨v2,h1,_⟩:=R.sl j _ hr;refine aW (hp pins s σ H {nx:=fun _ _=>False,bk:=fun _ _=>False,ct:=fun _ _=>False,rt:=fun v H'=>∃d G' S,sy (ac j) f ρ= .ok d∧Ext Ge B G' H'∧Ow X.K G' H' (n+2) d v S∧New B G' S} I ⟨v2,h1,Ge,B,G,ρ,fp,R,(ho.res.snd er (Same.refl B)).fst,fun d ed v G1 H1 S R1 sg sh o w=>?_⟩) fun fl s1 q=>?_
 ·obtain⟨v3,h3,o2⟩:=R1.sl j _ hr;rw[h1]at h3;cases h3;rw[hm]at o2;refine⟨(by show 2≤sizeLine;decide),fun p hp=>?_⟩;obtain⟨G',S',x,ow,nw⟩:=Ow.pairUp R1 o2 o (nodup_append.mpr ⟨R1.nd j,w.1,fun a ha b hb e=>by subst e;exact R.apart w j a hb ha⟩) (fun a ha=>by
   rcases mem_append.mp ha with z|z
   ·exact⟨R1.gf j a z,R1.ob j a z⟩
   ·exact⟨(w.2 a z).2,R.bh.free (w.2 a z).1⟩) hp
  exact⟨.tup [d2,d],G',S',am er (am ed rfl),x,ow,nw⟩
 ·cases fl with
  |next=>obtain⟨_,_,_,q⟩:=q;exact q.elim
  |brk=>obtain⟨_,_,_,q⟩:=q;exact q.elim
  |cont=>obtain⟨_,_,_,q⟩:=q;exact q.elim
  |ret u=>
   obtain⟨v,σ',H',I',rv,d,G',S,e,x,o,w⟩:=q;exact⟨d,v,σ',G',H',S,b_ e,I',rv,x,o,w⟩
noncomputable def Ft (X:Cx)(μ:List Nat)(st:Stmt)(F:DS→Out):Prop:=
 ∀(Et:Value→Shared→Prop) (pins:List (Addr×Obj)) (s:Shared) (σ:St) (Ge B G H:Hp) (ρ:DS) (fp:Nat→List Addr),Inv X pins σ H s→Rw X.K μ Ge B G H σ ρ fp→F ρ≠ .bad→
  (∀c,F ρ= .exc c→∀G1 H1 s1 ev s2,Inv X pins σ H1 s1→Rw X.K μ Ge B G1 H1 σ ρ fp→Same G G1→CXF X.prog X.w X.stack H1 s1 (fun cls _ H'=>cls= .ref c∧Same H1 H') ev s2→Et ev s2)→
  wpAny (model X.prog X.w) X.A (exec st X.env) (SM X μ 0 Ge B G pins (F ρ)) Et s
theorem mw:∀{n:Nat} {d:D},bU n d=true→bU (n+1) d=true
 |0,d,h=>lD h
 |n+1,d,h=>by
  cases d with
  |lst l=>unfold bU at h ⊢;exact all_eq_true.mpr fun x hx=>mw (all_eq_true.mp h x hx)
  |dct ks l=>unfold bU at h ⊢;exact all_eq_true.mpr fun x hx=>mw (all_eq_true.mp h x hx)
  |tup l=>
   unfold bU at h ⊢;rw[or_eq_true]at h ⊢;exact h.imp id fun z=>all_eq_true.mpr fun x hx=>mw (all_eq_true.mp z x hx)
  |_=>unfold bU at h ⊢;exact h
theorem Ow.ups {K:W.Frag}{G H:Hp}{d:D}{v:V}{S:List Addr}{n:Nat}(hf:bU n d=true)(h:Ow K G H n d v S):∀k,Ow K G H (n+k) d v S∧bU (n+k) d=true
 |0=>⟨h,hf⟩
 |k+1=>by
  obtain⟨a,b⟩:=Ow.ups hf h k;exact⟨a.up b,mw b⟩
theorem CXF.wk {P:Program}{w:World}{st:List Env}{H:Hp}{s s':Shared}{E E':XK}{ev:Value}(k:∀c a H,E c a H→E' c a H)(h:CXF P w st H s E ev s'):CXF P w st H s E' ev s':=by
 obtain⟨e,cls,a0,B,H',h1,h2,h3,h4,h5,h6,h7,h8,h9,q⟩:=h;exact⟨e,cls,a0,B,H',h1,h2,h3,h4,h5,h6,h7,h8,h9,k _ _ _ q⟩
theorem AV {k i r' dd:Nat}{g y:Str}{ps:List Str}{m:List D→Res D}{e:Expr}{es:List Expr}{gp cpos apos py:Pos}{fs:DS→Res (List D)}(hN:X.N.Nodup)(hj:X.N[i]?=some y)(hy:X.env.scope.names.lookup y=some .local)(hmi:μ.getD i 0=r' + dd)
  (C:Cal X.prog X.w X.K X.mg X.base g k ps (freshSp X.K r' m)) {j:Nat} (hr:Room j X.A) (ha:∀Et pn,lm (X.tr Et pn) oz (e::es) fs) (hax:∀ρ c,fs ρ≠ .exc c)
  (hkj:k≤j:=by decide) (hgc:Gl X g:=by rfl) (hdg:(g==("__debug__" :Str))=false:=by decide) (hst:starEach (e::es) X.env=(false,eval e X.env)::starEach es X.env:=by rfl) (hpl:(backTo cpos (starEach es X.env)).any (·.1)=false:=by rfl)
  (hsw:swapsWith (.Call (.Name g gp) (e::es) [] cpos) (some (.Name y py)) apos.line X.env=pure false:=by rfl) :
  Ft X μ (.Assign [.Name y py] (.Call (.Name g gp) (e::es) [] cpos) apos) (aJ i (si r' (bf fs m))):=by
 intro Et pins s σ Ge B G H ρ fp I R hnb hex;obtain⟨f,fd,F,hb,hmc,hk⟩:=C.ex;have I':=I.tr (pins:=pins) Et;have hiσ:i<σ.length:=by rw[I.len];exact(gz hj).1
 have hfs:∃V,fs ρ= .ok V:=by
  cases q:fs ρ with
  |ok V=>exact⟨V,rfl⟩
  |exc c=>exact absurd q (hax ρ c)
  |bad=>exact(hnb (by unfold aJ si bf;rw[q];rfl)).elim
 obtain⟨V,eds⟩:=hfs;have eF:aJ i (si r' (bf fs m)) ρ=((m V).bind fun d=>if bU r' d=true then .ok d else .bad).out fun d=>.nx (ρ.set i (some d)):=by unfold aJ si bf;rw[eds];rfl
 have ev:wpAny (model X.prog X.w) X.A (eval (.Call (.Name g gp) (e::es) [] cpos) X.env) (EP (X.tr Et (X.pn ++ pins)) [] σ fun v H2=>∃d G' S,m V= .ok d∧bU r' d=true∧Rw X.K μ Ge B G' H2 σ ρ fp∧Same G G'∧Ow X.K G' H2 r' d v S∧New H G' S) Et s:=by
  refine wpAny_Call_Name_kw (jB (X:=X.tr Et (X.pn ++ pins)) I' hgc hmc ?_ hdg);refine W.callWith_K (h₀:=X.base) I'.ok.mod.kin hk (aW (ha Et _ cpos [] s σ (mJ fp G H) H ρ I' R.vh R.ro (by rw[eds];trivial)) fun us s1 ⟨ds',eds',vs,G1,H1,I1,r1,x1,rl⟩=>⟨I1.kIn,?_⟩) hst hpl;rw[eds]at eds';cases eds';refine Dj (X:=X.tr Et (X.pn ++ pins)) (E:=fun cls _ H'=>∃c,m V= .exc c∧cls= .ref c∧Same H1 H') F (hr.mono hkj) hb .nil I1 (fun ev s2 hx=>?_) r1 ⟨V,G1,x1.gh,by rw[append_nil];exact rl,?_,fun d ed v G3 H3 S x3 o w=>?_⟩
  ·have hc:∃c,m V= .exc c:=by
    obtain⟨_,_,_,_,_,_,_,_,_,_,_,_,_,_,c,hc,_⟩:=hx;exact⟨c,hc⟩
   obtain⟨c,hc⟩:=hc;exact hex c (by rw[eF,hc];rfl) _ H1 s1 ev s2 (I1.untr I.ok) (R.grow x1) (R.gg x1) (CXF.wk (fun cls a H' hZ162=>(by obtain⟨c',h1,h2,h3⟩:=hZ162;rw[hc]at h1;cases h1;exact⟨h2,h3⟩)) hx)
  ·cases q:m V with
   |ok d=>trivial
   |exc c=>exact fun H' s'=>⟨c,rfl,rfl,s'⟩
   |bad=>exact(hnb (by rw[eF,q];rfl)).elim
  ·by_cases hl:bU r' d=true
   ·have x:=x1.trans x3;exact⟨d,_,S,ed,hl,R.grow x,R.gg x,o.hide (R.cells x) hl,w.1,fun a ha=>⟨x1.hh.free (w.2 a ha).1,by
     cases q:lQ (oq fp) G3 a with
     |none=>rfl
     |some u=>have:=(i8 q).2;rw[(w.2 a ha).2]at this;cases this⟩⟩
   ·refine(hnb ?_).elim;rw[eF,ed];show ((if bU r' d=true then Res.ok d else .bad).out fun d=>Out.nx (ρ.set i (some d)))= .bad
    rw[if_neg hl];rfl
 refine wpAny_Assign_Name (aW ev fun v s1 ⟨w,H1,I1,r1,d,G',S,ed,hl,R',sg,o,nw⟩=>k8 (I1.untr I.ok) hN hj (.inl hy) r1 (fun s2 I2=>?_) (.inr hy)) hsw;refine⟨ρ.set i (some d),_,G',H1,_,?_,I2,R'.put hiσ (by rw[hmi];exact(o.ups hl dd).1) nw.1 (fun a ha=>⟨(nw.2 a ha).2,R.bh.free (nw.2 a ha).1⟩) (fun j _=>R.apart nw j),sg⟩;rw[eF,ed];show ((if bU r' d=true then Res.ok d else .bad).out fun d=>Out.nx (ρ.set i (some d)))=_
 rw[if_pos hl];rfl
noncomputable def jK (i:Nat)(cs:List Addr)(F Fh:DS→Out):DS→Out:=fun ρ=>match F ρ with
 |.exc c=>if cs.contains c=true then (match Fh (ρ.set i (some (.xc c))) with|.rt d=>.rt d|_=>.bad) else .bad
 |.nx ρ'=>.nx ρ'
 |_=>.bad
theorem De {x n0:Str}{i:Nat}{C:Addr}{cs:List Addr}{st b₀:Stmt}{suite:List Stmt}{np hpos pos:Pos}{F Fh:DS→Out}(hN:X.N.Nodup)(hi:X.N[i]?=some n0)(hl:X.env.scope.names.lookup n0=some .local)(hmi:μ.getD i 0=0)(hm:X.mg x=some (.ref C))(hs:X.stack=X.env::X.outer)(hf:X.env.frame=some X.env.locals)
  (hcs:∀c∈cs,W.exmOne X.K (.ref c) (.ref C)=some true∧ExcK X.K c) (hb:Ft X μ st F) (hh:∀(e:Addr) (E':Value→Shared→Prop),tu (X.inH e E') oz μ r (b₀::suite) Fh) (hg:Gl X x:=by rfl)
  (hdb:(x==("__debug__" :Str))=false:=by decide) :
  l9 X E μ r (.Try [st] [.ExceptHandler (some (.Name x np)) (some n0) (b₀::suite) hpos] [] [] pos) (jK i cs F Fh):=by
 intro y s σ Ge B G H g fp I R O;have hiσ:i<σ.length:=by rw[I.len];exact(gz hi).1
 have hnb:F g≠ .bad:=fun z=>by unfold jK at O;rw[z]at O;exact O
 refine wpAny_Try_except ?_;generalize hEt:(fun (e:Value) (s₁:Shared)=>wpAny (model X.prog X.w) X.A (noteFrame e X.env) (fun _ s₂=>wpAny (model X.prog X.w) X.A (setFlight e Option.none) (fun _ s₃=>wpAny (model X.prog X.w) X.A (handleBy e X.env [.ExceptHandler (some (.Name x np)) (some n0) (b₀::suite) hpos]) (SM X μ r Ge B G y (jK i cs F Fh g)) X.xe s₃) X.xe s₂) X.xe s₁)=Et;have Y:∀c,F g= .exc c→∀Z H1 s1 ev a,Inv X y σ H1 s1→Rw X.K μ Ge B Z H1 σ g fp→Same G Z→CXF X.prog X.w X.stack H1 s1 (fun cls _ H'=>cls= .ref c∧Same H1 H') ev a→Et ev a:=by
  intro c hc Z H1 s1 ev a J R1 sg hx;have ho':=O;unfold jK at ho';rw[hc]at ho';dsimp only at ho';have hcc:cs.contains c=true:=by
   cases q:cs.contains c with
   |true=>rfl
   |false=>rw[q]at ho';exact ho'.elim
  rw[if_pos hcc]at ho';have hrt:∃d,Fh (g.set i (some (.xc c)))= .rt d:=by
   cases q:Fh (g.set i (some (.xc c))) with
   |rt d=>exact⟨d,rfl⟩
   |_=>rw[q]at ho';exact ho'.elim
  obtain⟨d0,ed0⟩:=hrt;have eT:jK i cs F Fh g= .rt d0:=by unfold jK;rw[hc];dsimp only;rw[if_pos hcc,ed0]
  obtain⟨hmat,hek⟩:=hcs c (by simpa using hcc);obtain⟨e,cls,a0,Bh,H2,rfl,fl,hn,⟨ecl,sH⟩,Y⟩:=J.landed hx;subst ecl;show Et (.ref e) a;rw[←hEt];show wpAny _ _ (noteFrame (.ref e) X.env) _ _ a;rw[hs]at fl;refine wpAny_looks_onW (base:=Bh) (outer:=X.outer) (L:=X.env.locals) (by rw[I.ok.frames,hs]) hf fl fun h4 held4 up4=>?_;refine wpAny_landsW held4 fun h5 fl5 up5=>?_;have up5':=up4.trans up5;obtain⟨_,J5⟩:=Y h5 a.toks (by rw[hs];exact fl5) up5';have mk:∀(Ex:Value→Shared→Prop),Inv (X.inH e Ex) y σ H2 {a with heap:=h5}:=fun Ex=>J5.inH e Ex
  refine wpAny_handleBy_cons (codeAny_handlers_test (jB (X:=X.inH e (fun _ _=>True)) (mk _) hg hm ?_ hdb)) (by intro q;cases q);obtain⟨ob,hob,hcl⟩:=fl5.there;have LT:W.Looks (model X.prog X.w) h5 (typeOf (.ref e)) (.ref c):=hcl ▸ (W.Looks.ld hob).andThen .now;refine(W.exm_one (M:=model X.prog X.w) J5.kIn LT hmat).here ?_;show codeAny _ _ _ _ _;refine codeAny_handlers_suite_as ?_;refine lands_againW (s:={a with heap:=h5}) fl5 fun h6 fl6 up6=>?_
  obtain⟨J6,_⟩:=Y h6 a.toks (by rw[hs];exact fl6) (up5'.trans up6);refine k8 (X:=X) (i:=i) (v:=.ref e) J6 hN hi (.inl hl) rfl (fun s7 J7=>?_) (.inr hl);generalize hEx:(fun (x:Value) (s₃:Shared)=>_)=Ex;have x2:Ext Z H1 (a9 Z e (l8 e (.ref c))) (a9 H2 e (l8 e (.ref c))):=by
   have hs2:Same Z H2:=R1.gh.trans sH;have x0:Ext Z H1 Z H2:=⟨sH,.refl _,hs2,fun b o h=>.inl h⟩;exact x0.trans (.new hs2 hn _)
  have R2:Rw X.K μ Ge B (a9 Z e (l8 e (.ref c))) (a9 H2 e (l8 e (.ref c))) σ g fp:=R1.growF x2;have R3:=R2.set0 (i:=i) (d:=.xc c) (v:=.ref e) hiσ hmi (rep_xc.mpr ⟨e,rfl,aq,hek⟩);refine wpAny_mono (hh e Ex y s7 _ Ge B _ _ _ _ (J7.inH e Ex) R3 (by rw[ed0];trivial)) (fun f s8 q8=>?_) fun x s8 q8=>q8;rw[ed0]at q8;cases f with
  |next=>obtain⟨_,_,_,_,_,q,_⟩:=q8;cases q
  |brk=>obtain⟨_,_,_,_,_,q,_⟩:=q8;cases q
  |cont=>obtain⟨_,_,_,_,_,q,_⟩:=q8;cases q
  |ret u=>
   obtain⟨d,v,σ8,G8,H8,S8,q,J8,r8,x8,o8,w8⟩:=q8;obtain⟨m8,n8,_⟩:=J8.loc;refine wpAny_nameGoes hl n8 (by rw[I.ok.kind];rfl) fun h9 m9 n9 sb=>?_;rw[eT];cases q;exact⟨d0,v,_,G8,H8,S8,rfl,(J8.outH I.ok).forget sb n9,r8,x8,o8,w8⟩
 have body:wpAny (model X.prog X.w) X.A (execs [st] X.env) (SM X μ r Ge B G y (jK i cs F Fh g)) Et s:=by
  refine wpAny_execs_cons (aW (hb Et y s σ Ge B G H g fp I R hnb Y) fun fl s1 q=>?_);cases fl with
  |next=>
   obtain⟨ρ',σ',G',H',fp',e,q,q1,q2⟩:=q;exact wpAny_execs_nil ⟨ρ',σ',G',H',fp',by unfold jK;rw[e],q,q1,q2⟩
  |brk=>obtain⟨_,_,_,_,_,e,_⟩:=q;unfold jK at O;rw[e]at O;exact O.elim
  |cont=>obtain⟨_,_,_,_,_,e,_⟩:=q;unfold jK at O;rw[e]at O;exact O.elim
  |ret u=>obtain⟨_,_,_,_,_,_,e,_⟩:=q;unfold jK at O;rw[e]at O;exact O.elim
 refine wpAny_mono body (fun f s1 q1=>?_) fun e s1 q1=>q1;cases f with
 |next=>exact wpAny_execs_nil q1
 |brk=>exact q1
 |cont=>exact q1
 |ret u=>exact q1
end
noncomputable def tV (l:List D)(d:D):Option Nat:=l.findIdx? fun y=>b0 y d
noncomputable def fR (d e:D):Res D:=match d with
 |.lst l=>if plL 19 l=true∧a_ 19 e=true∧aM l.length=true then (match tV l e with|some j=>.ok (.int (j:Nat))|none=>.bad) else .bad
 |_=>.bad
noncomputable def yO (K:W.Frag):V→List V→Hp→VK→Prop:=fun x vs H Q=>∃G l dx y j,Same G H∧Rep K G (.lst l) x∧vs=[y]∧Rep K G dx y∧plL 19 l=true∧a_ 19 dx=true∧aM l.length=true∧tV l dx=some j∧Q (.int (j:Nat)) H
section
variable{X:Cx}{E:XK}{μ:List Nat}{r n:Nat}
theorem yd (hu:X.A.units+64<cLine):zj X "list.index" (yO X.K):=by
 intro pins s σ H x vs v us Q I rx rv h;obtain⟨G,l,dx,y,j,hs,rl,rfl,ry,hp,hd,hlk,hj,q⟩:=h;rw[rep_lst]at rl;obtain⟨a,xs,rfl,sq,rl⟩:=rl;cases rx;obtain⟨u,rfl,ru⟩:=rv.one;obtain⟨B,r,p⟩:=I.isLst (hs.seq sq.sq);obtain⟨⟨cls,dd,data,sl⟩,ho,hc,n,hdt⟩:=id p;simp only at hc hdt;subst hc hdt;obtain⟨hjl,hjt,hjn⟩:=List.findIdx?_eq_some_iff_getElem.mp hj;have len1:=rl.length;have len2:=r.length;have at':∀m (h1:m<l.length) (h2:m<B.toArray.size),wY X.K G l dx B.toArray[m]=b0 l[m] dx:=fun m h1 h2=>by
  obtain⟨z,hz,rz⟩:=rl.get (iN h1);obtain⟨w,hw,rw'⟩:=r.get hz;have e:B.toArray[m]=w:=by
   have:B.toArray[m]?=some w:=by rw[List.getElem?_toArray];exact hw
   rw[getElem?_eq_getElem h2]at this;exact Option.some.inj this
  rw[e];exact gj I hs hp (getElem_mem h1) rz rw'
 have hsz:B.toArray.size=l.length:=by rw[size_toArray];omega
 have hlk':l.length≤100000:=of_decide_eq_true hlk;refine call_meets PySem.F.slot_list_index ⟨_,ho,rfl⟩ PySem.F.entry_list_index (PySem.F.args_list_index_2 _ _) (PySem.SeqAt.list_indexAt a B.toArray n dd sl u (wY X.K G l dx) j (by omega) (by omega) ((at' j hjl (by omega)).trans hjt) fun m hm hlt=>?_) ⟨ho,fun w hw=>?_,?_⟩
 ·rw[at' m (by omega) hm];have:=hjn m hlt;simpa using this
 ·obtain⟨d,z,h1,h2,h3⟩:=kL rl r (by simpa using hw);rw[gj I hs hp h1 h2 h3];exact(nh I hs 19 19 d dx z y w u _ (dw hp h1) hd h2 ry h3 ru (by show X.A.units+1+19<cLine;omega)).1
 ·exact⟨.int (j:Nat),H,I.tok _,⟨_,rfl⟩,q⟩
theorem je {o e:Expr}{apos cpos:Pos}{fo fe:DS→Res D}(hu:X.A.units+64<cLine)(hoo:PD X E o fo)(he:PD X E e fe)(hex:∀ρ c,fe ρ≠ .exc c)
  (hs:starEach [e] X.env=(false,eval e X.env)::starEach [] X.env:=by rfl)
  (hbase:attributeBase o "index" X.env (eval o X.env)=eval o X.env:=by rfl)
  (hfew:((backTo cpos (starEach [e] X.env)).all (fun x=> !x.1)&&(backToKw cpos (keywordEach [] X.env)).all (fun x=>x.1.isSome)&&decide (([e].length+([]:List Keyword).length+if ([]:List Keyword).isEmpty=true then 0 else 1)<30))=true:=by rfl)
  (hline:(apos.endLine==cpos.line)=true:=by rfl):PD X E (.Call (.Attribute o "index" apos) [e] [] cpos) (ae fo fe fR):=by
 intro pins s σ G H ρ I hsm hro hok;have hp:=nT (apos:=apos) (cpos:=cpos) (r:=yO X.K) PySem.F.plainAttrs_list PySem.F.slot_list_index PySem.F.type_list_index (yd hu) (du hoo) (bH (du he) dq hs) hbase hfew hline hs rfl;refine aW (hp pins s σ H (fun v H'=>∃d G',ae fo fe fR ρ= .ok d∧Ext G H G' H'∧Rep X.K G' d v) I ⟨G,ρ,hsm,hro,hok.fst,fun d1 e1 v1 G1 H1 x1 p1=>?_⟩) fun u s' hZ164=>(by obtain⟨v,H',I',r',d,G',e,x,rp⟩:=hZ164;exact⟨d,e,v,G',H',I',r',x,rp⟩);have kk:=hok.snd e1 x1.hh;have ty:∃l,d1= .lst l:=by
  cases q:fe ρ with
  |ok d2=>
   have L:=kk.snd q (Same.refl H1);unfold fR at L;split at L
   ·exact⟨_,rfl⟩
   ·exact L.elim
  |exc c=>exact absurd q (hex ρ c)
  |bad=>rw[q]at kk;exact kk.elim
 obtain⟨l,rfl⟩:=ty;have p1':=p1;rw[rep_lst]at p1';obtain⟨a,xs,rfl,sq,rl⟩:=p1';refine⟨.inl ⟨rfl,xs,x1.gh.seq sq.sq⟩,G1,ρ,x1.gh,hro.mono x1.gg,kk.fst,fun d2 e2 v2 G2 H2 x2 p2=>?_⟩;have L:=kk.snd e2 x2.hh;have eo:ae fo fe fR ρ=fR (.lst l) d2:=by unfold ae;rw[e1,av,e2,av]
 unfold fR at L;dsimp only at L;by_cases hc:plL 19 l=true∧a_ 19 d2=true∧aM l.length=true
 ·rw[if_pos hc]at L;cases q:tV l d2 with
  |none=>rw[q]at L;exact L.elim
  |some j=>
   have e3:fR (.lst l) d2= .ok (.int (j:Nat)):=by unfold fR;dsimp only;rw[if_pos hc,q]
   exact⟨G2,l,d2,v2,j,x2.gh,p1.mono x2.gg,rfl,p2,hc.1,hc.2.1,hc.2.2,q,.int (j:Nat),G2,eo.trans e3,x1.trans x2,rep_int.mpr rfl⟩
 ·rw[if_neg hc]at L;exact L.elim
end
theorem pJ:∀(ρ:DS) (c:Addr),pN ρ≠ .exc c:=fun ρ c h=>by cases h
theorem gL {f:DS→Res D}{g:DS→Res (List D)}(hf:∀ρ c,f ρ≠ .exc c)(hg:∀ρ c,g ρ≠ .exc c):∀ρ c,pC f g ρ≠ .exc c:=fun ρ c h=>by
 unfold pC at h;cases q:f ρ with
 |ok d=>
  rw[q]at h;cases q2:g ρ with
  |ok d=>rw[q2]at h;cases h
  |exc e=>exact hg ρ e q2
  |bad=>rw[q2]at h;cases h
 |exc e=>exact hf ρ e q
 |bad=>rw[q]at h;cases h
theorem va {μ:List Nat}{f:DS→Res D}(hf:∀ρ c,f ρ≠ .exc c):∀ρ c,bJ μ f ρ≠ .exc c:=fun ρ c h=>hf _ c h
theorem nP {f:DS→Res (List D)}(hf:∀ρ c,f ρ≠ .exc c):∀ρ c,cS f ρ≠ .exc c:=fun ρ c h=>by
 unfold cS at h;cases q:f ρ with
 |ok d=>rw[q,av]at h;split at h <;> cases h
 |exc e=>exact hf ρ e q
 |bad=>rw[q]at h;cases h
section
variable{j jr n m:Nat}{g:DS→Res (List Nat)}{fi f:DS→Res D}{ρ:DS}{p:List Nat}{t d:D}{l rows:List D}{c:Int}
theorem xA (h:ρ[j]?=some (some d)):tE j ρ= .ok []:=by unfold tE;rw[h]
theorem uV {F:List D→Out}(hn:p.length=n)(ht:ρ[j]?=some (some t))(hp:fy p t=some (.lst rows)):oQ ρ j n p F=F rows:=by
 unfold oQ;rw[if_pos hn,ht];dsimp only;rw[hp]
theorem uQ (hg:g ρ= .ok p)(hf:f ρ= .ok d)(hn:p.length=n)(ht:ρ[j]?=some (some t))(hp:fy p t=some (.lst rows))(hr:rows.length≤100000):mU j n g f ρ= .nx (ρ.set j (some (iP p t (.lst (rows ++ [d]))))):=by
 unfold mU;rw[hg,cz,hf,cz,uV hn ht hp];unfold xj;rw[ht];exact if_pos (decide_eq_true hr)
theorem zG (hg:g ρ= .ok p)(hf:f ρ= .ok (.lst l))(hn:p.length=n)(ht:ρ[j]?=some (some t))(hp:fy p t=some (.lst rows))(hr:rows.length+l.length≤100000):qn j n g f ρ= .nx (ρ.set j (some (iP p t (.lst (rows ++ l))))):=by
 unfold qn;rw[hg,cz,hf,cz,uV hn ht hp];unfold vZ;rw[ht];exact if_pos (decide_eq_true hr)
theorem mq {ks:List (List bw)}{k:List bw}{kd:List D}(ht:ρ[j]?=some (some (.dct ks l)))(hf:f ρ= .ok d)(hi:fi ρ= .ok (.tup kd))(hk:fA kd=some k)(hl:ks.length≤100000):iY j fi f ρ= .nx (ρ.set j (some (md ks l k d))):=by
 unfold iY;rw[ht];dsimp only;rw[hf,cz,hi,cz];unfold qi;dsimp only;rw[hk];exact if_pos (decide_eq_true hl)
theorem B9 {ks:List (List bw)}{k:List bw}{kd:List D}(hg:g ρ= .ok p)(hn:p.length=n)(hi:fi ρ= .ok (.tup kd))(hk:fA kd=some k)(ht:ρ[j]?=some (some t))(hp:fy p t=some (.dct ks l))(hm:cn ks k=some m):zt j n g fi ρ= .ok (p ++ [m]):=by
 unfold zt;rw[hg,av,hi,av,if_pos hn];unfold DN;rw[ht];dsimp only;rw[hp];dsimp only;rw[hk];dsimp only;rw[hm]
end
theorem len1 {α:Type}{P:List α→Prop}(h:∀a,P [a]):∀us:List α,us.length=1→P us
 | [a],_=>h a
theorem len2 {α:Type}{P:List α→Prop}(h:∀a b,P [a,b]):∀us:List α,us.length=2→P us
 | [a,b],_=>h a b
theorem nF {α:Type}{P:List α→Prop}(h:∀a b c,P [a,b,c]):∀us:List α,us.length=3→P us
 | [a,b,c],_=>h a b c
theorem E4 {α:Type}{P:List α→Prop}(h:∀a b c d,P [a,b,c,d]):∀us:List α,us.length=4→P us
 | [a,b,c,d],_=>h a b c d
theorem Eb {α:Type}{P:List α→Prop}(h:∀a b c d e,P [a,b,c,d,e]):∀us:List α,us.length=5→P us
 | [a,b,c,d,e],_=>h a b c d e
section
variable{K:W.Frag}{f:Addr}{x y:Str}{s:Stmt}{m:Str}{t c:Nat}
noncomputable def kf (x y:Str)(s:Stmt)(m:Str)(t c:Nat):Obj:=⟨.type "function",none,.func (W.fnOf x y (ig s) (cN s) (aj s) .none .none .none (.str m t) none (.ref c) .none),#[]⟩
inductive FK (K:W.Frag)(f:Addr)(x y:Str)(s:Stmt):Prop
 |mk (m:Str) (t c:Nat) (l:K.lookup f=some (kf x y s m t c)) (d:W.codeIn K (.ref c) y=true)
inductive FT (K:W.Frag)(x:Str)(s:Stmt):Prop
 |mk (f:Addr) (a:W.nsIn K mainGlobals x=some (some (.ref f))) (g:FK K f x x s)
inductive FM (K:W.Frag)(C:Addr)(x y:Str)(s:Stmt):Prop
 |mk (f:Addr) (a:W.findIn K (.ref C) x=some (some (.ref f))) (g:FK K f x y s)
theorem qA (l:K.lookup f=some (kf x y s m t c)):W.keepIn K (.ref f)=true:=by
 unfold W.keepIn;dsimp only;rw[l];rfl
theorem FK.kp:FK K f x y s→W.keepIn K (.ref f)=true
 |⟨_,_,_,l,_⟩=>qA l
theorem FK.fn:FK K f x y s→W.isFn K (.ref f)=true
 |⟨_,_,_,l,_⟩=>by
  unfold W.isFn W.typeIn;dsimp only;rw[l];rfl
theorem FK.mk1:FK K f x y s→∃fd,Fun K x y s f fd
 |⟨_,_,_,l,d⟩=>⟨_,xL l d (qA l)⟩
theorem k7 {h:Heap}{mg:Str→Option Value}{ps:List Str}(X:K.In h)(G:h.Ns mainGlobals mg)(g:FT K x s)
  (b:∀(kV doc pm:Value) (an:Option Addr) (cdv ct:Value) (us:List Value),us.length=ps.length→bindArgs (W.fnOf x x (ig s) (cN s) (aj s) .none kV doc pm an cdv ct) ⟨us,[]⟩=pure (ps.zip us)):Sta K mg x s ps:=by
 obtain⟨f,a,g⟩:=g;obtain⟨fd,F⟩:=g.mk1;exact⟨f,fd,F,F.binds b,W.mg_of X G a,g.kp⟩
end
end L2
namespace L2
open PySem
noncomputable def RawD (h:Heap)(d:Addr)(es:Array DictEntry)(ep:Nat):Prop:=∃o,h.get? d=some o∧o.ExactDict∧o.data= .dict es ep
theorem RawD.ty {s:Shared}{d:Addr}{es:Array DictEntry}{ep:Nat}(r:RawD s.heap d es ep):s.TypeIs (.ref d) "dict" :=let ⟨o,e,x,_⟩:=r;⟨o,e,x.1⟩
section
variable{P:Program}{w:World}{A:Around}{E:Value→Shared→Prop}{s:Shared}{d it:Addr}{es:Array DictEntry}{ep i:Nat}
theorem yP {Q:Value→Shared→Prop}(hd:(d==sysModules)=false)(r:RawD s.heap d es ep)
  (q:Q (.ref s.heap.objs.size) {s with heap:=s.heap.push ⟨.type "dict_keyiterator",none,.fields #[.ref d,.int 0 0,.int es.size 0,.int ep 0],#[]⟩}):wpAny (model P w) A (pyIter (.ref d)) Q E s:=by
 have ty:=r.ty;obtain⟨o,e,x,dt⟩:=r;refine wpAny_pyIter_slot ty PySem.F.slot_dict_iter (wpAny_call_entry PySem.F.slot_dict_iter ty PySem.F.entry_dict_iter ?_ (PySem.F.args_dict_iter_1 _));unfold Builtin.«dict.__iter__» Builtin.Dict.dictSlotNone;refine wpAny_bind (wpAny_bind (wpAny_notOrdered_dict ty (by show wpAny _ _ (pure (Value.ref d)) _ _ s;refine wpAny_pure ?_;show wpAny _ _ (Builtin.Dict.showsAll d >>= _) _ _ s;unfold Builtin.Dict.showsAll;rw[if_neg (by rw[hd];exact Bool.false_ne_true)];refine wpAny_bind (wpAny_pure ?_);refine wpAny_bind (wpAny_dictEntries e dt ?_);refine wpAny_bind (wpAny_dictEpoch e dt ?_);refine wpAny_bind (wpAny_newObj_type (wpAny_pure ⟨_,rfl,"dict_keyiterator",_,⟨_,Heap.get?_push_size _ rfl,rfl⟩,PySem.F.slot_dict_keyiterator_next.lookup,?_⟩));simpa [rawInt] using q)))
theorem yQ {Q:Option Value→Shared→Prop}(hit:s.heap.IsKeyIter it d i es.size ep)(r:RawD s.heap d es ep)(hi:i<es.size)
  (q:∀h',h'.IsKeyIter it d (i+1) es.size ep→Heap.SameBut it s.heap h'→Q (some es[i].key) {s with heap:=h'}):wpAny (model P w) A (pyNext (.ref it)) Q E s:=by
 have it':=hit;obtain⟨io,e1,c1,d1⟩:=it';obtain⟨o,e,x,dt⟩:=r;unfold pyNext;have own:Builtin.Dict_items.ownsTuple "dict_keyiterator" =false:=by decide
 refine wpAny_bind (wpAny_attempt (wpAny_callSpecial?_slot (name:=Str.ofString "__next__") hit.typeIs PySem.F.slot_dict_keyiterator_next (wpAny_call_entry PySem.F.slot_dict_keyiterator_next hit.typeIs PySem.F.entry_dict_keyiterator_next ?_ (PySem.F.args_dict_keyiterator_next_1 _))));refine wpAny_bind (wpAny_pure (wpAny_bind (wpAny_bind ?_)))
 first|refine wpAny_bind (wpAny_typeNameOfWhole_keyiter hit.typeIs (wpAny_pure (wpAny_bind (wpAny_fieldsOf e1 d1 ?_))))|refine wpAny_bind (wpAny_typeNameOf_keyiter hit.typeIs (wpAny_pure (wpAny_bind (wpAny_fieldsOf e1 d1 ?_))))
 simp only[own,false_eq_true,if_false];show wpAny _ _ (if (Value.ref d==Value.none)=true then _ else _) _ _ s
 rw[if_neg (show ¬((Value.ref d==Value.none)=true) from Bool.false_ne_true)];refine wpAny_bind (wpAny_pure (wpAny_bind (wpAny_dictEntries e dt ?_)));rw[if_neg (by simp)];refine wpAny_bind (wpAny_pure (wpAny_bind (wpAny_dictEpoch e dt ?_)));rw[if_neg (by simp)];refine wpAny_pure ?_;simp only[show ¬((i:Int)<0) from by omega,if_false,toNat_natCast,getElem?_eq_getElem hi];refine wpAny_bind ?_
 first|refine wpAny_bind (wpAny_typeNameOfWhole_keyiter hit.typeIs (wpAny_pure (wpAny_bind (wpAny_isOneOf_keyiter hit.typeIs ?_))))|refine wpAny_bind (wpAny_typeNameOf_keyiter hit.typeIs (wpAny_pure (wpAny_bind (wpAny_isOneOf_keyiter hit.typeIs ?_))))
 show wpAny _ _ (setField (.ref it) 1 (rawInt ((i:Int)+1)) >>= _) _ _ s;refine wpAny_bind (wpAny_setField e1 d1 (by simp) ?_);have nx:(s.heap.update it (Obj.mapFields (·.setIfInBounds 1 (rawInt ((i:Int)+1))))).IsKeyIter it d (i+1) es.size ep:=⟨_,Heap.get?_update_self _ e1 (Obj.isFreed_of_fields (Obj.data_mapFields d1 _)),(Obj.cls_mapFields ..).trans c1,by rw[Obj.data_mapFields d1];simp[rawInt]⟩;refine wpAny_bind (wpAny_holding (wpAny_bind (wpAny_isOneOf_keyiter (s:={s with heap:=s.heap.update it (Obj.mapFields (·.setIfInBounds 1 (rawInt ((i:Int)+1))))}) nx.typeIs ?_)))
 show wpAny _ _ (pure es[i].key) _ _ _;exact wpAny_pure (wpAny_pure ⟨_,rfl,wpAny_pure (q _ nx (Heap.SameBut.update ..))⟩)
theorem AW {Q:Option Value→Shared→Prop}(hh:A.handled=none)(hit:s.heap.IsKeyIter it d i es.size ep)(r:RawD s.heap d es ep)(hi:es.size≤i)
  (q:∀h',Heap.ExtBut it s.heap h'→Q none {s with heap:=h'}):wpAny (model P w) A (pyNext (.ref it)) Q E s:=by
 have it':=hit;obtain⟨io,e1,c1,d1⟩:=it';obtain⟨o,e,x,dt⟩:=r;unfold pyNext;have own:Builtin.Dict_items.ownsTuple "dict_keyiterator" =false:=by decide
 refine wpAny_bind (wpAny_attempt (wpAny_callSpecial?_slot (name:=Str.ofString "__next__") hit.typeIs PySem.F.slot_dict_keyiterator_next (wpAny_call_entry PySem.F.slot_dict_keyiterator_next hit.typeIs PySem.F.entry_dict_keyiterator_next ?_ (PySem.F.args_dict_keyiterator_next_1 _))));refine wpAny_bind (wpAny_pure (wpAny_bind (wpAny_bind ?_)))
 first|refine wpAny_bind (wpAny_typeNameOfWhole_keyiter hit.typeIs (wpAny_pure (wpAny_bind (wpAny_fieldsOf e1 d1 ?_))))|refine wpAny_bind (wpAny_typeNameOf_keyiter hit.typeIs (wpAny_pure (wpAny_bind (wpAny_fieldsOf e1 d1 ?_))))
 simp only[own,false_eq_true,if_false];show wpAny _ _ (if (Value.ref d==Value.none)=true then _ else _) _ _ s
 rw[if_neg (show ¬((Value.ref d==Value.none)=true) from Bool.false_ne_true)];refine wpAny_bind (wpAny_pure (wpAny_bind (wpAny_dictEntries e dt ?_)));rw[if_neg (by simp)];refine wpAny_bind (wpAny_pure (wpAny_bind (wpAny_dictEpoch e dt ?_)));rw[if_neg (by simp)];refine wpAny_pure ?_;simp only[show ¬((i:Int)<0) from by omega,if_false,toNat_natCast,Array.getElem?_eq_none hi];refine wpAny_bind ?_
 first|refine wpAny_bind (wpAny_typeNameOfWhole_keyiter hit.typeIs (wpAny_pure ?_));show wpAny _ _ (setField (.ref it) 0 .none >>= _) _ _ s|refine wpAny_bind (wpAny_typeNameOf_keyiter hit.typeIs (wpAny_pure ?_));show wpAny _ _ (setField (.ref it) 0 .none >>= _) _ _ s
 refine wpAny_bind (wpAny_setField e1 d1 (by simp) ?_);show wpAny _ _ (newExc (.type "StopIteration") [] >>= _) _ _ _;refine wpAny_bind ?_;simp only[newExc,newTuple];refine wpAny_bind (wpAny_newObj_type ?_ (by size_fits));refine wpAny_bind (m:=firstArgMember _ _) (wpAny_of_eq (a:=Value.none) (by first|rfl|(simp only[firstArgMember];rfl)) ?_)
 refine wpAny_newObj_type ?_ (by size_fits);simp only[raiseNew];refine wpAny_bind (wpAny_handled ?_);rw[show A.in1.handled=none from hh];refine wpAny_bind (wpAny_pure (wpAny_throw ?_));refine wpAny_bind (wpAny_isInstance (T:= "StopIteration") (b:=true) ⟨_,Heap.get?_push_size _ rfl,rfl⟩ isSubtype_stop ?_);exact wpAny_pure (q _ (((Heap.SameBut.update ..).extBut.push _).push _))
theorem wJ {v:Addr}{Q:Value→Shared→Prop}(hv:s.heap.IsValuesView v d)(r:RawD s.heap d es ep)
  (q:Q (.ref s.heap.objs.size) {s with heap:=s.heap.push ⟨.type "dict_valueiterator",none,.fields #[.ref d,.int 0 0,.int es.size 0,.int ep 0],#[]⟩}):wpAny (model P w) A (pyIter (.ref v)) Q E s:=by
 have hv':=hv;obtain⟨vo,e1,c1,d1⟩:=hv';obtain⟨o,e,x,dt⟩:=r;refine wpAny_pyIter_slot hv.typeIs PySem.F.slot_dict_values_iter (wpAny_call_entry PySem.F.slot_dict_values_iter hv.typeIs PySem.F.entry_dict_values_iter ?_ (PySem.F.args_dict_values_iter_1 _));unfold Builtin.«dict_values.__iter__»;refine wpAny_bind (wpAny_pure ?_);refine wpAny_bind ?_;unfold Builtin.Dict_items.dictOf;refine wpAny_bind (wpAny_field e1 d1 (x:=.ref d) rfl (wpAny_pure ?_));refine wpAny_bind ?_;unfold Builtin.Dict_items.newIterator;refine wpAny_bind (wpAny_dictEntries e dt ?_);refine wpAny_bind (wpAny_dictEpoch e dt ?_);have own:Builtin.Dict_items.ownsTuple "dict_valueiterator" =false:=by decide
 simp only[own,false_eq_true,if_false];refine wpAny_newObj_type (wpAny_pure ⟨_,rfl,"dict_valueiterator",_,⟨_,Heap.get?_push_size _ rfl,rfl⟩,PySem.F.slot_dict_valueiterator_next.lookup,?_⟩);simpa [rawInt] using q
theorem wK {Q:Option Value→Shared→Prop}(hit:s.heap.IsValIter it d i es.size ep)(r:RawD s.heap d es ep)(hi:i<es.size)
  (q:∀h',h'.IsValIter it d (i+1) es.size ep→Heap.SameBut it s.heap h'→Q (some es[i].val) {s with heap:=h'}):wpAny (model P w) A (pyNext (.ref it)) Q E s:=by
 have it':=hit;obtain⟨io,e1,c1,d1⟩:=it';obtain⟨o,e,x,dt⟩:=r;unfold pyNext;have own:Builtin.Dict_items.ownsTuple "dict_valueiterator" =false:=by decide
 refine wpAny_bind (wpAny_attempt (wpAny_callSpecial?_slot (name:=Str.ofString "__next__") hit.typeIs PySem.F.slot_dict_valueiterator_next (wpAny_call_entry PySem.F.slot_dict_valueiterator_next hit.typeIs PySem.F.entry_dict_valueiterator_next ?_ (PySem.F.args_dict_valueiterator_next_1 _))));refine wpAny_bind (wpAny_pure (wpAny_bind (wpAny_bind ?_)))
 first|refine wpAny_bind (wpAny_typeNameOfWhole_valiter hit.typeIs (wpAny_pure (wpAny_bind (wpAny_fieldsOf e1 d1 ?_))))|refine wpAny_bind (wpAny_typeNameOf_valiter hit.typeIs (wpAny_pure (wpAny_bind (wpAny_fieldsOf e1 d1 ?_))))
 simp only[own,false_eq_true,if_false];show wpAny _ _ (if (Value.ref d==Value.none)=true then _ else _) _ _ s
 rw[if_neg (show ¬((Value.ref d==Value.none)=true) from Bool.false_ne_true)];refine wpAny_bind (wpAny_pure (wpAny_bind (wpAny_dictEntries e dt ?_)));rw[if_neg (by simp)];refine wpAny_bind (wpAny_pure (wpAny_bind (wpAny_dictEpoch e dt ?_)));rw[if_neg (by simp)];refine wpAny_pure ?_;simp only[show ¬((i:Int)<0) from by omega,if_false,toNat_natCast,getElem?_eq_getElem hi];refine wpAny_bind ?_
 first|refine wpAny_bind (wpAny_typeNameOfWhole_valiter hit.typeIs (wpAny_pure (wpAny_bind (wpAny_isOneOf_valiter hit.typeIs ?_))))|refine wpAny_bind (wpAny_typeNameOf_valiter hit.typeIs (wpAny_pure (wpAny_bind (wpAny_isOneOf_valiter hit.typeIs ?_))))
 show wpAny _ _ (setField (.ref it) 1 (rawInt ((i:Int)+1)) >>= _) _ _ s;refine wpAny_bind (wpAny_setField e1 d1 (by simp) ?_);have nx:(s.heap.update it (Obj.mapFields (·.setIfInBounds 1 (rawInt ((i:Int)+1))))).IsValIter it d (i+1) es.size ep:=⟨_,Heap.get?_update_self _ e1 (Obj.isFreed_of_fields (Obj.data_mapFields d1 _)),(Obj.cls_mapFields ..).trans c1,by rw[Obj.data_mapFields d1];simp[rawInt]⟩;refine wpAny_bind (wpAny_holding (wpAny_bind (wpAny_isOneOf_valiter (s:={s with heap:=s.heap.update it (Obj.mapFields (·.setIfInBounds 1 (rawInt ((i:Int)+1))))}) nx.typeIs (wpAny_bind (wpAny_isOneOf_valiter (s:={s with heap:=s.heap.update it (Obj.mapFields (·.setIfInBounds 1 (rawInt ((i:Int)+1))))}) nx.typeIs ?_)))))
 show wpAny _ _ (pure es[i].val) _ _ _;exact wpAny_pure (wpAny_pure ⟨_,rfl,wpAny_pure (q _ nx (Heap.SameBut.update ..))⟩)
theorem yR {Q:Option Value→Shared→Prop}(hh:A.handled=none)(hit:s.heap.IsValIter it d i es.size ep)(r:RawD s.heap d es ep)(hi:es.size≤i)
  (q:∀h',Heap.ExtBut it s.heap h'→Q none {s with heap:=h'}):wpAny (model P w) A (pyNext (.ref it)) Q E s:=by
 have it':=hit;obtain⟨io,e1,c1,d1⟩:=it';obtain⟨o,e,x,dt⟩:=r;unfold pyNext;have own:Builtin.Dict_items.ownsTuple "dict_valueiterator" =false:=by decide
 refine wpAny_bind (wpAny_attempt (wpAny_callSpecial?_slot (name:=Str.ofString "__next__") hit.typeIs PySem.F.slot_dict_valueiterator_next (wpAny_call_entry PySem.F.slot_dict_valueiterator_next hit.typeIs PySem.F.entry_dict_valueiterator_next ?_ (PySem.F.args_dict_valueiterator_next_1 _))));refine wpAny_bind (wpAny_pure (wpAny_bind (wpAny_bind ?_)))
 first|refine wpAny_bind (wpAny_typeNameOfWhole_valiter hit.typeIs (wpAny_pure (wpAny_bind (wpAny_fieldsOf e1 d1 ?_))))|refine wpAny_bind (wpAny_typeNameOf_valiter hit.typeIs (wpAny_pure (wpAny_bind (wpAny_fieldsOf e1 d1 ?_))))
 simp only[own,false_eq_true,if_false];show wpAny _ _ (if (Value.ref d==Value.none)=true then _ else _) _ _ s
 rw[if_neg (show ¬((Value.ref d==Value.none)=true) from Bool.false_ne_true)];refine wpAny_bind (wpAny_pure (wpAny_bind (wpAny_dictEntries e dt ?_)));rw[if_neg (by simp)];refine wpAny_bind (wpAny_pure (wpAny_bind (wpAny_dictEpoch e dt ?_)));rw[if_neg (by simp)];refine wpAny_pure ?_;simp only[show ¬((i:Int)<0) from by omega,if_false,toNat_natCast,Array.getElem?_eq_none hi];refine wpAny_bind ?_
 first|refine wpAny_bind (wpAny_typeNameOfWhole_valiter hit.typeIs (wpAny_pure ?_));show wpAny _ _ (setField (.ref it) 0 .none >>= _) _ _ s|refine wpAny_bind (wpAny_typeNameOf_valiter hit.typeIs (wpAny_pure ?_));show wpAny _ _ (setField (.ref it) 0 .none >>= _) _ _ s
 refine wpAny_bind (wpAny_setField e1 d1 (by simp) ?_);show wpAny _ _ (newExc (.type "StopIteration") [] >>= _) _ _ _;refine wpAny_bind ?_;simp only[newExc,newTuple];refine wpAny_bind (wpAny_newObj_type ?_ (by size_fits));refine wpAny_bind (m:=firstArgMember _ _) (wpAny_of_eq (a:=Value.none) (by first|rfl|(simp only[firstArgMember];rfl)) ?_)
 refine wpAny_newObj_type ?_ (by size_fits);simp only[raiseNew];refine wpAny_bind (wpAny_handled ?_);rw[show A.in1.handled=none from hh];refine wpAny_bind (wpAny_pure (wpAny_throw ?_));refine wpAny_bind (wpAny_isInstance (T:= "StopIteration") (b:=true) ⟨_,Heap.get?_push_size _ rfl,rfl⟩ isSubtype_stop ?_);exact wpAny_pure (q _ (((Heap.SameBut.update ..).extBut.push _).push _))
end
section
variable{P:Program}{w:World}{A:Around}{E:Value→Shared→Prop}{s:Shared}{d:Addr}{es:Array DictEntry}{ep:Nat}
theorem AX {Q:Value→Shared→Prop}(hd:(d==sysModules)=false)(r:RawD s.heap d es ep)(hf:(es.size:Int)<2 ^ 63)(q:∀t t',Q (.int es.size t) {s with toks:=t'}):wpAny (model P w) A (call (.builtin "len") [.ref d]) Q E s:=by
 have ty:=r.ty;obtain⟨o,e,x,dt⟩:=r;refine Calls.call_function_entry kind_len plain_len entry_len (args_len1 _) ?_;unfold Builtin.«len»;refine wpAny_bind (m:=oneArg "len" _) (wpAny_pure ?_);refine wpAny_bind (m:=callSpecial? (.ref d) (Str.ofString "__len__")) (wpAny_callSpecial?_slot (name:=Str.ofString "__len__") ty PySem.F.slot_dict_len (wpAny_call_entry PySem.F.slot_dict_len ty PySem.F.entry_dict_len ?_ (PySem.F.args_dict_len_1 _)));unfold Builtin.«dict.__len__»;refine wpAny_bind ?_;unfold Builtin.Dict.dictSlotNone;refine wpAny_bind (wpAny_notOrdered_dict ty ?_);show wpAny _ _ (pure (Value.ref d)) _ _ s;refine wpAny_pure ?_;show wpAny _ _ (dictSize d >>= _) _ _ s;unfold dictSize;refine wpAny_bind (wpAny_bind (wpAny_dictEntries e dt (wpAny_pure ?_)));show wpAny _ _ (Builtin.Dict.pendingCount d >>= _) _ _ s;refine wpAny_bind (wpAny_pendingCount_other hd ?_);refine wpAny_ret_mkInt ?_;rw[show ((es.size:Int)+((0:Nat):Int))=(es.size:Int) from by simp];refine wpAny_bind (wpAny_holding (wpAny_pure ?_));refine wpAny_bind (wpAny_letGo ?_);show wpAny _ _ (if ((es.size:Nat):Int)<0 then _ else _) _ _ _;rw[if_neg (by omega)]
 show wpAny _ _ (if ((es.size:Nat):Int) ≥ 2 ^ 63 then _ else _) _ _ _;rw[if_neg (by omega)];exact wpAny_bind (wpAny_mkInt (wpAny_pure ⟨_,rfl,q _ _⟩))
end
end L2
namespace L2
open PySem PySem.Spec PyProof.Rows
noncomputable def Fs (a:Addr)(o:Obj)(kvs:List (List bw×V)):It:=
 ⟨fun i H=>H a=some (.frz o (.dT kvs))∧i<kvs.length,fun i H x H'=>H'=H∧∃b k,(kvs.map (·.1))[i]?=some k∧x= .ref b∧H b=some (.tup (k.map kV)),fun i H=>H a=some (.frz o (.dT kvs))∧kvs.length≤i⟩
theorem Paired.at2 {α β:Type}{R:α→β→Prop}:∀{l:List α} {m:List β},Paired R l m→l.length=m.length∧∀(i:Nat) (h1:i<l.length) (h2:i<m.length),R l[i] m[i]
 |_,_,.nil=>⟨rfl,fun i h=>by cases h⟩
 |_,_,.cons r t=>by
  obtain⟨a,b⟩:=Paired.at2 t;refine⟨by rw[length_cons,length_cons,a],fun i h1 h2=>?_⟩;cases i with
  |zero=>exact r
  |succ i=>exact b i (by simpa using h1) (by simpa using h2)
theorem qo {X:Cx}{pins:List (Addr×Obj)}{σ:St}{H:Hp}{s:Shared}{a:Addr}{o:Obj}{kvs:List (List bw×V)}(I:Inv X pins σ H s)(h:H a=some (.frz o (.dT kvs))) :
  ∃es ep,o.data= .dict es ep∧RawD s.heap a es ep∧es.size=kvs.length∧(a==sysModules)=false∧kvs.length≤sizeLine∧∀(i:Nat) (h1:i<kvs.length) (h2:i<es.size),∃b,es[i].key= .ref b∧H b=some (.tup (kvs[i].1.map kV)):=by
 obtain⟨ho,z,hd,xs,pr,o',es,ep,ho',ex,dt,he,nd⟩:=(show ObjOk X.prog X.w H s.heap a (.frz o (.dT kvs)) from I.hok a _ h);rw[ho]at ho';cases ho';obtain⟨hl,at'⟩:=Paired.at2 pr;have hsz:es.size=kvs.length:=by rw[←length_toList,he,length_map,hl]
 refine⟨es,ep,dt,⟨o,ho,ex,dt⟩,hsz,hd,z,fun i h1 h2=>?_⟩;have h3:i<xs.length:=by omega
 have e1:es[i]=entryOfKey (tupleKind (bG X.prog X.w)) xs[i]:=by
  have:es.toList[i]?=some (entryOfKey (tupleKind (bG X.prog X.w)) xs[i]):=by rw[he,getElem?_map,iN h3];rfl
  rw[getElem?_toList,getElem?_eq_getElem h2]at this;exact Option.some.inj this
 exact⟨xs[i].2.1,by rw[e1];rfl,(at' i h1 h3).2.1⟩
theorem wU {P:Program}{w:World}{K:W.Frag}{tg:Expr}(a it:Addr)(o:Obj)(kvs:List (List bw×V)):Turn P w K tg (Fs a o kvs) [it] it (fun i h=>∃es ep,o.data= .dict es ep∧h.IsKeyIter it a i es.size ep) where
 mem:=by simp
 obj:=fun i h ⟨es,ep,_,st⟩ b p=>by
  have e:b=it:=by simpa using p
  subst e;obtain⟨o,e,c,d⟩:=st;exact⟨o,e,fun v z=>by rw[d]at z;cases z⟩
 keep:=fun i h h' ⟨es,ep,e,o,e1,c,d⟩ k=>⟨es,ep,e,o,k it (by simp) o e1,c,d⟩
 item:=by
  rintro X hP hw hK hc i pins s σ H E I hf ⟨es,ep,ed,st⟩ ⟨hg,hi⟩;subst hP hw hK;obtain⟨es',ep',dt,rw',hsz,hd,hz,at'⟩:=qo I hg;rw[ed]at dt;cases dt;obtain⟨f0,f1,f2,f3,f4,f5⟩:=hf it (by simp);have hi':i<es.size:=by omega
  obtain⟨b,p,hH⟩:=at' i hi hi';refine yQ st rw' hi' fun h' st' sb=>?_;have I1:Inv X pins σ H {s with heap:=h'}:=I.turned (t':=s.toks) (fun b o p e=>(sb.2 b p).trans e) f0 f1 f3 f4 f5
  obtain⟨o,e,c,d⟩:=id st';rw[p];exact⟨_,rfl,u7 (s:={s with heap:=h'}) e c d (by decide) ⟨.ref b,H,I1,rfl,⟨rfl,b,kvs[i].1,by rw[getElem?_map,iN hi];rfl,rfl,hH⟩,⟨es,ep,ed,st'⟩,fun b p=>(hf b p).1⟩⟩
 done:=by
  rintro X hP hw hK hc i pins s σ H E I hf ⟨es,ep,ed,st⟩ ⟨hg,hi⟩;subst hP hw hK;obtain⟨es',ep',dt,rw',hsz,hd,hz,at'⟩:=qo I hg;rw[ed]at dt;cases dt;obtain⟨f0,f1,f2,f3,f4,f5⟩:=hf it (by simp);exact AW (I.ok.hd hc) st rw' (by omega) fun h' eb=>⟨rfl,I.turned (t':=s.toks) (fun b o p e=>eb b o p e) f0 f1 f3 f4 f5⟩
 self:=fun _ _ _ _ _ ⟨es,ep,_,st⟩ h=>wpAny_pyIter_keyiter st h
noncomputable def kD:bw→D
 |.inl i=>.int i
 |.inr x=>.str x
noncomputable def wj (k:List bw):D:=.tup (k.map kD)
theorem sK {K:W.Frag}{G:Hp}:∀(k:List bw),RepL K G (k.map kD) (k.map kV)
 | []=>.nil
 |k::r=>.cons (by cases k with|inl i=>exact rep_int.mpr rfl|inr x=>exact rep_str.mpr rfl) (sK r)
theorem y8 {K:W.Frag}{G:Hp}{a:Addr}{o:Obj}{kvs:List (List bw×V)}(h:G a=some (.frz o (.dT kvs))):zo K (Fs a o kvs) ((kvs.map (·.1)).map wj) G:=by
 intro G2 H2 g1 g2 i;refine⟨fun d hd=>?_,fun hl=>⟨g2 _ _ (g1 _ _ h),by simpa using hl⟩⟩;rw[getElem?_map]at hd;cases q:(kvs.map (·.1))[i]? with
 |none=>rw[q]at hd;cases hd
 |some k=>
  rw[q]at hd;cases hd;have hi:i<kvs.length:=by have:=(gz q).1;simpa using this
  refine⟨⟨g2 _ _ (g1 _ _ h),hi⟩,fun x H' hZ165=>?_⟩;obtain⟨e,b,k',hk,hx,hH⟩:=hZ165;subst e hx;rw[q]at hk;cases hk;have gg:Same G2 (a9 G2 b (.tup (k.map kV))):=fun c u e=>by
   by_cases hc:c=b
   ·subst hc;have:=g2 _ _ e;rw[hH]at this;cases this;exact aq
   ·rw[ak hc];exact e
  refine⟨a9 G2 b (.tup (k.map kV)),⟨.refl _,gg,fun c u e=>?_,fun c u e=>?_⟩,rep_tup.mpr ⟨b,_,rfl,.of aq,sK k⟩⟩
  ·by_cases hc:c=b
   ·subst hc;rw[aq]at e;rw[←e];exact hH
   ·rw[ak hc]at e;exact g2 c u e
  ·by_cases hc:c=b
   ·subst hc;rw[aq]at e;cases e;exact .inr (.inr ⟨k,rfl⟩)
   ·rw[ak hc]at e;exact .inl e
noncomputable def jP:D→Res (List D)
 |.fdc ks _=>.ok (ks.map wj)
 |_=>.bad
section
variable{X:Cx}{E:XK}{μ:List Nat}{n:Nat}{tg:Expr}
theorem jf {e:Expr}{f:DS→Res D}(h:PD X E e f):PI X tg e (tDI X.K E (fun ρ=>(f ρ).bind jP)):=by
 intro pins s σ H R I hZ28;obtain⟨G,ρ,hs,hro,ho,k⟩:=hZ28;refine aW (du h pins s σ H (fun v H1=>∃a o J G1,v= .ref a∧Ext G H G1 H1∧G1 a=some (.frz o (.dT J))∧((f ρ).bind jP)= .ok ((J.map (·.1)).map wj)) I ⟨G,ρ,hs,hro,ho.fst,fun d e v G1 H1 x1 p1=>?_⟩) fun v s1 hZ166=>?_
 ·have kk:=ho.snd e x1.hh;cases d with
  |fdc ks l=>
   rw[rep_fdc]at p1;obtain⟨a,o,J,rfl,ga,hk,rl⟩:=p1;exact⟨a,o,J,G1,rfl,x1,ga,by rw[e,av,←hk];rfl⟩
  |_=>exact kk.elim
 ·obtain⟨x,H1,I1,r1,a,o,J,G1,ex,x1,ga,ek⟩:=hZ166;subst ex;cases r1;obtain⟨es,ep,dt,rw',hsz,hd,hz,at'⟩:=qo I1 (x1.gh _ _ ga);refine yP hd rw' ?_;exact⟨s1.heap.objs.size,[s1.heap.objs.size],_,_,H1,rfl,I1.kept (t':=s1.toks) fun b o e=>Heap.get?_push_of_some _ e,wU a _ o J,⟨es,ep,dt,_,Heap.get?_push_size _ rfl,rfl,rfl⟩,fun b hb=>by
   have e:b=s1.heap.objs.size:=by simpa using hb
   subst e;exact I1.fpOk (le_refl _) (I1.hok.fresh (le_refl _)),k _ ek _ G1 H1 x1 (y8 ga)⟩
noncomputable def tX:List D→Res D
 | [.dct ks _]=>.ok (.int ks.length)
 | [.fdc ks _]=>.ok (.int ks.length)
 |_=>.bad
theorem vK:d7 X (.builtin "len") (fun xs H Q=>∃a kvs,xs=[V.ref a]∧Rd H a (.dT kvs)∧Q (.int kvs.length) H):=by
 intro pins s σ H xs us Q I r h;obtain⟨a,kvs,rfl,ha,q⟩:=h;obtain⟨u,rfl,ru⟩:=jm r;cases ru;obtain⟨z,hd,xs,pr,o,es,ep,ho,ex,dt,he,nd⟩:=pO I.hok ha;obtain⟨hl,_⟩:=Paired.at2 pr;have hsz:es.size=kvs.length:=by rw[←length_toList,he,length_map,hl]
 have hz:=sizeLine_eq;exact AX hd ⟨o,ho,ex,dt⟩ (by omega) fun t t'=>⟨.int kvs.length,H,I.tok t',⟨t,by rw[hsz]⟩,q⟩
theorem zB {K:W.Frag}:Bi K E (fun xs H Q=>∃a kvs,xs=[V.ref a]∧Rd H a (.dT kvs)∧Q (.int kvs.length) H) tX:=by
 intro G H vs ds Q hs rl ok k;unfold tX at ok k;split at ok
 ·obtain⟨v,r,rfl,rx,r0⟩:=rl.inv;rw[r0.inv0];rw[rep_dct]at rx;obtain⟨a,kvs,rfl,rd,hk,_⟩:=rx;subst hk;exact⟨a,kvs,rfl,hs.rd rd,by have:=k _ _ G H rfl (.refl hs) (rep_int.mpr rfl);simpa using this⟩
 ·obtain⟨v,r,rfl,rx,r0⟩:=rl.inv;rw[r0.inv0];rw[rep_fdc]at rx;obtain⟨a,o,kvs,rfl,rd,hk,_⟩:=rx;subst hk;exact⟨a,kvs,rfl,hs.rd (.inr ⟨o,rd⟩),by have:=k _ _ G H rfl (.refl hs) (rep_int.mpr rfl);simpa using this⟩
 ·exact ok.elim
theorem ve {e:Expr}{p pos:Pos}{f:DS→Res D}(hm:X.mg "len" =none)(h:PD X E e f)(hg:Gl X "len" :=by rfl)(he:starEach [e] X.env=(false,eval e X.env)::starEach [] X.env:=by rfl):PD X E (.Call (.Name "len" p) [e] [] pos) (fun ρ=>(f ρ).bind fun a=>tX [a]):=
 vb ▸ kP (X:=X) (E:=E) (p:=p) (pos:=pos) vK zB hg hm PySem.boot_len (aa h af he) (by decide) (by decide) he rfl
noncomputable def rZ:D→Res D
 |.dct ks l=>.ok (.fdc ks l)
 |_=>.bad
theorem Inv.frz {pins:List (Addr×Obj)}{σ:St}{H:Hp}{s:Shared}{a:Addr}{o:Obj}{kvs:List (List bw×V)}(I:Inv X pins σ H s)(h:H a=some (.dT kvs))(ho:s.heap.get? a=some o):Inv X pins σ (a9 H a (.frz o (.dT kvs))) s:=by
 have ne:∀{b:Addr} {u:HO},H b=some u→u≠ .dT kvs→b≠a:=fun e hu z=>by subst z;rw[h]at e;cases e;exact hu rfl
 refine I.un (t':=s.toks) ⟨fun b u e _ _ _=>e,fun b u e _ _ _=>⟨u.slots,e⟩,fun b u _ n _=>?_,fun b u e _=>⟨u,e⟩,fun b xs e=>?_,fun b u v e=>?_,fun b ps e=>?_⟩ fun b u e=>?_
 ·rw[ak (fun z=>by subst z;rw[h]at n;cases n)];exact n
 ·rw[ak (ne e (fun z=>by cases z))];exact e
 ·rw[ak (ne e (fun z=>by cases z))];exact e
 ·exact⟨#[],by rw[ak (ne e (fun z=>by cases z)),e];simp⟩
 ·have st:∀{c:Addr} {v:HO},ObjOk X.prog X.w H s.heap c v→ObjOk X.prog X.w (a9 H a (.frz o (.dT kvs))) s.heap c v:=fun x=>x.stay (fun _ _ _ e=>e) (fun b e=>by rw[ak (ne e (fun z=>by cases z))];exact e) fun b xs e=>by rw[ak (ne e (fun z=>by cases z))];exact e
  by_cases hb:b=a
  ·subst hb;rw[aq]at e;cases e;exact⟨ho,st (I.hok _ _ h)⟩
  ·rw[ak hb]at e;exact st (I.hok b u e)
theorem PN.pdF {e:Expr}{f:DS→Res D}(h:PN X E (n+1) e f):PD X E e (fun ρ=>(f ρ).bind rZ):=by
 intro pins s σ G H ρ I hs hr ho;refine aW (h pins s σ G H ρ I hs hr ho.fst) fun u s' hZ167=>?_;obtain⟨d,e,v,G',H',S,I',rv,x,o,w⟩:=hZ167;have kk:=ho.snd e x.hh;cases d with
 |dct ks l=>
  obtain⟨a,J,T,rfl,ha,hk,rfl,os⟩:=o;obtain⟨_,_,_,_,ob,_,_,hob,_⟩:=(show ObjOk X.prog X.w H' s'.heap a (.dT J) from I'.hok a _ ha);obtain⟨haT,ndT⟩:=nodup_cons.mp w.1;have wa:=w.2 a (mem_cons_self ..);have wT:∀b∈T,H b=none∧G' b=none:=fun b hb=>w.2 b (eB hb);have dec:∀b,Decidable (b∈T):=fun b=>Classical.propDecidable _;have g3:∀b,(fun b=>if b=a then some (HO.frz ob (.dT J)) else if b∈T then H' b else G' b:Hp) b=if b=a then some (HO.frz ob (.dT J)) else if b∈T then H' b else G' b:=fun _=>rfl
  generalize hG3:(fun b=>if b=a then some (HO.frz ob (.dT J)) else if b∈T then H' b else G' b:Hp)=G3 at g3
  have ga:G3 a=some (.frz ob (.dT J)):=by rw[g3,if_pos rfl]
  have gT:∀b∈T,G3 b=H' b:=fun b hb=>by rw[g3,if_neg (fun (z:b=a)=>haT (z ▸ hb)),if_pos hb]
  have gO:∀b,b≠a→b∉T→G3 b=G' b:=fun b h1 h2=>by rw[g3,if_neg h1,if_neg h2]
  have sg:Same G' G3:=fun b u e=>by
   rw[gO b (fun z=>by subst z;rw[wa.2]at e;cases e) (fun z=>by rw[(wT b z).2]at e;cases e)];exact e
  refine⟨.fdc ks l,am e rfl,.ref a,G3,a9 H' a (.frz ob (.dT J)),I'.frz ha hob,rv,⟨fun b u e=>?_,x.gg.trans sg,fun b u e=>?_,fun b u e=>?_⟩,rep_fdc.mpr ⟨a,ob,J,rfl,ga,hk,os.rep fun d v A hA ow=>ow.rep sg fun b hb u e=>by rw[gT b (hA b hb)];exact e⟩⟩
  ·rw[ak (fun z=>by subst z;rw[wa.1]at e;cases e)];exact x.hh b u e
  ·by_cases h1:b=a
   ·subst h1;rw[ga]at e;rw[aq];exact e
   ·rw[ak h1];by_cases h2:b∈T
    ·rw[gT b h2]at e;exact e
    ·rw[gO b h1 h2]at e;exact x.gh b u e
  ·by_cases h1:b=a
   ·subst h1;exact .inr (.inl wa.1)
   ·by_cases h2:b∈T
    ·exact .inr (.inl (wT b h2).1)
    ·rw[gO b h1 h2]at e;exact x.nw b u e
 |_=>exact kk.elim
noncomputable def y_ (ns:List Int):List Int:=ns.mergeSort (fun a b=>decide (a≤b))
theorem lN (ns:List Int):(y_ ns).Perm ns:=List.mergeSort_perm ..
theorem sW (ns:List Int):(y_ ns).Pairwise (· ≤ ·):=by
 have h:=List.pairwise_mergeSort (le:=fun a b:Int=>decide (a≤b)) (fun a b c h1 h2=>by simp at *;omega) (fun a b=>by simp;omega) ns;exact h.imp fun {a b} h=>by simpa using h
theorem mV:∀{a b:List Int},a.Perm b→a.Pairwise (· ≤ ·)→b.Pairwise (· ≤ ·)→a=b
 | [],b,p,_,_=>(List.nil_perm.mp p).symm
 |x::a,[],p,_,_=>absurd p.length_eq (by simp)
 |x::a,y::b,p,h1,h2=>by
  obtain⟨i1,i2⟩:=List.pairwise_cons.mp h1;obtain⟨j1,j2⟩:=List.pairwise_cons.mp h2;have e:x=y:=by
   have hx:=p.mem_iff.mp (mem_cons_self (a:=x) (l:=a));have hy:=p.mem_iff.mpr (mem_cons_self (a:=y) (l:=b))
   rcases mem_cons.mp hx with z|z
   ·exact z
   ·rcases mem_cons.mp hy with z'|z'
    ·exact z'.symm
    ·have:=j1 x z;have:=i1 y z';omega
  subst e;rw[mV (List.perm_cons x |>.mp p) i2 j2]
theorem s0:∀{us:List Value} {ns:List Int},IntsAre us ns→Vals (ns.map V.int) us
 |_,_,.nil=>.nil
 |_,_,.cons n t h=>.cons ⟨t,rfl⟩ (s0 h)
noncomputable def lM:List D→Res D
 | [.lst l]=>(match allInts l with|some ns=>if ns.length<64 then .ok (.lst ((y_ ns).map D.int)) else .bad|none=>.bad)
 |_=>.bad
theorem tG:d7 X (.builtin "sorted") (fun xs H Q=>∃p ns,xs=[.ref p]∧gB X.K H p (ns.map V.int)∧ns.length<64∧∀l,H l=none→Q (.ref l) (a9 H l (.lst ((y_ ns).map V.int)))):=by
 intro pins s σ H xs us Q I r h;obtain⟨p,ns,rfl,sq,h64,q⟩:=h;obtain⟨u,rfl,ru⟩:=jm r;cases (show u= .ref p from ru);obtain⟨its,rv,pl,hz⟩:=I.list sq;have hil:=rv.length;rw[length_map]at hil;refine sorted_ints pl.isList (jY rv) (by omega) fun out ns' a1 a2 a3=>?_;have e:ns'=y_ ns:=mV (a2.trans (lN ns).symm) a3 (sW ns);subst e;have hl:=(lN ns).length_eq;have key:=jZ (vs:=its) (out:=out.toList) I (s0 a1) (by rw[length_map,hl];have:=sizeLine_eq;omega) q;rw[Array.toArray_toList]at key;exact key
theorem yE {e:Expr}{p pos:Pos}{f:DS→Res D}(hm:X.mg "sorted" =none)(h:PD X E e f)(hg:Gl X "sorted" :=by rfl)(he:starEach [e] X.env=(false,eval e X.env)::starEach [] X.env:=by rfl):PD X E (.Call (.Name "sorted" p) [e] [] pos) (fun ρ=>(f ρ).bind fun a=>lM [a]):=by
 refine vb ▸ kP (X:=X) (E:=E) (p:=p) (pos:=pos) tG ?_ hg hm boot_sorted (aa h af he) (by decide) (by decide) he rfl;intro G H vs ds Q hs rl ok k;unfold lM at ok k;split at ok
 ·rename_i l;obtain⟨v,r,rfl,rx,r0⟩:=rl.inv;rw[r0.inv0];dsimp only at ok k;cases q:allInts l with
  |none=>rw[q]at ok;exact ok.elim
  |some ns=>
   rw[q]at ok k;dsimp only at ok k;by_cases hc:ns.length<64
   ·rw[if_pos hc]at k;have el:=fj q;subst el;rw[rep_lst]at rx;obtain⟨a,xs,rfl,sq,rx⟩:=rx;have ex:=rx.ints;subst ex;exact⟨a,ns,rfl,hs.seq sq.sq,hc,fun l hl=>k _ _ _ _ rfl (.new hs hl _) (rep_lst.mpr ⟨l,_,rfl,.of aq,.of_ints _⟩)⟩
   ·rw[if_neg hc]at ok;exact ok.elim
 ·exact ok.elim
end
noncomputable abbrev sD (f:DS→Res D):DS→Res (List D):=fun ρ=>(f ρ).bind jP
noncomputable abbrev tq (f:DS→Res D):DS→Res D:=fun ρ=>(f ρ).bind rZ
noncomputable def nY (j i:Nat)(l r:List D)(ρ:DS):D→Out
 |.int k=>(match qy r.length k with
  |some m=>(match r[m]? with
   |some x=>if aM l.length=true∧aM r.length=true then .nx ((ρ.set i (some (.lst (r.eraseIdx m)))).set j (some (.lst (l ++ [x])))) else .bad
   |none=>.bad)
  |none=>.bad)
 |_=>.bad
noncomputable def hG (j i:Nat)(fi:DS→Res D):DS→Out:=fun ρ=>match ρ[j]?,ρ[i]? with
 |some (some (.lst l)),some (some (.lst r))=>(fi ρ).out (nY j i l r ρ)
 |_,_=>.bad
section
variable{X:Cx}{E:XK}{μ:List Nat}{r:Nat}
theorem wE {j i:Nat}{x y:Str}{e:Expr}{px py apos cpos apos2 cpos2 pos:Pos}{fi:DS→Res D}(hji:i≠j)(hm:μ.getD j 0=1)(hm2:μ.getD i 0=1)(hN:X.N[j]?=some x)(hN2:X.N[i]?=some y)(hv:uJ X.env.scope x)(hv2:uJ X.env.scope y)(hi:PD X E e fi)
  (hd:(x==("__debug__" :Str))=false:=by decide) (hcd:(x==("__classdict__" :Str))=false:=by decide)
  (hd2:(y==("__debug__" :Str))=false:=by decide) (hcd2:(y==("__classdict__" :Str))=false:=by decide)
  (hs:starEach [e] X.env=(false,eval e X.env)::starEach [] X.env:=by rfl)
  (hs2:starEach [.Call (.Attribute (.Name y py) "pop" apos2) [e] [] cpos2] X.env=(false,eval (.Call (.Attribute (.Name y py) "pop" apos2) [e] [] cpos2) X.env)::starEach [] X.env:=by rfl)
  (hbase:attributeBase (.Name x px) "append" X.env (eval (.Name x px) X.env)=eval (.Name x px) X.env:=by rfl)
  (hbase2:attributeBase (.Name y py) "pop" X.env (eval (.Name y py) X.env)=eval (.Name y py) X.env:=by rfl)
  (hfew:((backTo cpos (starEach [.Call (.Attribute (.Name y py) "pop" apos2) [e] [] cpos2] X.env)).all (fun x=> !x.1)&&(backToKw cpos (keywordEach [] X.env)).all (fun x=>x.1.isSome)&&decide (([Expr.Call (.Attribute (.Name y py) "pop" apos2) [e] [] cpos2].length+([]:List Keyword).length+if ([]:List Keyword).isEmpty=true then 0 else 1)<30))=true:=by rfl)
  (hfew2:((backTo cpos2 (starEach [e] X.env)).all (fun x=> !x.1)&&(backToKw cpos2 (keywordEach [] X.env)).all (fun x=>x.1.isSome)&&decide (([e].length+([]:List Keyword).length+if ([]:List Keyword).isEmpty=true then 0 else 1)<30))=true:=by rfl)
  (hline:(apos.endLine==cpos.line)=true:=by rfl) (hline2:(apos2.endLine==cpos2.line)=true:=by rfl)
  (hsw:swapsWith (.Call (.Attribute (.Name x px) "append" apos) [.Call (.Attribute (.Name y py) "pop" apos2) [e] [] cpos2] [] cpos) none pos.line X.env=pure false:=by rfl) :
  l9 X E μ r (.Expr (.Call (.Attribute (.Name x px) "append" apos) [.Call (.Attribute (.Name y py) "pop" apos2) [e] [] cpos2] [] cpos) pos) (hG j i fi):=by
 intro pins s σ Ge B G H f fp I R ho;have hq:=nT (apos:=apos2) (cpos:=cpos2) (r:=uq) PySem.F.plainAttrs_list PySem.F.slot_list_pop PySem.F.type_list_pop (show zj X "list.pop" uq from ye) (fH (pos:=py) hN2 hv2 hd2 hcd2) (bH (du hi) dq hs) hbase2 hfew2 hline2 hs rfl;have hp:=nT (apos:=apos) (cpos:=cpos) (r:=eW) PySem.F.plainAttrs_list PySem.F.slot_list_append PySem.F.type_list_append (show zj X "list.append" eW from jC) (fH (pos:=px) hN hv hd hcd) (bH hq dq hs2) hbase hfew hline hs2 rfl;have hslot:∃l d,f[j]?=some (some (.lst l))∧f[i]?=some (some (.lst d)):=by
  unfold hG at ho;split at ho
  ·rename_i l d q1 q2;exact⟨l,d,q1,q2⟩
  ·exact ho.elim
 obtain⟨l,d,hr,hr2⟩:=hslot;have eo:hG j i fi f=(fi f).out (nY j i l d f):=by
  unfold hG;rw[hr,hr2]
 rw[eo]at ho ⊢;obtain⟨a,xs,T,h1,h2,h3,h4⟩:=R.top (n:=0) hr hm;obtain⟨b,ys,U,k1,k2,k3,k4⟩:=R.top (n:=0) hr2 hm2;refine aW (iu hp hsw pins s σ H {nx:=fun σ' H'=>∃M G' fp',(fi f).out (nY j i l d f)= .nx M∧σ'=σ∧Rw X.K μ Ge B G' H' σ M fp'∧Same G G',bk:=fun _ _=>False,ct:=fun _ _=>False,rt:=fun _ _=>False} I ?_) fun fl s1 J=>?_
 ·refine⟨_,h1,.inl ⟨rfl,xs,.inl (.inl h2)⟩,_,k1,.inl ⟨rfl,ys,.inl (.inl k2)⟩,mJ fp G H,f,R.vh,R.ro,ho.res.le R.bh,fun di ei vi G1 H1 x1 ri=>?_⟩;have L:=ho.res2 ei (Same.refl B);unfold nY at L;split at L
  ·rename_i k0;rw[rep_int]at ri;subst ri;cases hq:qy d.length k0 with
   |none=>rw[hq]at L;exact L.elim
   |some m=>
    rw[hq]at L;dsimp only at L;cases hz:d[m]? with
    |none=>rw[hz]at L;exact L.elim
    |some z=>
     rw[hz]at L;dsimp only at L;by_cases hc:aM l.length=true∧aM d.length=true
     ·have e0:(fi f).out (nY j i l d f)= .nx ((f.set i (some (.lst (d.eraseIdx m)))).set j (some (.lst (l ++ [z])))):=by
       rw[b_ ei];unfold nY;dsimp only;rw[hq];dsimp only;rw[hz];exact if_pos hc
      have R1:=R.grow x1;obtain⟨v1,b2,ys2,U2,p0,p1,p2,p3,p4,p5,p6,p7,p8,p9⟩:=R1.path (p:=[]) (n:=0) hm2 hr2 rfl;rw[k1]at p0;cases p0;cases (show V.ref b2= .ref b from p1);rw[x1.hh _ _ k2]at p2;cases p2;obtain⟨eU,rl⟩:=p3.zero;obtain⟨w,hw,rw'⟩:=rl.get hz;obtain⟨fp2,R2⟩:=p9 (ys.eraseIdx m) (d.eraseIdx m) [] (.of0 (rl.erase m)) nodup_nil (fun c h=>by cases h);have hr3:(f.set i (some (iP [] (.lst d) (.lst (d.eraseIdx m)))))[j]?=some (some (.lst l)):=by rw[getElem?_set_ne hji];exact hr
      obtain⟨v3,b3,ys3,U3,q0,q1,q2,q3,q4,q5,q6,q7,q8,q9⟩:=R2.path (p:=[]) (n:=0) hm hr3 rfl;rw[h1]at q0;cases q0;cases (show V.ref b3= .ref a from q1);have hab:a≠b:=fun z=>hji (R.dj i j b (by rw[k3];exact mem_cons_self) (by rw[h3,z];exact mem_cons_self));rw[ak hab,x1.hh _ _ h2]at q2;cases q2;obtain⟨eU3,rl3⟩:=q3.zero;have rz:Rep X.K (lQ (oq fp) G1) z w:=rw';obtain⟨fp3,R3⟩:=q9 (xs ++ [w]) (l ++ [z]) [] (.of0 (rl3.append (.cons rz .nil))) nodup_nil (fun c h=>by cases h);have hml:m<ys.length:=(gz hw).1;obtain⟨b1,b2⟩:=xV hc.2 hq;have hlen:=rl.length;refine⟨b,ys,k0,m,w,rfl,rfl,x1.hh _ _ k2,b1,b2,by rw[←hlen];exact(kE hq).1,hw,?_⟩;exact⟨a,xs,w,rfl,rfl,by rw[ak hab];exact x1.hh _ _ h2,by rw[←rl3.length];exact jb hc.1,_,_,fp3,e0,rfl,R3,R.gg x1⟩
     ·rw[if_neg hc]at L;exact L.elim
  ·exact L.elim
 ·cases fl with
  |next=>
   obtain⟨σ',H',I',M,G',fp',e1,e2,R',sg⟩:=J;subst e2;exact⟨M,_,G',H',fp',e1,I',R',sg⟩
  |brk=>obtain⟨_,_,_,J⟩:=J;exact J.elim
  |cont=>obtain⟨_,_,_,J⟩:=J;exact J.elim
  |ret u=>obtain⟨_,_,_,_,_,J⟩:=J;exact J.elim
noncomputable def mQ (j i:Nat):DS→Out:=fun ρ=>match ρ[j]?,ρ[i]? with
 |some (some (.lst l)),some (some d)=>if aM l.length=true then .nx ((ρ.set i none).set j (some (.lst (l ++ [d])))) else .bad
 |_,_=>.bad
theorem yz {n j i:Nat}{x y:Str}{px py apos cpos pos:Pos}(hji:i≠j)(hm:μ.getD j 0=n+1)(hm2:μ.getD i 0=n)(hN:X.N[j]?=some x)(hN2:X.N[i]?=some y)(hv:uJ X.env.scope x)(hv2:uJ X.env.scope y)
  (hd:(x==("__debug__" :Str))=false:=by decide) (hcd:(x==("__classdict__" :Str))=false:=by decide)
  (hd2:(y==("__debug__" :Str))=false:=by decide) (hcd2:(y==("__classdict__" :Str))=false:=by decide)
  (hs:starEach [.Name y py] X.env=(false,eval (.Name y py) X.env)::starEach [] X.env:=by rfl)
  (hbase:attributeBase (.Name x px) "append" X.env (eval (.Name x px) X.env)=eval (.Name x px) X.env:=by rfl)
  (hfew:((backTo cpos (starEach [.Name y py] X.env)).all (fun x=> !x.1)&&(backToKw cpos (keywordEach [] X.env)).all (fun x=>x.1.isSome)&&decide (([Expr.Name y py].length+([]:List Keyword).length+if ([]:List Keyword).isEmpty=true then 0 else 1)<30))=true:=by rfl)
  (hline:(apos.endLine==cpos.line)=true:=by rfl)
  (hsw:swapsWith (.Call (.Attribute (.Name x px) "append" apos) [.Name y py] [] cpos) none pos.line X.env=pure false:=by rfl) :
  l9 X E μ r (.Expr (.Call (.Attribute (.Name x px) "append" apos) [.Name y py] [] cpos) pos) (mQ j i):=by
 intro pins s σ Ge B G H ρ fp I R ho;have hp:=nT (apos:=apos) (cpos:=cpos) (r:=eW) PySem.F.plainAttrs_list PySem.F.slot_list_append PySem.F.type_list_append (show zj X "list.append" eW from jC) (fH (pos:=px) hN hv hd hcd) (bH (fH (pos:=py) hN2 hv2 hd2 hcd2) dq hs) hbase hfew hline hs rfl;have hslot:∃l d,ρ[j]?=some (some (.lst l))∧ρ[i]?=some (some d):=by
  unfold mQ at ho;split at ho
  ·rename_i l d q1 q2;exact⟨l,d,q1,q2⟩
  ·exact ho.elim
 obtain⟨l,d,hr,hr2⟩:=hslot;have eo:mQ j i ρ=if aM l.length=true then .nx ((ρ.set i none).set j (some (.lst (l ++ [d])))) else .bad:=by
  unfold mQ;rw[hr,hr2]
 rw[eo]at ho ⊢;by_cases hc:aM l.length=true
 ·rw[if_pos hc];obtain⟨a,xs,T,h1,h2,h3,h4⟩:=R.top hr hm;obtain⟨v,k1,o⟩:=R.sl i d hr2;rw[hm2]at o;refine aW (iu hp hsw pins s σ H {nx:=fun σ' H'=>σ'=σ∧H'=a9 H a (.lst (xs ++ [v])),bk:=fun _ _=>False,ct:=fun _ _=>False,rt:=fun _ _=>False} I ⟨_,h1,.inl ⟨rfl,xs,.inl (.inl h2)⟩,_,k1,a,xs,v,rfl,rfl,h2,by rw[←h4.length];exact jb hc,rfl,rfl⟩) fun fl s1 D=>?_;cases fl with
  |next=>
   obtain⟨σ',H',I',e1,e2⟩:=D;subst e1 e2;have R1:=R.forget (i:=i) (o:=some v);rw[sV k1]at R1;exact⟨_,_,_,_,_,rfl,I',R1.app1 (S:=fp i) hm h1 h2 ((if_neg (Ne.symm hji)).trans h3) h4 o (R.nd i) (fun c hcc=>⟨⟨R.gf i c hcc,R.ob i c hcc⟩,fun k hk=>by
    dsimp only at hk;by_cases hki:k=i
    ·rw[if_pos hki]at hk;cases hk
    ·rw[if_neg hki]at hk;exact hki (R.dj k i c hk hcc)⟩),.refl _⟩
  |brk=>obtain⟨_,_,_,D⟩:=D;exact D.elim
  |cont=>obtain⟨_,_,_,D⟩:=D;exact D.elim
  |ret u=>obtain⟨_,_,_,_,_,D⟩:=D;exact D.elim
 ·rw[if_neg hc]at ho;exact ho.elim
noncomputable def Al:D→Res D
 |.lst l=>.ok (.lst l)
 |_=>.bad
noncomputable abbrev Ff (f:DS→Res D)(lo hi:DS→Res (Option Int)):DS→Res D:=fun ρ=>(zl f lo hi ρ).bind Al
theorem yD {e:Expr}{lo hi:Option Expr}{p2 pos:Pos}{f:DS→Res D}{fl fh:DS→Res (Option Int)}(he:PD X E e f)(hl:BS X E lo fl)(hh:BS X E hi fh):PN X E 1 (.Subscript e (.Slice lo hi none p2) pos) (Ff f fl fh):=by
 refine .tn (sB (pos:=pos) (p2:=p2) (sl_list.or y6) (du he) hl hh) fun σ G H ρ Q hs hro ho k=>⟨G,ρ,hs,hro,ho.fst.fst,fun d e v G1 H1 x1 p1=>?_⟩;have k1:=ho.fst.snd e x1.hh;refine⟨G1,ρ,x1.gh,hro.mono x1.gg,k1.fst,fun l el G2 H2 x2=>?_⟩;have k2:=k1.snd el x2.hh;refine⟨G2,ρ,x2.gh,(hro.mono x1.gg).mono x2.gg,k2.fst,fun u eu G3 H3 x3=>?_⟩;have x13:=(x1.trans x2).trans x3;have p3:=p1.mono (x2.gg.trans x3.gg);have e0:zl f fl fh ρ=fM l u d:=by unfold zl;rw[e,av,el,av,eu,av]
 have k3:OkR E H ((fM l u d).bind Al):=by rw[←e0];exact ho
 cases d with
 |lst ds=>
  rw[rep_lst]at p3;obtain⟨a,xs,rfl,sq,rl⟩:=p3;refine .inl ⟨a,xs,rfl,x3.gh.seq sq.sq,fun p hp=>?_⟩;obtain⟨x,o,w⟩:=il x13 hp (qg rl l u);exact k _ (by show (zl f fl fh ρ).bind Al=_;rw[e0];rfl) _ _ _ _ x o w
 |tup ds=>
  unfold fM at k3;dsimp only at k3;split at k3 <;> exact k3.elim
 |_=>exact k3.elim
end
noncomputable def nN (x c:D):Res D:=match c,x with
 |.fdc ks l,.tup kd=>(match fA kd with|some k=>(match oj ks l k with|some _=>.ok (.bl false)|none=>.bad)|none=>.bad)
 |_,_=>.bad
section
variable{X:Cx}{E:XK}{μ:List Nat}{r:Nat}
theorem vR (hu:X.A.units+64<cLine):DOp X E (compareOp .NotIn) nN:=by
 intro pins s σ G H x y dx dy v u I hs rx ry rv ru ok;unfold nN at ok ⊢;cases dy with
 |fdc ks l=>
  cases dx with
  |tup kd=>
   dsimp only at ok ⊢;cases ek:fA kd with
   |none=>rw[ek]at ok;exact ok.elim
   |some k=>
    rw[ek]at ok;dsimp only at ok ⊢;cases eq:oj ks l k with
    |none=>rw[eq]at ok;exact ok.elim
    |some d=>
     rw[rep_tup]at rx;obtain⟨b,xs,rfl,tb,rk⟩:=rx;rw[rep_fdc]at ry;obtain⟨a,o,kvs,rfl,rd,hk,rl⟩:=ry;subst hk;obtain⟨v',ev',rv'⟩:=(ol (q:=k) rl).1 d eq;have hx:=gG rk ek;subst hx;cases (show u= .ref a from ru);exact zA (by omega) I (.inr ⟨kvs,k,b,hs.rd (.inr ⟨o,rd⟩),rfl,hs _ _ tb.h,ev'.symm⟩) rv fun s' I'=>⟨_,rfl,.bl false,G,H,I',rfl,.refl hs,rep_bl.mpr rfl⟩
  |_=>exact ok.elim
 |_=>cases dx <;> exact ok.elim
noncomputable def xf (p a:Addr):HO:=.ext fun h=>h.IsValuesView p a
noncomputable def vA:V→List V→Hp→VK→Prop:=fun x vs H Q=>∃a kvs,x= .ref a∧vs=[]∧Rd H a (.dT kvs)∧∀p,H p=none→Q (.ref p) (a9 H p (xf p a))
theorem ww:zj X "dict.values" vA:=by
 intro pins s σ H x vs v us Q I rx rv h;obtain⟨a,kvs,rfl,rfl,rd,q⟩:=h;cases (show v= .ref a from rx);cases rv;obtain⟨z,hd,xs,pr,o,es,ep,ho,ex,dt,he,nd⟩:=pO I.hok rd;have ty:s.TypeIs (.ref a) "dict" :=⟨o,ho,ex.1⟩;refine wpAny_call_entry PySem.F.slot_dict_values ty PySem.F.entry_dict_values ?_ (PySem.F.args_dict_values_1 _);show wpAny (model X.prog X.w) X.A.in1 (do let d ←Builtin.Dict.noArgs "values" {pos:=[.ref a]};Builtin.Dict.showsAll d;let v ←newFields "dict_values" [.ref d];ret v) _ _ s
 refine wpAny_bind ?_;unfold Builtin.Dict.noArgs;refine wpAny_bind ?_;unfold Builtin.Dict.notOrdered;rw[if_pos (by decide)];refine wpAny_bind (wpAny_typeOf ty ?_);rw[if_neg (by decide)];refine wpAny_pure (wpAny_bind ?_);unfold Builtin.Dict.nameIsSure;rw[if_neg (by simp)];refine wpAny_pure (wpAny_bind ?_);show wpAny _ _ (pure (Value.ref a)) _ _ s;refine wpAny_pure (wpAny_pure (wpAny_bind ?_));unfold Builtin.Dict.showsAll;rw[if_neg (by rw[hd];exact Bool.false_ne_true)];refine wpAny_pure (wpAny_bind ?_);unfold newFields;refine wpAny_newObj_type (wpAny_pure ⟨_,rfl,.ref s.heap.objs.size,_,?_,rfl,q _ (I.hok.fresh (le_refl _))⟩) (by size_fits);exact I.laid (t':=s.toks) (fun b o e=>Heap.get?_push_of_some _ e) (le_refl _) ⟨⟨_,Heap.get?_push_size _ rfl,rfl,rfl⟩,⟨_,Heap.get?_push_size _ rfl⟩,fun h1 h2 ⟨o,e,c,d⟩ k=>⟨o,k _ e,c,d⟩⟩
theorem EF {P:Program}{w:World}{H:Hp}{kvs:List (List bw×V)}{xs:List (List bw×Addr×Value)}{es:Array DictEntry}{ns:List Int}(pr:Paired (fun (p:List bw×V) (q:List bw×Addr×Value)=>p.1=q.1∧H q.2.1=some (HO.tup (p.1.map kV))∧RelV p.2 q.2.2) kvs xs)(he:es.toList=xs.map (entryOfKey (tupleKind (bG P w))))(hn:kvs.map (·.2)=ns.map V.int):es.size=ns.length∧∀(i:Nat) (h:i<es.size),∃t,es[i].val= .int (ns.getD i 0) t:=by
 obtain⟨hl,at'⟩:=Paired.at2 pr;have hsz:es.size=kvs.length:=by rw[←length_toList,he,length_map,hl]
 have hln:kvs.length=ns.length:=by have:=congrArg List.length hn;rwa[length_map,length_map]at this
 refine⟨by omega,fun i h=>?_⟩;have h1:i<kvs.length:=by omega
 have h3:i<xs.length:=by omega
 have e1:es[i]=entryOfKey (tupleKind (bG P w)) xs[i]:=by
  have:es.toList[i]?=some (entryOfKey (tupleKind (bG P w)) xs[i]):=by rw[he,getElem?_map,iN h3];rfl
  rw[getElem?_toList,getElem?_eq_getElem h]at this;exact Option.some.inj this
 have e2:kvs[i].2= .int (ns.getD i 0):=by
  have:(kvs.map (·.2))[i]?=(ns.map V.int)[i]?:=by rw[hn]
  rw[getElem?_map,getElem?_map,iN h1,iN (by omega:i<ns.length)]at this;have h4:=Option.some.inj this;rw[getD_eq_getElem?_getD,iN (by omega:i<ns.length)];exact h4
 have r:=(at' i h1 h3).2.2;rw[e2]at r;obtain⟨t,e⟩:=r;exact⟨t,by rw[e1];exact e⟩
theorem vM (hc:X.calm=true):d7 X (.builtin "max") (fun xs H Q=>∃p a kvs ns,xs=[.ref p]∧H p=some (xf p a)∧Rd H a (.dT kvs)∧kvs.map (·.2)=ns.map V.int∧ns≠[]∧Q (.int (dN ns)) H):=by
 intro pins s σ H xs us Q I r h;obtain⟨p,a,kvs,ns,rfl,hp,rd,hn,hne,q⟩:=h;obtain⟨u,rfl,ru⟩:=jm r;cases (show u= .ref p from ru);obtain⟨hv,_,_⟩:=(show ObjOk X.prog X.w H s.heap p (xf p a) from I.hok p _ hp);obtain⟨z,hd,xs,pr,o,es,ep,ho,ex,dt,he,nd⟩:=pO I.hok rd;obtain⟨hsz,hat⟩:=EF pr he hn;have rw0:RawD s.heap a es ep:=⟨o,ho,ex,dt⟩;have hal:a<s.heap.objs.size:=Heap.lt_size ho;have hnl:0<ns.length:=length_pos_iff.mpr hne;have hai:a≠s.heap.objs.size:=ne_of_lt hal;refine call_max_walkS (wJ hv rw0 ?_);refine⟨s.heap.objs.size,[s.heap.objs.size,a],[s.heap.objs.size],(· = ·),es.size,fun i v=>∃t,v= .int (ns.getD i 0) t,fun i s'=>s'.heap.IsValIter s.heap.objs.size a i es.size ep∧RawD s'.heap a es ep,fun i j=>decide (ns.getD i 0>ns.getD j 0),rfl,?_,⟨⟨_,Heap.get?_push_size _ rfl,rfl,rfl⟩,⟨o,Heap.get?_push_of_some _ ho,ex,dt⟩⟩,fun b hb=>?_,by omega,?_,fun v s' hP mv=>?_⟩
 ·refine⟨fun b hb=>mem_cons.mpr (.inl (mem_singleton.mp hb)),fun _=>rfl,fun _ _ _ h1 h2=>h1.trans h2,?_,?_,?_,?_⟩
  ·rintro i s1 h' tk ⟨⟨o1,e1,c1,d1⟩,⟨o2,e2,x2,d2⟩⟩ _ k;exact⟨⟨o1,k _ (by simp) _ e1,c1,d1⟩,⟨o2,k _ (by simp) _ e2,x2,d2⟩⟩
  ·rintro i s1 Q1 E1 hi ⟨v1,r1⟩ k;refine wK v1 r1 hi fun h' v2 sb=>k _ _ (hat i hi) ⟨v2,?_⟩ ⟨fun b o hb e=>(sb.2 b (by simpa using hb)).trans e,rfl,rfl,rfl,le_refl _⟩;obtain⟨o2,e2,x2,d2⟩:=r1;exact⟨o2,(sb.2 a hai).trans e2,x2,d2⟩
  ·rintro s1 Q1 E1 ⟨v1,r1⟩ k;exact yR (I.ok.hd hc) v1 r1 (le_refl _) fun h' eb=>k _ ⟨fun b o hb e=>eb b o (by simpa using hb) e,rfl,rfl,rfl,le_refl _⟩
  ·rintro i s1 Q1 E1 ⟨v1,r1⟩ k;exact wpAny_pyIter_valiter v1 k
 ·rcases mem_cons.mp hb with e|e
  ·rw[e];show s.heap.objs.size<(s.heap.push _).objs.size;rw[Heap.size_push];exact lt_succ_self _
  ·rw[mem_singleton.mp e];show a<(s.heap.push _).objs.size;rw[Heap.size_push];exact lt_succ_of_lt hal
 ·exact CmpOf.ints_gt (fun i=>ns.getD i 0) fun i v h=>h
 ·obtain⟨t,rfl⟩:=hP;obtain⟨h1,h2⟩:=argBest_gt (fun i=>ns.getD i 0) (es.size-1);have hm:ns.getD (argBest (fun i j=>decide (ns.getD i 0>ns.getD j 0)) (es.size-1)) 0=dN ns:=by
   obtain⟨m1,m2⟩:=dP hne;refine Int.le_antisymm (m2 _ (getD_mem (by omega))) ?_;obtain⟨j,hj,ej⟩:=mem_getD m1;rw[←ej];exact h2 j (by omega)
  rw[hm];have I':Inv X pins σ H s':=by
   have:=I.kept (t':=s'.toks) (h':=s'.heap) fun b o e=>mv.heap b o (by simpa using ne_of_lt (Heap.lt_size e)) (Heap.get?_push_of_some _ e);obtain⟨hp',gs,dr,tk,os⟩:=s';have e1:=mv.gens;have e2:=mv.drawn;have e3:=mv.os;dsimp only at e1 e2 e3;subst e1 e2 e3;exact this
  exact⟨.int (dN ns),H,I',⟨t,rfl⟩,q⟩
noncomputable def lZ:D→Res D
 |.fdc _ l=>(match allInts l with|some (a::ns)=>.ok (.int (dN (a::ns)))|_=>.bad)
 |_=>.bad
noncomputable def Fi (r:V→List V→Hp→VK→Prop)(to:TE):TE:=fun σ H Q=>to σ H fun x H1=>(∃a kvs,x= .ref a∧Rd H1 a (.dT kvs))∧r x [] H1 Q
theorem C5 {o:Expr}{to:TE}{name:Str}{apos cpos:Pos}{id:String}{r:V→List V→Hp→VK→Prop}(slot:Slot "dict" name id)(hty:typeOf (.builtin id)=pure (.type "method_descriptor"))(hm:zj X id r)(ho:PE X o to)
  (hbase:attributeBase o name X.env (eval o X.env)=eval o X.env:=by rfl) (hline:(apos.endLine==cpos.line)=true:=by rfl):PE X (.Call (.Attribute o name apos) [] [] cpos) (Fi r to):=by
 intro pins s σ H Q I h;refine wpAny_Call_method0_late hbase hline (aW (ho pins s σ H _ I h) fun v s1 ⟨x,H1,I1,r1,⟨a,kvs,e,rd⟩,q1⟩=>?_);subst e;have r1':=r1;cases r1';obtain⟨z,hd,xs,pr,ob,es,ep,hob,ex,dt,he,nd⟩:=pO I1.hok rd;exact⟨"dict",id,PySem.F.plainAttrs_dict,slot,hty,⟨ob,hob,ex.1⟩,fun a e2=>by cases e2;exact⟨ob,hob,ex.2.1⟩,Calls.callWith_builtin rfl (PySem.evalArgs_none (hm pins s1 σ H1 _ [] _ [] Q I1 r1 .nil q1))⟩
theorem Az {o:Expr}{p apos cpos pos:Pos}{f:DS→Res D}(hm:X.mg "max" =none)(h:PD X E o f)(hc:X.calm=true:=by rfl)(hg:Gl X "max" :=by rfl)
  (hbase:attributeBase o "values" X.env (eval o X.env)=eval o X.env:=by rfl) (hline:(apos.endLine==cpos.line)=true:=by rfl)
  (hs:starEach [.Call (.Attribute o "values" apos) [] [] cpos] X.env=(false,eval (.Call (.Attribute o "values" apos) [] [] cpos) X.env)::starEach [] X.env:=by rfl) :
  PD X E (.Call (.Name "max" p) [.Call (.Attribute o "values" apos) [] [] cpos] [] pos) (fun ρ=>(f ρ).bind lZ):=by
 intro pins s σ G H ρ I hsm hro ho;have he:=nV (pos:=pos) (p:=p) (vM hc) hg hm xm (bH (C5 (apos:=apos) (cpos:=cpos) (r:=vA) PySem.F.slot_dict_values PySem.F.type_dict_values ww (du h) hbase hline) dq hs) (by decide) (by decide) hs rfl;refine aW (he pins s σ H (fun v H'=>∃d G',(f ρ).bind lZ= .ok d∧Ext G H G' H'∧Rep X.K G' d v) I ?_) fun u s' hZ168=>(by obtain⟨v,H',I',r,d,G',e,xx,rp⟩:=hZ168;exact⟨d,e,v,G',H',I',r,xx,rp⟩);refine⟨G,ρ,hsm,hro,ho.fst,fun d e v G1 H1 x1 p1=>?_⟩;have kk:=ho.snd e x1.hh;cases d with
 |fdc ks l=>
  unfold lZ at kk;dsimp only at kk;cases q:allInts l with
  |none=>rw[q]at kk;exact kk.elim
  |some ns=>
   rw[q]at kk;cases ns with
   |nil=>exact kk.elim
   |cons a ns=>
    have el:=fj q;subst el;rw[rep_fdc]at p1;obtain⟨b,o,J,rfl,rd,hk,rl⟩:=p1;have ex:=rl.ints;have rdH:Rd H1 b (.dT J):=x1.gh.rd (.inr ⟨o,rd⟩);refine⟨⟨b,J,rfl,rdH⟩,b,J,rfl,rfl,rdH,fun pp hp=>?_⟩;have x2:=x1.trans (Ext.new x1.gh hp (xf pp b));refine⟨pp,b,J,a::ns,rfl,aq,?_,ex,List.cons_ne_nil _ _,_,_,am e (by unfold lZ;dsimp only;rw[q]),x2,rep_int.mpr rfl⟩;exact x2.gh.rd (.inr ⟨o,(Ext.new x1.gh hp (xf pp b)).gg _ _ rd⟩)
 |_=>exact kk.elim
end
theorem t5:typeLookup (.type "list_reverseiterator") "__len__" =pure none:=by rw[typeLookup_type,builtinLookup_eq_fast];kernel_rfl
theorem x_:typeLookup (.type "list_reverseiterator") "__length_hint__" =pure (some (.builtin "list_reverseiterator.__length_hint__")):=by rw[typeLookup_type,builtinLookup_eq_fast];kernel_rfl
section
variable{prog:Program}{w:World}{A:Around}{E:Value→Shared→Prop}{s:Shared}
theorem xQ {r l:Addr}{i:Int}{Q:Bool→Shared→Prop}(hr:s.heap.IsRevIter r l i)(h:Q false s):wpAny (model prog w) A (Builtin.List.listLengthHint (.ref r)) Q E s:=by
 unfold Builtin.List.listLengthHint;refine wpAny_bind (wpAny_specialOf hr.typeIs t5 ?_);show wpAny _ A (specialOf (Value.ref r) (Str.ofString "__length_hint__") >>= _) _ _ _;refine wpAny_bind (wpAny_specialOf hr.typeIs x_ ?_);generalize lQ:("list_reverseiterator.__length_hint__" :String)=id0
 wp_delta
 rw[show splitId id0=some ("list_reverseiterator","__length_hint__") from by subst lQ;decide +kernel];subst lQ;refine wpAny_bind (wpAny_isInstance (T:= "list_reverseiterator") (b:=true) hr.typeIs (by rw[isSubtype_type];kernel_rfl) ?_);refine wpAny_ite_split (fun c=>absurd c (by decide)) (fun _=>?_);refine wpAny_ite_split (fun _=>?_) (fun c=>absurd (by decide +kernel) c);refine wpAny_ite_split (fun c=>absurd c (by decide +kernel)) (fun _=>?_);exact wpAny_pure h
theorem tQ {R:Result→Shared→Prop}{r l:Addr}{items:Array Value}(hh:A.handled=none)(hr:s.heap.IsRevIter r l ((items.size:Int)-1))(hl:s.heap.IsList l items)(hlen:items.size≤2 ^ 24)(S:Addr)(res:Value)(c₀:Nat)(hS:s.heap.get? S=some {cls:=.type "list",data:=.seq #[] c₀})(hSl:S≠l)
  (hR:∀h' tk acc' c',(∀b o,b≠S→b≠r→s.heap.get? b=some o→h'.get? b=some o)→h'.get? S=some {cls:=.type "list",dict:=none,data:=.seq acc' c',slots:= #[]}→
   ItemsOf (fun i v=>items[items.size-1-i]?=some v) acc' items.size→R (.ok (.ret res)) {s with heap:=h',toks:=tk}) :
  wpAny (model prog w) A.in1 (Builtin.List.listExtendWith (.ref S) (.ref r) res)
   (fun fin s'=>match fin with|.done f=>R (.ok f) s'|.again c'=>c'.quiet=true∧codeAny (model prog w) A c' R s') (fun e s'=>R (.error e) s') s:=by
 have hSr:S≠r:=fun e=>by
  obtain⟨o,ho,hc,_⟩:=hr;rw[e]at hS;rw[hS]at ho;cases ho;exact absurd (Value.type.inj hc) (by decide)
 have hlr:l≠r:=fun e=>by
  obtain⟨o,ho,hc,_⟩:=hr;obtain⟨o',ho',hc',_⟩:=hl;rw[e]at ho';rw[ho']at ho;cases ho;rw[hc]at hc';exact absurd hc' (by decide)
 have hSf:S∉[r,l]:=fun hm=>by
  rcases mem_cons.mp hm with e|hm
  ·exact hSr e
  ·exact hSl (mem_singleton.mp hm)
 have W:=(Walks.listRev (prog:=prog) (w:=w) (A:=A.in1) hh r l hlr items).toS;unfold Builtin.List.listExtendWith;refine wpAny_bind (wpAny_typeOf hr.typeIs ?_);have h1:Builtin.List.listSameRef (.ref S) (.ref r)=false:=by simp[Builtin.List.listSameRef,hSr]
 have h2:(Value.type "list_reverseiterator"==Value.type "list")=false:=by decide
 have h3:(Value.type "list_reverseiterator"==Value.type "tuple")=false:=by decide
 simp only[h1,h2,h3,Bool.or_false,false_eq_true,if_false];refine wpAny_bind (wpAny_pyIter_revIter hr ?_);refine wpAny_bind (wpAny_holding (xQ hr ?_));refine wpAny_ite_split (fun hab=>absurd hab (by decide +kernel)) (fun _=>?_);refine wpAny_pure ⟨plainId_quiet F.plain_extend_loop _,codeAny_extend_loopS W (by rw[sizeLine_eq];omega) S hSf res items.size 0 _ #[] c₀ rfl (zero_le _) ⟨zero_le _,by simpa using hr,hl⟩ hS (ItemsOf.nil _) fun s' acc' c' hm hS' hacc=>?_⟩;rw[Moved.eq_with hm];refine hR s'.heap s'.toks acc' c' (fun b o hb hb2 e=>hm.heap b o (fun hmem=>?_) e) hS' hacc
 ·rcases mem_cons.mp hmem with e'|hmem
  ·exact hb e'
  ·exact hb2 (mem_singleton.mp hmem)
theorem xR {R:Result→Shared→Prop}{r l:Addr}{items:Array Value}(hh:A.handled=none)(hr:s.heap.IsRevIter r l ((items.size:Int)-1))(hl:s.heap.IsList l items)(hlen:items.size≤2 ^ 24)(S:Addr)(hS:s.heap.get? S=some {cls:=.type "list",data:=.seq #[]})(hSl:S≠l)(hSr:S≠r)
  (hR:∀h' tk acc' c',(∀b o,b≠S→b≠r→s.heap.get? b=some o→h'.get? b=some o)→h'.get? S=some {cls:=.type "list",dict:=none,data:=.seq acc' c',slots:= #[]}→
   ItemsOf (fun i v=>items[items.size-1-i]?=some v) acc' items.size→R (.ok (.ret .none)) {s with heap:=h',toks:=tk}) :
  wpAny (model prog w) A.in1 (Builtin.«list.__init__» ⟨[.ref S,.ref r],[]⟩)
   (fun fin s'=>match fin with|.done f=>R (.ok f) s'|.again c'=>c'.quiet=true∧codeAny (model prog w) A c' R s') (fun e s'=>R (.error e) s') s:=by
 show wpAny _ _ (do let old ←Builtin.List.listItems (.ref S);Builtin.List.listUpdate (.ref S) (fun _=> #[]);letGo old.toList.reverse;Builtin.List.listExtendWith (.ref S) (.ref r) .none) _ _ s
 refine wpAny_bind ?_;unfold Builtin.List.listItems;refine wpAny_bind (wpAny_seqItems hS rfl (wpAny_pure ?_));show wpAny _ _ (updateSeq S (fun _=> #[]) >>= fun _=>letGo (#[]:Array Value).toList.reverse >>= fun _=>Builtin.List.listExtendWith (.ref S) (.ref r) .none) _ _ s;refine wpAny_bind (wpAny_updateSeq hS rfl ?_);have hS₂:=Heap.get?_update_self (Obj.mapSeq (fun _=>(#[]:Array Value))) hS rfl;have oth:∀b o,b≠S→s.heap.get? b=some o→(s.heap.update S (Obj.mapSeq (fun _=>(#[]:Array Value)))).get? b=some o:=
  fun b o hb e=>(Heap.get?_update_other _ _ (Ne.symm hb)).trans e
 refine wpAny_bind (wpAny_letGo ?_);refine tQ hh (hr.at fun o e=>oth r o (Ne.symm hSr) e) (hl.at fun o e=>oth l o (Ne.symm hSl) e) hlen S .none _ hS₂ hSl fun h' tk acc' c' hk hS' hacc=>?_;exact hR h' tk acc' c' (fun b o hb hb2 e=>hk b o hb hb2 (oth b o hb e)) hS' hacc
theorem oA {Q:Value→Shared→Prop}{r l:Addr}{items:Array Value}(hh:A.handled=none)(hr:s.heap.IsRevIter r l ((items.size:Int)-1))(hl:s.heap.IsList l items)(hlen:items.size≤2 ^ 24)
  (hQ:∀h' tk acc' c',(∀b o,b≠r→s.heap.get? b=some o→h'.get? b=some o)→
   h'.get? s.heap.objs.size=some {cls:=.type "list",dict:=none,data:=.seq acc' c',slots:= #[]}→ItemsOf (fun i v=>items[items.size-1-i]?=some v) acc' items.size→Q (.ref s.heap.objs.size) {s with heap:=h',toks:=tk}) :
  wpAny (model prog w) A (call (.type "list") [.ref r]) Q E s:=by
 refine callType_codes (Q₁:=fun obj s₁=>obj= .ref s.heap.objs.size∧s₁={s with heap:=s.heap.push {cls:=.type "list",data:=.seq #[]}}) F.called_list (F.typeCall_list_1 _) F.entry_list_init
  (code_list_new _ ⟨rfl,rfl⟩) fun obj s₁ h₁=>?_
 obtain⟨rfl,rfl⟩:=h₁;have hS:(s.heap.push {cls:=.type "list",data:=.seq #[]}).get? s.heap.objs.size=some {cls:=.type "list",data:=.seq #[]}:=Heap.get?_push_size _ rfl;have lr:r<s.heap.objs.size:=let ⟨_,e,_⟩:=hr;Heap.lt_size e
 have ll:l<s.heap.objs.size:=let ⟨_,e,_⟩:=hl;Heap.lt_size e
 refine⟨⟨_,hS,rfl⟩,F.args_list_init_2 _ _,xR (A:=A.in1) hh (hr.at fun o e=>Heap.get?_push_of_some _ e) (hl.at fun o e=>Heap.get?_push_of_some _ e) hlen _ hS (ne_of_gt ll) (ne_of_gt lr) fun h' tk acc' c' hk hS' hacc=>?_⟩;exact⟨rfl,hQ h' tk acc' c' (fun b o hb e=>hk b o (ne_of_lt (Heap.lt_size e)) hb (Heap.get?_push_of_some _ e)) hS' hacc⟩
end
noncomputable def xa (p l:Addr)(n:Nat):HO:=.ext fun h=>h.IsRevIter p l ((n:Int)-1)
section
variable{X:Cx}{E:XK}{μ:List Nat}{r:Nat}
theorem xS {pins:List (Addr×Obj)}{σ:St}{H:Hp}{s:Shared}{h':Heap}{t':Nat}{p S:Addr}{φ:Heap→Prop}{o:HO}(I:Inv X pins σ (a9 H p (.ext φ)) s)(hp:H p=none)(hps:X.s₀.heap.objs.size≤p)(hS:s.heap.objs.size≤S)
  (k:∀b u,b≠p→s.heap.get? b=some u→h'.get? b=some u) (new:ObjOk X.prog X.w (a9 H S o) h' S o):Inv X pins σ (a9 H S o) {s with heap:=h',toks:=t'}:=by
 have nS:∀b u,s.heap.get? b=some u→b≠S:=fun b u e=>ne_of_lt (lt_of_lt_of_le (Heap.lt_size e) hS);have np:∀b,(a9 H p (.ext φ)) b=none→b≠p:=fun b e z=>by rw[z,aq]at e;cases e
 have HS:H S=none:=by
  by_cases z:S=p
  ·rw[z];exact hp
  ·have q:=I.hok.fresh hS;rw[ak z]at q;exact q
 have al:∀b u,(a9 H p (.ext φ)) b=some u→(∀φ',u≠ .ext φ')→(a9 H S o) b=some u:=fun b u e n=>by
  by_cases z:b=p
  ·rw[z,aq]at e;cases e;exact absurd rfl (n _)
  ·rw[ak z]at e;rw[ak (az e HS)];exact e
 obtain⟨m,⟨om,es,ep,hom,rm⟩,_⟩:=id I.loc;refine I.step (g':=s.gens) (d':=s.drawn) (ch:=[p,S]) (fun b hb=>?_) (fun b o _ _ hc e _=>k b o (fun z=>hc (by simp[z])) e) (fun b o _ _ hc e _=>⟨o.slots,k b o (fun z=>hc (by simp[z])) e⟩) (fun b u hc e n=>?_)
  (fun b o hc e=>⟨o,k b o (fun z=>hc (by simp[z])) e⟩) (fun b xs e=>al b _ e (fun _=>by simp)) (fun b o u e=>al b _ e (fun _=>by simp)) (fun b ps e=>⟨#[],by rw[al b _ e (fun _=>by simp)];simp⟩) (fun m hm=>?_) (fun b u e=>?_) I.bare
 ·rcases mem_cons.mp hb with z|hb
  ·subst z;exact⟨.inr hps,fun z=>np _ I.free z.symm,fun x c e=>np _ (I.freeC x c e),fun q hq=>np _ (I.pin q hq).2.1⟩
  ·have z:b=S:=mem_singleton.mp hb;subst z;exact⟨.inr (le_trans I.sz hS),fun z=>nS _ _ hom z.symm,fun x c e=>by obtain⟨v,oc,hc,_⟩:=I.cell x c e;exact nS _ _ hc,fun q hq=>nS _ _ (I.pin q hq).1⟩
 ·have z:=np b n;rw[ak z]at n;rw[ak (nS b u e)];exact n
 ·obtain⟨o',es',ep',ho',r'⟩:=hm;exact⟨o',es',ep',k _ _ (np _ I.free) ho',r'⟩
 ·by_cases z:b=S
  ·subst z;rw[aq]at e;cases e;exact new
  ·rw[ak z]at e;have bp:b≠p:=az e hp;refine(I.hok b u (by rw[ak bp];exact e)).stay (fun c v hc q=>k c v ?_ q) (fun c q=>al c _ q (fun _=>by simp)) fun c xs q=>al c _ q (fun _=>by simp)
   rcases hc with rfl|hc
   ·exact bp
   ·intro z;rw[z,aq]at hc;cases hc
theorem zd:∀{xs:List V} {us:List Value},Vals xs us→Vals xs.reverse us.reverse:=by
 intro xs us h
 induction h with
 |nil=>exact .nil
 |cons r t ih=>
  rw[reverse_cons,reverse_cons];exact ih.append (.cons r .nil)
theorem xp:d7 X (.type "reversed") (fun xs H Q=>∃l ys,xs=[.ref l]∧gB X.K H l ys∧∀p,H p=none→X.s₀.heap.objs.size≤p→Q (.ref p) (a9 H p (xa p l ys.length))):=by
 intro pins s σ H xs us Q I rr h;obtain⟨l,ys,rfl,sq,q⟩:=h;obtain⟨u,rfl,ru⟩:=jm rr;cases (show u= .ref l from ru);obtain⟨its,vs,pl,hz⟩:=I.list sq;have e:((its.toArray.size:Nat):Int)-1=(ys.length:Int)-1:=by rw[vs.length];simp
 refine call_reversed_list pl.isList ?_;rw[e];exact⟨.ref s.heap.objs.size,_,I.laid (t':=s.toks) (o:=xa s.heap.objs.size l ys.length) (fun b o e=>Heap.get?_push_of_some _ e) (le_refl _) ⟨⟨_,Heap.get?_push_size _ rfl,rfl,rfl⟩,⟨_,Heap.get?_push_size _ rfl⟩,fun h1 h2 x k=>x.at k⟩,rfl,q _ (I.hok.fresh (le_refl _)) I.sz⟩
theorem qe (hc:X.calm=true):d7 X (.type "list") (fun xs H1 Q=>∃p l ys H,xs=[.ref p]∧H1=a9 H p (xa p l ys.length)∧H p=none∧X.s₀.heap.objs.size≤p∧gB X.K H l ys∧ys.length≤100000∧∀q,H q=none→Q (.ref q) (a9 H q (.lst ys.reverse))):=by
 intro pins s σ H1 xs us Q I rr h;obtain⟨p,l,ys,H,rfl,rfl,hp,hps,sq,hz,q⟩:=h;obtain⟨u,rfl,ru⟩:=jm rr;cases (show u= .ref p from ru);have sm:Same H (a9 H p (xa p l ys.length)):=fun b o e=>by rw[ak (az e hp)];exact e
 obtain⟨A,vs,pl,_⟩:=I.list (sm.seq sq);have e:((A.toArray.size:Nat):Int)-1=(ys.length:Int)-1:=by rw[vs.length];simp
 obtain⟨ri,_,_⟩:=(show ObjOk X.prog X.w _ s.heap p (xa p l ys.length) from I.hok p _ aq);refine oA (I.ok.hd hc) (by rw[e];exact ri) pl.isList (by rw[size_toArray,←vs.length];omega) fun h' tk d c' hk hD hI=>?_;have ea:d.toList=A.reverse:=by
  obtain⟨a1,a2⟩:=hI;apply ext_getElem?;intro i;by_cases hi:i<A.length
  ·have a1':d.size=A.length:=by simpa using a1
   have hi':i<d.size:=by omega
   have:=a2 i d[i] (getElem?_eq_getElem hi');rw[getElem?_reverse hi];rw[getElem?_toList,getElem?_eq_getElem hi'];simpa using this.symm
  ·have a1':d.size=A.length:=by simpa using a1
   rw[getElem?_eq_none (by simpa using (by omega:d.size≤i)),getElem?_eq_none (by simpa using (by omega:A.length≤i))]
 refine⟨.ref s.heap.objs.size,_,xS (φ:=fun h=>h.IsRevIter p l ((ys.length:Int)-1)) (S:=s.heap.objs.size) (o:=.lst ys.reverse) I hp hps (le_refl _) hk ⟨?_,d.toList,c',by rw[ea];exact zd vs,?_⟩,rfl,q _ ?_⟩
 ·rw[length_reverse];exact le_trans hz (by decide)
 ·rw[hD]
 ·have z:=I.hok.fresh (le_refl _);by_cases y:s.heap.objs.size=p
  ·rw[y];exact hp
  ·rw[ak y]at z;exact z
noncomputable def kJ:List D→Res D
 | [.lst l]=>if aM l.length=true then .ok (.lst l.reverse) else .bad
 |_=>.bad
theorem AO {e:Expr}{p1 p2 pos1 pos2:Pos}{f:DS→Res D}(hm:X.mg "list" =none)(hm2:X.mg "reversed" =none)(h:PD X E e f)(hc:X.calm=true:=by rfl)(hg:Gl X "list" :=by rfl)(hg2:Gl X "reversed" :=by rfl)
  (he:starEach [e] X.env=(false,eval e X.env)::starEach [] X.env:=by rfl)
  (hs3:starEach [.Call (.Name "reversed" p2) [e] [] pos2] X.env=(false,eval (.Call (.Name "reversed" p2) [e] [] pos2) X.env)::starEach [] X.env:=by rfl) :
  PN X E 1 (.Call (.Name "list" p1) [.Call (.Name "reversed" p2) [e] [] pos2] [] pos1) (bf (fun ρ=>(f ρ).bind fun d=>.ok [d]) kJ):=by
 have hpd:lm X E [e] (fun ρ=>(f ρ).bind fun d=>.ok [d]):=aa h af he;refine .tn (cW (pos:=pos1) (p:=p1) (qe hc) hg hm kh (bH (cW (pos:=pos2) (p:=p2) xp hg2 hm2 boot_reversed (im hpd) (by decide) (by decide) he rfl) dq hs3) (by decide) (by decide) hs3 rfl) fun σ G H ρ Q hs hro ho k=>⟨G,ρ,hs,hro,ho.fst,fun ds e1 vs G1 H1 x1 p1=>?_⟩;have kk:=ho.snd e1 x1.hh;have e0:bf (fun ρ=>(f ρ).bind fun d=>.ok [d]) kJ ρ=kJ ds:=by show ((f ρ).bind fun d=>Res.ok [d]).bind kJ=_;rw[e1];rfl
 unfold kJ at kk;split at kk
 ·rename_i l;obtain⟨v,r,rfl,rx,r0⟩:=p1.inv;rw[r0.inv0];rw[rep_lst]at rx;obtain⟨q,xs,rfl,sq,rx⟩:=rx;by_cases hl:aM l.length=true
  ·refine⟨q,xs,rfl,x1.gh.seq sq.sq,fun p hp hps=>⟨p,q,xs,H1,rfl,rfl,hp,hps,x1.gh.seq sq.sq,?_,fun z hz=>?_⟩⟩
   ·rw[←rx.length];exact of_decide_eq_true hl
   ·obtain⟨x,o,w⟩:=il x1 hz rx.reverse;exact k _ (e0.trans (if_pos hl)) _ _ _ _ x o w
  ·rw[if_neg hl]at kk;exact kk.elim
 ·exact kk.elim
theorem Df {a b:Expr}{f g:DS→Res D}{pos:Pos}(ha:PD X E a f)(hb:PD X E b g):PN X E 1 (.BinOp a .Add b pos) (ae f g l_):=by
 refine .tn (Eo (pos:=pos) yi (du ha) (du hb)) fun σ G H ρ Q hs hro ho k=>⟨G,ρ,hs,hro,ho.fst,fun d e1 v G1 H1 x1 p1=>⟨G1,ρ,x1.gh,hro.mono x1.gg,(ho.snd e1 x1.hh).fst,fun d2 e2 v2 G2 H2 x2 p2=>?_⟩⟩;have kk:=(ho.snd e1 x1.hh).snd e2 x2.hh;have e0:ae f g l_ ρ=l_ d d2:=by unfold ae;rw[e1,av,e2,av]
 unfold l_ at kk;split at kk
 ·rename_i la lb;rw[rep_lst]at p1 p2;obtain⟨p,xs,rfl,l1,r1⟩:=p1;obtain⟨q,ys,rfl,l2,r2⟩:=p2;by_cases hz:aM (la.length+lb.length)=true
  ·refine⟨p,q,xs,ys,rfl,rfl,x2.hh _ _ (x1.gh _ _ l1.h),x2.gh _ _ l2.h,by rw[←r1.length,←r2.length];exact bu hz,fun t ht=>?_⟩;obtain⟨x,o,w⟩:=il (x1.trans x2) ht ((r1.mono x2.gg).append r2);exact k _ (by rw[e0];unfold l_;exact if_pos hz) _ _ _ _ x o w
  ·rw[if_neg hz]at kk;exact kk.elim
 ·exact kk.elim
end
end L2
set_option maxHeartbeats 4000000
namespace K06
open PySem L2
noncomputable def top (i:Nat):Stmt:=PySem.Challenge.pw_haltline_k06_whole_chains.main.body.getD i (.Pass ⟨0,0,0,0⟩)
structure Ad where
 HE:Addr
 ST:Addr
 BO:Addr
 TS:Addr
structure Kit (K:W.Frag)(Y:Ad):Prop where
 i0:W.kitOne K (.ref Y.ST) (.ref Y.ST)=some true
 i1:W.kitOne K (.ref Y.ST) (.type "ValueError")=some true
 i2:W.kitOne K (.ref Y.ST) (.ref Y.BO)=some false
 i3:W.kitOne K (.ref Y.ST) (.ref Y.TS)=some false
structure Txt (K:W.Frag)(mg:Str→Option Value)(CL:Addr)(Y:Ad):Prop where
 b_len:mg "len" =none
 b_list:mg "list" =none
 b_range:mg "range" =none
 b_min:mg "min" =none
 b_max:mg "max" =none
 b_tuple:mg "tuple" =none
 b_sorted:mg "sorted" =none
 b_enumerate:mg "enumerate" =none
 b_zip:mg "zip" =none
 b_isinstance:mg "isinstance" =none
 b_int:mg "int" =none
 b_bool:mg "bool" =none
 b_ValueError:mg "ValueError" =none
 b_reversed:mg "reversed" =none
 mS:∃t,mg "MOST_STRETCHES" =some (.int 5 t)
 mR:∃t,mg "MOST_RUN" =some (.int 20 t)
 mC:∃t,mg "MOST_CLEAR" =some (.int 5 t)
 mT:∃t,mg "MOST_TRAINS" =some (.int 5 t)
 mY:∃t,mg "MOST_READY" =some (.int 60 t)
 gHE:mg "HaltError" =some (.ref Y.HE)
 xST:ExcC K mg "Sticks" Y.ST
 kST:ExcK K Y.ST
 gST:mg "Sticks" =some (.ref Y.ST)
 gBO:mg "BadOrders" =some (.ref Y.BO)
 gTS:mg "TooSoon" =some (.ref Y.TS)
 hs:∀c∈[Y.ST],W.exmOne K (.ref c) (.ref Y.HE)=some true∧ExcK K c
 mgL:mg "Line" =some (.ref CL)
 cl:Cls K CL
 nM:NoAttr K CL "minutes"
 nG:NoAttr K CL "gap"
section
variable{P:Program}{w:World}{K:W.Frag}{mg:Str→Option Value}{base:Heap}{CL:Addr}{Y:Ad}
seal L2.PD L2.lm L2.tm L2.PDW L2.BS L2.PN L2.PZ L2.l9 L2.tu L2.BT L2.ES
noncomputable abbrev iD:Stmt:=top 14
noncomputable abbrev gX:List Str:=["runs","clear","run"]
@[irreducible] noncomputable def eI (K:W.Frag)(CL:Addr)(Y:Ad):DS→Out:=(aC (jO (jJ (ie (kI 1) (c1 (ac 0) bq) (kI 5) tt tt)) bad1 nxt)
  (aC (fQ (sL (ac 0)) (bt 2) (jO (jJ (ie (kI 1) (ac 2) (kI 20) tt tt)) bad1 nxt))
  (jO (jJ (ie (kI 0) (ac 1) (kI 5) tt tt)) bad1 nxt)))
noncomputable def bx (K:W.Frag)(CL:Addr)(Y:Ad):List D→Res D:=iJ 2 gX (eI K CL Y)
theorem sc_check_line:FnScope gX ["runs","clear"] (aj iD):=⟨rfl,rfl,rfl,by decide +kernel,rfl,by decide +kernel,by decide +kernel⟩
theorem hZ (T:Txt K mg CL Y)(S:Sta K mg "check_line" iD ["runs","clear"]):Cal P w K mg base "check_line" 1 ["runs","clear"] (freshSp K 0 (bx K CL Y)):=by
 refine S.cal (k:=0) (r:=0) (F:=eI K CL Y) sc_check_line [] (by decide) rfl fun f cdv A outer s H E hr=>?_;unfold eI;exact(ai (bT (cD (e_ iI iI ag (bv T.b_len (dv 0)) (sA T.mS))) (ao cK) bg)
   (ai (cP (j:=2) PassesOwn.leaving rfl sc_check_line.nd rfl (.inl rfl) rfl (rf (ce (dv 0)))
    (ao (bT (cD (e_ iI iI ag (dv 2) (sA T.mR))) (ao cK) bg)))
   (ao (bT (cD (e_ iI iI ag (dv 1) (sA T.mC))) (ao cK) bg))))
noncomputable abbrev ut:Stmt:=jz (top 13) 0
noncomputable abbrev uu:Stmt:=jz (top 13) 1
noncomputable abbrev qU:Stmt:=jz (top 13) 2
noncomputable def jc (CL:Addr):List D→Res D
 | [d]=>(kz CL "minutes" d).bind fun x=>cE [x]
 |_=>.bad
noncomputable def j5 (CL:Addr):List D→Res D
 | [d]=>kz CL "gap" d
 |_=>.bad
noncomputable def jQ (K:W.Frag)(CL:Addr)(Y:Ad):List D→Res D
 | [.lst l,.int c]=>(bx K CL Y [.lst l,.int c]).bind fun _=>.ok (.ins CL ["minutes","gap"] [.tup l,.int c])
 |_=>.bad
theorem ya:BP CL (jQ K CL Y):=by
 intro ds d h;unfold jQ at h;split at h
 ·rename_i l c;cases q:bx K CL Y [.lst l,.int c] with
  |ok x=>rw[q]at h;cases h;exact⟨_,_,rfl⟩
  |exc x=>rw[q]at h;cases h
  |bad=>rw[q]at h;cases h
 ·cases h
theorem pG {E:XK}{H:Hp}{ds:List D}(h:OkR E H (jQ K CL Y ds)):∃l c,ds=[.lst l,.int c]:=by
 unfold jQ at h;split at h
 ·exact⟨_,_,rfl⟩
 ·exact h.elim
theorem Ac (v u:V):iw "gap" u (iw "minutes" v [])=([("minutes",v),("gap",u)]:List (Str×V)):=by
 show (if ("minutes" :Str)= "gap" then [(("minutes" :Str),u)] else (("minutes" :Str),v)::iw "gap" u [])=([("minutes",v),("gap",u)]:List (Str×V))
 rw[if_neg (by decide +kernel)];rfl
theorem A0:FnScope ["self","runs","clear"] ["self","runs","clear"] (aj ut):=⟨rfl,rfl,rfl,by decide +kernel,rfl,by decide +kernel,by decide +kernel⟩
theorem Au {f:Addr}{fd:FuncData}(F:Fun K "__init__" "Line.__init__" ut f fd)(T:Txt K mg CL Y)(hZ:Cal P w K mg base "check_line" 1 ["runs","clear"] (freshSp K 0 (bx K CL Y))):FnOk P w K mg base (CXF P w) 2 f fd ["self","runs","clear"] (qv K CL (jQ K CL Y)):=by
 refine F.okF A0 (fun vs H Q E h=>?_) (fun cdv A outer s H vs Q E hr h=>?_)
 ·obtain⟨p,dx,rest,ds,G,rfl,_,_,_,rl,ho,_⟩:=h;obtain⟨l,c,rfl⟩:=pG ho;have:=rl.length;simp only[length_cons,length_nil]at this ⊢;omega
 ·obtain⟨p,dx,rest,ds,G,rfl,hp,hs,gp,rl,ho,k⟩:=h;obtain⟨l,c,rfl⟩:=pG ho
  ·obtain⟨v1,r1,rfl,p1,rl⟩:=rl.inv;obtain⟨v2,r2,rfl,p2,rl⟩:=rl.inv;cases rl.inv0;have ho':OkR E H ((bx K CL Y [.lst l,.int c]).bind fun _=>.ok (D.ins CL ["minutes","gap"] [.tup l,.int c])):=ho;refine⟨_,sG (iu (du (E:=E) (aN hZ hr (aa (dv 1) (aa (dv 2) af)))))
    (sG (yK (pv 0) (du (E:=E) (yp T.b_tuple (dv 1))) rfl) (AU (yK (pv 0) (pv 2) rfl))),?_⟩
   have ro:Ro K G (fX ["self","runs","clear"] [.ref p,v1,v2]) [none,some (.lst l),some (.int c)]:=Ro.skip (Ro.cons p1 (Ro.cons p2 Ro.nil));refine⟨G,_,hs,ro,ho'.fst,fun d ed v G1 H1 x1 rp1=>?_⟩;refine⟨G1,_,x1.gh,ro.mono x1.gg,trivial,fun d2 ed2 u G2 H2 x2 rp2=>?_⟩;have ed3:d2= .tup l:=by cases ed2;rfl
   subst ed3;have x:=x1.trans x2;have h2p:H2 p=some (.ins CL dx []):=x.hh _ _ hp;have g2p:G2 p=none:=by
    cases q:G2 p with
    |none=>rfl
    |some o=>
     rcases x.nw p o q with z|z|⟨ks,z⟩
     ·rw[gp]at z;cases z
     ·rw[hp]at z;cases z
     ·have h3:=x.gh p o q;rw[h2p]at h3;cases h3;cases z
   refine⟨_,rfl,p,CL,dx,[],rfl,h2p,T.cl,T.nM,(by show 0<1000;decide),_,rfl,_,rfl,p,CL,dx,_,rfl,aq,T.cl,T.nG,(by show 1<1000;decide),?_⟩;refine k ["minutes","gap"] [.tup l,.int c] ?_ [("minutes",u),("gap",v2)] G2 _ rfl (.cons rp2 (.cons (p2.mono x.gg) .nil)) (by rw[aq,Ac]) (fun b o e hb=>?_) x.gg (fun b o e=>?_) x.nw g2p
   ·show (bx K CL Y [.lst l,.int c]).bind _=_;have:bx K CL Y [.lst l,.int c]= .ok d:=ed;rw[this];rfl
   ·rw[ak hb,ak hb];exact x.hh b o e
   ·have hb:b≠p:=fun z=>by subst z;rw[g2p]at e;cases e
    rw[ak hb,ak hb];exact x.gh b o e
theorem A1:FnScope ["self"] ["self"] (aj uu):=⟨rfl,rfl,rfl,by decide +kernel,rfl,by decide +kernel,by decide +kernel⟩
theorem Aw {f:Addr}{fd:FuncData}(F:Fun K "runs" "Line.runs" uu f fd)(T:Txt K mg CL Y):FnOk P w K mg base (CXF P w) 1 f fd ["self"] (pureSp K (jc CL)):=by
 refine F.pure A1 (fun ds h=>?_) (fun cdv A outer s H E hr=>?_)
 ·unfold jc at h;split at h
  ·rfl
  ·exact absurd rfl h
 ·refine⟨_,vx (yH (lG ia uN rfl T.b_list kh (aa (yj (dv 0) T.cl T.nM) af))),?_⟩;intro ds h
  match ds,h with
  | [d],h=>
   show fG ((((kz CL "minutes" d).bind _).bind _).out _)=(kz CL "minutes" d).bind _;cases kz CL "minutes" d with
   |ok x=>
    show fG ((cE [x]).out Out.rt)=cE [x];cases cE [x] <;> rfl
   |_=>rfl
  | [],h=>exact absurd rfl h
  |_::_::_,h=>exact absurd rfl h
theorem yY:FnScope ["self"] ["self"] (aj qU):=⟨rfl,rfl,rfl,by decide +kernel,rfl,by decide +kernel,by decide +kernel⟩
theorem yg {f:Addr}{fd:FuncData}(F:Fun K "clear" "Line.clear" qU f fd)(T:Txt K mg CL Y):FnOk P w K mg base (CXF P w) 1 f fd ["self"] (pureSp K (j5 CL)):=by
 refine F.pure yY (fun ds h=>?_) (fun cdv A outer s H E hr=>?_)
 ·unfold j5 at h;split at h
  ·rfl
  ·exact absurd rfl h
 ·refine⟨_,vx (yH (yj (dv 0) T.cl T.nG)),?_⟩;intro ds h
  match ds,h with
  | [d],h=>
   show fG ((kz CL "gap" d).out _)=kz CL "gap" d;cases kz CL "gap" d <;> rfl
  | [],h=>exact absurd rfl h
  |_::_::_,h=>exact absurd rfl h
noncomputable abbrev iB:Stmt:=top 35
noncomputable abbrev gU:List Str:=["script","k","many","cell","stir"]
@[irreducible] noncomputable def eC (K:W.Frag)(CL:Addr)(Y:Ad):DS→Out:=(aC (aJ 3 (kI 7))
  (aC (jO (cZ (ae (c1 (ac 0) bq) (kI 0) Dv)) (aJ 3 (ae (ac 0) (ae (ac 1) (c1 (ac 0) bq) qG) aH)) nxt)
  (aC (aJ 4 (ae (ae (ae (ae (ac 3) (kI 48271) fF) (ae (ae (ac 1) (kI 1) aU) (kI 7919) fF) aU) (c1 (ac 0) bq) aU) (kI 2147483647) qG))
  (aC (aJ 4 (ae (ae (ae (ae (ac 4) (ac 4) fF) (ae (ac 1) (kI 16807) fF) aU) (kI 11) aU) (kI 2147483647) qG))
  (bF (ae (ae (ae (ae (ac 4) (kI 48271) fF) (kI 2147483647) qG) (kI 16) uY) (ac 2) qG))))))
noncomputable def aw (K:W.Frag)(CL:Addr)(Y:Ad):List D→Res D:=iJ 3 gU (eC K CL Y)
theorem sc__law_drawn:FnScope gU ["script","k","many"] (aj iB):=⟨rfl,rfl,rfl,by decide +kernel,rfl,by decide +kernel,by decide +kernel⟩
theorem aI (T:Txt K mg CL Y)(S:Sta K mg "_law_drawn" iB ["script","k","many"]):Cal P w K mg base "_law_drawn" 1 ["script","k","many"] (freshSp K 0 (aw K CL Y)):=by
 refine S.cal (k:=0) (r:=0) (F:=eC K CL Y) sc__law_drawn [] (by decide) rfl fun f cdv A outer s H E hr=>?_;unfold eC;exact(ai (aA (i:=3) sc__law_drawn.nd rfl (.inl rfl) (aL (PN.of ag)))
   (ai (bT (aP Bm (bv T.b_len (dv 0)) ag (bc _)) (ao (aA (i:=3) sc__law_drawn.nd rfl (.inl rfl) (aL (PN.of (ay (dv 0) (ax lu (dv 1) (bv T.b_len (dv 0)))))))) bg)
   (ai (aA (i:=4) sc__law_drawn.nd rfl (.inl rfl) (aL (PN.of (ax lu (ax aE (ax aE (ax cy (dv 3) ag) (ax cy (ax aE (dv 1) ag) ag)) (bv T.b_len (dv 0))) ag))))
   (ai (aA (i:=4) sc__law_drawn.nd rfl (.inl rfl) (aL (PN.of (ax lu (ax aE (ax aE (ax cy (dv 4) (dv 4)) (ax cy (dv 1) ag)) ag) ag))))
   (ao (aX (aL (PN.of (ax lu (ax zD (ax lu (ax cy (dv 4) ag) ag) ag) (dv 2))))))))))
noncomputable abbrev iC:Stmt:=top 36
noncomputable abbrev gW:List Str:=["found"]
@[irreducible] noncomputable def eG (K:W.Frag)(CL:Addr)(Y:Ad):DS→Out:=(bF (xi (fun ρ=>((ac 0) ρ).bind (ee K (cV (.ty "int")))) (CT (fun ρ=>((ac 0) ρ).bind (ee K (cV (.ty "bool")))))))
noncomputable def cA (K:W.Frag)(CL:Addr)(Y:Ad):List D→Res D:=iJ 1 gW (eG K CL Y)
theorem oS:FnScope gW ["found"] (aj iC):=⟨rfl,rfl,rfl,by decide +kernel,rfl,by decide +kernel,by decide +kernel⟩
theorem eO (T:Txt K mg CL Y)(S:Sta K mg "_law_whole" iC ["found"]):Cal P w K mg base "_law_whole" 1 ["found"] (freshSp K 0 (cA K CL Y)):=by
 refine S.cal (k:=0) (r:=0) (F:=eG K CL Y) oS [] (by decide) rfl fun f cdv A outer s H E hr=>?_;unfold eG;exact(ao (aX (aL (PN.of (ub (l5 T.b_isinstance (dv 0) (qL rfl T.b_int BX rfl)) (ue (C2 (l5 T.b_isinstance (dv 0) (qL rfl T.b_bool zv rfl)))))))))
noncomputable abbrev dA:Stmt:=top 39
noncomputable abbrev df:List Str:=["script","base","many","runs"]
@[irreducible] noncomputable def da (K:W.Frag)(CL:Addr)(Y:Ad):DS→Out:=(aC (aJ 2 (ae (kI 1) (bf (pC (ac 0) (pC (ac 1) (pC (kI 5) pN))) (aw K CL Y)) aU))
  (aC (aJ 3 (aT (sR1 (pC (ac 2) pN)) [none,some 0,some 1] (bt 0) yes (ae (kI 1) (bf (pC (ac 1) (pC (ae (ae (ac 2) (kI 2) aU) (ac 0) aU) (pC (ae (dM (pC (kI 4) (pC (kI 20) pN))) (bf (pC (ac 1) (pC (ae (ac 2) (kI 1) aU) (pC (kI 2) pN))) (aw K CL Y)) aH) pN))) (aw K CL Y)) aU)))
  (bF (cS (pC (ac 3) (pC (bf (pC (ac 0) (pC (ae (ac 1) (kI 8) aU) (pC (kI 6) pN))) (aw K CL Y)) pN))))))
noncomputable def cr (K:W.Frag)(CL:Addr)(Y:Ad):List D→Res D:=iJ 2 df (da K CL Y)
theorem sc__law_line_by:FnScope df ["script","base"] (aj dA):=⟨rfl,rfl,rfl,by decide +kernel,rfl,by decide +kernel,by decide +kernel⟩
theorem fm (T:Txt K mg CL Y)(S:Sta K mg "_law_line_by" dA ["script","base"])(aI:Cal P w K mg base "_law_drawn" 1 ["script","k","many"] (freshSp K 0 (aw K CL Y))):Cal P w K mg base "_law_line_by" 2 ["script","base"] (freshSp K 0 (cr K CL Y)):=by
 refine S.cal (k:=1) (r:=0) (F:=da K CL Y) sc__law_line_by [] (by decide) rfl fun f cdv A outer s H E hr=>?_;unfold da;exact(ai (aA (i:=2) sc__law_line_by.nd rfl (.inl rfl) (aL (PN.of (ax aE ag (aN aI hr (aa (dv 0) (aa (dv 1) (aa ag af))))))))
   (ai (BH (yJ sc__law_line_by.nd (i:=3) rfl rfl rfl (a7 (N:=["k","script","base"]) (caps:=[none,some 0,some 1]) (aj dA) df rfl rfl (by decide +kernel)) (j:=0) rfl rfl (.inl rfl) (fI rfl T.b_range (aa (dv 2) af)) (fun _ _ _ _=>bP) (fun _ _ _ _=>(PN.of (ax aE ag (aN aI hr (aa (dv 1) (aa (ax aE (ax aE (dv 2) ag) (dv 0)) (aa (ay (iq (aa ag (aa ag af))) (aN aI hr (aa (dv 1) (aa (ax aE (dv 2) ag) (aa ag af))) eh)) af))) eh))))) rfl)
   (ao (aX (aL (PN.of (cx (aa (dv 3) (aa (aN aI hr (aa (dv 0) (aa (ax aE (dv 1) ag) (aa ag af)))) af)))))))))
noncomputable abbrev dQ:Stmt:=top 40
noncomputable abbrev bW:List Str:=["script","base","stretches","most","trains","k","start","goal"]
noncomputable abbrev aZ:List Nat:=[0,0,0,0,1,0,0,0]
@[irreducible] noncomputable def bB (K:W.Frag)(CL:Addr)(Y:Ad):DS→Out:=(aC (aJ 4 (bJ aZ (dM pN)))
  (aC (fQ (sR1 (pC (ae (kI 1) (bf (pC (ac 0) (pC (ac 1) (pC (ac 3) pN))) (aw K CL Y)) aU) pN)) (bt 5) (aC (aJ 6 (bJ aZ (bf (pC (ac 0) (pC (ae (ae (ac 1) (kI 1) aU) (ae (kI 5) (ac 5) fF) aU) (pC (ae (ac 2) (kI 1) aU) pN))) (aw K CL Y))))
  (aC (aJ 7 (bJ aZ (ae (ae (ae (ac 6) (kI 1) aU) (bf (pC (ac 0) (pC (ae (ae (ac 1) (kI 2) aU) (ae (kI 5) (ac 5) fF) aU) (pC (ac 2) pN))) (aw K CL Y)) aU) (ae (ac 2) (kI 1) aU) qG)))
  (aC (jO (cZ (ae (bf (pC (ac 0) (pC (ae (ae (ac 1) (kI 3) aU) (ae (kI 5) (ac 5) fF) aU) (pC (kI 3) pN))) (aw K CL Y)) (kI 1) pf)) (aC (aJ 6 (bJ aZ (ae (bf (pC (ac 0) (pC (ae (ae (ac 1) (kI 4) aU) (ae (kI 5) (ac 5) fF) aU) (pC (kI 2) pN))) (aw K CL Y)) (ac 2) fF)))
  (aJ 7 (bJ aZ (ae (ac 2) (ac 6) qX)))) nxt)
  (kg 4 (bJ aZ (cS (pC (ac 6) (pC (ac 7) (pC (bf (pC (ac 0) (pC (ae (ae (ac 1) (kI 5) aU) (ae (kI 5) (ac 5) fF) aU) (pC (ae (dM (pC (kI 1) (pC (kI 9) (pC (kI 61) pN)))) (bf (pC (ac 0) (pC (ae (ac 1) (kI 40) aU) (pC (kI 3) pN))) (aw K CL Y)) aH) pN))) (aw K CL Y)) pN))))))))))
  (bF (ac 4))))
noncomputable def bD (K:W.Frag)(CL:Addr)(Y:Ad):List D→Res D:=iJ 4 bW (bB K CL Y)
theorem sc__law_trains_by:FnScope bW ["script","base","stretches","most"] (aj dQ):=⟨rfl,rfl,rfl,by decide +kernel,rfl,by decide +kernel,by decide +kernel⟩
theorem dH (T:Txt K mg CL Y)(S:Sta K mg "_law_trains_by" dQ ["script","base","stretches","most"])(aI:Cal P w K mg base "_law_drawn" 1 ["script","k","many"] (freshSp K 0 (aw K CL Y))):Cal P w K mg base "_law_trains_by" 2 ["script","base","stretches","most"] (freshSp K 1 (bD K CL Y)):=by
 refine S.cal (k:=1) (r:=1) (F:=bB K CL Y) sc__law_trains_by aZ (by decide) rfl fun f cdv A outer s H E hr=>?_;unfold bB;exact(ai (aA (i:=4) sc__law_trains_by.nd rfl (.inl rfl) (ar (j7 af)))
   (ai (cP (j:=5) PassesOwn.leaving rfl sc__law_trains_by.nd rfl (.inl rfl) rfl (gP rfl T.b_range (aa (ax aE ag (aN aI hr (aa (dv 0) (aa (dv 1) (aa (dv 3) af))))) af))
    (ai (aA (i:=6) sc__law_trains_by.nd rfl (.inl rfl) (ar (PN.of (aN aI hr (aa (dv 0) (aa (ax aE (ax aE (dv 1) ag) (ax cy ag (dv 5))) (aa (ax aE (dv 2) ag) af)))))))
   (ai (aA (i:=7) sc__law_trains_by.nd rfl (.inl rfl) (ar (PN.of (ax lu (ax aE (ax aE (dv 6) ag) (aN aI hr (aa (dv 0) (aa (ax aE (ax aE (dv 1) ag) (ax cy ag (dv 5))) (aa (dv 2) af))))) (ax aE (dv 2) ag)))))
   (ai (bT (aP (iH hr.units) (aN aI hr (aa (dv 0) (aa (ax aE (ax aE (dv 1) ag) (ax cy ag (dv 5))) (aa ag af)))) ag (bc _)) (ai (aA (i:=6) sc__law_trains_by.nd rfl (.inl rfl) (ar (PN.of (ax cy (aN aI hr (aa (dv 0) (aa (ax aE (ax aE (dv 1) ag) (ax cy ag (dv 5))) (aa ag af)))) (dv 2)))))
   (ao (aA (i:=7) sc__law_trains_by.nd rfl (.inl rfl) (ar (PN.of (ax ng (dv 2) (dv 6))))))) bg)
   (ao (lI (j:=4) (n:=0) rfl rfl (.inl rfl) (ar (PN.of (cx (aa (dv 6) (aa (dv 7) (aa (aN aI hr (aa (dv 0) (aa (ax aE (ax aE (dv 1) ag) (ax cy ag (dv 5))) (aa (ay (iq (aa ag (aa ag (aa ag af)))) (aN aI hr (aa (dv 0) (aa (ax aE (dv 1) ag) (aa ag af))))) af)))) af))))))))))))
   (ao (ir (i:=4) rfl rfl (.inl rfl)))))
noncomputable abbrev fL:Stmt:=top 41
noncomputable abbrev fg:List Str:=["train"]
@[irreducible] noncomputable def gQ (K:W.Frag)(CL:Addr)(Y:Ad):DS→Out:=(aC (jO (cZ (ae (ae (ac 0) (kI 0) aH) (ae (ac 0) (kI 1) aH) CN)) (bF (aT (sR2 (pC (ae (ac 0) (kI 0) aH) (pC (ae (ac 0) (kI 1) aH) pN))) [none] (bt 0) yes (ac 0))) nxt)
  (bF (ae (aT (sR2 (pC (ae (ac 0) (kI 1) aH) (pC (ae (ac 0) (kI 0) aH) pN))) [none] (bt 0) yes (ac 0)) (nG (kI 1)) sM)))
noncomputable def aS (K:W.Frag)(CL:Addr)(Y:Ad):List D→Res D:=iJ 1 fg (gQ K CL Y)
theorem sR:FnScope fg ["train"] (aj fL):=⟨rfl,rfl,rfl,by decide +kernel,rfl,by decide +kernel,by decide +kernel⟩
theorem bE (T:Txt K mg CL Y)(S:Sta K mg "_law_way" fL ["train"]):Cal P w K mg base "_law_way" 1 ["train"] (freshSp K 0 (aS K CL Y)):=by
 refine S.cal (k:=0) (r:=0) (F:=gQ K CL Y) sR [] (by decide) rfl fun f cdv A outer s H E hr=>?_;unfold gQ;exact(ai (bT (aP rK (ay (dv 0) ag) (ay (dv 0) ag) (bc _)) (ao (aX (aL (PN.of (PN.pd (bI (j:=0) rfl (a7 (N:=["k"]) (caps:=[none]) (aj fL) fg rfl rfl (by decide +kernel)) rfl rfl (.inl rfl) (nW rfl T.b_range (aa (ay (dv 0) ag) (aa (ay (dv 0) ag) af))) (fun _ _ _ _=>bP) (fun _ _ _ _=>(PN.of (dv 0))))))))) bg)
   (ao (aX (aL (PN.of (PN.pd (Dg (PN.pd (bI (j:=0) rfl (a7 (N:=["k"]) (caps:=[none]) (aj fL) fg rfl rfl (by decide +kernel)) rfl rfl (.inl rfl) (nW rfl T.b_range (aa (ay (dv 0) ag) (aa (ay (dv 0) ag) af))) (fun _ _ _ _=>bP) (fun _ _ _ _=>(PN.of (dv 0))))) (qJ ag))))))))
noncomputable abbrev eY:Stmt:=top 42
noncomputable abbrev eN:List Str:=["stretches","trains"]
@[irreducible] noncomputable def eE (K:W.Frag)(CL:Addr)(Y:Ad):DS→Out:=(bF (aT (sR1 (pC (ac 0) pN)) [none,some 1] (bt 0) yes (aT (sR1 (pC (c1 (ac 1) bq) pN)) [none,some 0,some 1] (bt 0) (cZ (ae (ac 1) (bf (pC (ae (ac 2) (ac 0) aH) pN) (aS K CL Y)) (lh false))) (ac 0))))
noncomputable def b8 (K:W.Frag)(CL:Addr)(Y:Ad):List D→Res D:=iJ 2 eN (eE K CL Y)
theorem oR:FnScope eN ["stretches","trains"] (aj eY):=⟨rfl,rfl,rfl,by decide +kernel,rfl,by decide +kernel,by decide +kernel⟩
theorem hX (T:Txt K mg CL Y)(S:Sta K mg "_law_users" eY ["stretches","trains"])(bE:Cal P w K mg base "_law_way" 1 ["train"] (freshSp K 0 (aS K CL Y))):Cal P w K mg base "_law_users" 2 ["stretches","trains"] (freshSp K 0 (b8 K CL Y)):=by
 refine S.cal (k:=1) (r:=0) (F:=eE K CL Y) oR [] (by decide) rfl fun f cdv A outer s H E hr=>?_;unfold eE;exact(ao (aX (aL (PN.of (PN.pd (bI (j:=0) rfl (a7 (N:=["stretch","trains"]) (caps:=[none,some 1]) (aj eY) eN rfl rfl (by decide +kernel)) rfl rfl (.inr rfl) (fI rfl T.b_range (aa (dv 0) af)) (fun _ _ _ _=>bP) (fun _ _ _ _=>(PN.of (PN.pd (bI (j:=0) rfl (rF (N:=["k","stretch","trains"]) (caps:=[none,some 0,some 1]) (by decide +kernel)) rfl rfl (.inl rfl) (fI rfl T.b_range (aa (bv T.b_len (dv 1)) af)) (fun _ _ _ _=>en (aP (xt hr.units) (dv 1) (aN bE hr (aa (ay (dv 2) (dv 0)) af) eh) (by rfl))) (fun _ _ _ _=>(PN.of (dv 0)))))))))))))
noncomputable abbrev bi:Stmt:=top 43
noncomputable abbrev ba:List Str:=["script","base","runs","gap","trains","mode","orders","stretch","left","row","ranks"]
noncomputable abbrev aG:List Nat:=[0,0,0,0,0,0,2,0,1,1,0]
@[irreducible] noncomputable def bV (K:W.Frag)(CL:Addr)(Y:Ad):DS→Out:=(aC (aJ 5 (bJ aG (bf (pC (ac 0) (pC (ac 1) (pC (kI 3) pN))) (aw K CL Y))))
  (aC (jO (cZ (ae (ac 5) (kI 0) pf)) (aC (aJ 6 (bJ aG (dM pN)))
  (aC (fQ (sR1 (pC (c1 (ac 2) bq) pN)) (bt 7) (aC (aJ 8 (bJ aG (bf (Dx (ae (bf (pC (c1 (ac 2) bq) (pC (ac 4) pN)) (b8 K CL Y)) (ac 7) aH)) cE)))
  (aC (aJ 9 (bJ aG (dM pN)))
  (aC (bL (cZ (ae (c1 (ac 8) bq) (kI 0) Dv)) (hG 9 8 (bf (pC (ac 0) (pC (ae (ae (ae (ac 1) (kI 1) aU) (ae (kI 6) (ac 7) fF) aU) (c1 (ac 9) bq) aU) (pC (c1 (ac 8) bq) pN))) (aw K CL Y))) 6)
  (mQ 6 9)))))
  (bF (ac 6)))) nxt)
  (aC (aJ 10 (bJ aG (aT (sE (pC (ac 4) pN)) [none,none,some 5] (hJ 0 1) yes (cS (pC (ae (ae (ac 1) (kI 2) aH) (ae (ac 2) (kI 1) qX) fF) (pC (ac 0) pN))))))
  (aC (aJ 10 (bJ aG (aT (sR1 (pC (c1 (ac 4) bq) pN)) [none,some 0,some 10,some 1] (bt 0) yes (cS (pC (ae (ae (ae (ac 2) (ac 0) aH) (kI 0) aH) (bf (pC (ac 1) (pC (ae (ae (ac 3) (kI 40) aU) (ac 0) aU) (pC (kI 9) pN))) (aw K CL Y)) aU) (pC (ac 0) pN))))))
  (aC (aJ 9 (bJ aG (aT (sL (c1 (ac 10) iG)) [none] (bt 0) yes (ae (ac 0) (kI 1) aH))))
  (bF (si 2 (aT (sR1 (pC (c1 (ac 2) bq) pN)) [none,some 9,some 4] (bt 0) yes (aT (sL (ac 1)) [none,some 0,some 2] (bt 0) (cZ (ae (ac 1) (bf (pC (ae (ac 2) (ac 0) aH) pN) (aS K CL Y)) (lh false))) (ac 0))))))))))
noncomputable def bb (K:W.Frag)(CL:Addr)(Y:Ad):List D→Res D:=iJ 5 ba (bV K CL Y)
theorem sc__law_orders_by:FnScope ba ["script","base","runs","gap","trains"] (aj bi):=⟨rfl,rfl,rfl,by decide +kernel,rfl,by decide +kernel,by decide +kernel⟩
theorem dG (T:Txt K mg CL Y)(S:Sta K mg "_law_orders_by" bi ["script","base","runs","gap","trains"])(aI:Cal P w K mg base "_law_drawn" 1 ["script","k","many"] (freshSp K 0 (aw K CL Y)))(hX:Cal P w K mg base "_law_users" 2 ["stretches","trains"] (freshSp K 0 (b8 K CL Y)))(bE:Cal P w K mg base "_law_way" 1 ["train"] (freshSp K 0 (aS K CL Y))):Cal P w K mg base "_law_orders_by" 3 ["script","base","runs","gap","trains"] (freshSp K 2 (bb K CL Y)):=by
 refine S.cal (k:=2) (r:=2) (F:=bV K CL Y) sc__law_orders_by aG (by decide) rfl fun f cdv A outer s H E hr=>?_;unfold bV;exact(ai (aA (i:=5) sc__law_orders_by.nd rfl (.inr rfl) (ar (PN.of (aN aI hr (aa (dv 0) (aa (dv 1) (aa ag af)))))))
   (ai (bT (aP (iH hr.units) (dv 5) ag (bc _)) (ai (aA (i:=6) sc__law_orders_by.nd rfl (.inl rfl) (ar (AM vw)))
   (ai (cP (j:=7) PassesOwn.leaving rfl sc__law_orders_by.nd rfl (.inl rfl) rfl (gP rfl T.b_range (aa (bv T.b_len (dv 2)) af))
    (ai (aA (i:=8) sc__law_orders_by.nd rfl (.inl rfl) (ar (AN (ay (aN hX hr (aa (bv T.b_len (dv 2)) (aa (dv 4) af))) (dv 7)) rfl T.b_list)))
   (ai (aA (i:=9) sc__law_orders_by.nd rfl (.inr rfl) (ar (j7 af)))
   (ai (kX 6 PassesOwn.leaving (aP Bm (bv T.b_len (dv 8)) ag (bc _)) (ao (wE (j:=9) (i:=8) (by decide) rfl rfl rfl rfl (.inr (.inl rfl)) (.inl rfl) (aN aI hr (aa (dv 0) (aa (ax aE (ax aE (ax aE (dv 1) ag) (ax cy ag (dv 7))) (bv T.b_len (dv 9))) (aa (bv T.b_len (dv 8)) af)))))))
   (ao (yz (n:=1) (j:=6) (i:=9) (by decide) rfl rfl rfl rfl (.inl rfl) (.inr (.inl rfl))))))))
   (ao (ir (i:=6) rfl rfl (.inl rfl))))) bg)
   (ai (aA (i:=10) sc__law_orders_by.nd rfl (.inr rfl) (ar (PN.of (PN.pd (sC (j:=0) (l:=1) rfl (a7 (N:=["k","train","mode"]) (caps:=[none,none,some 5]) (aj bi) ba rfl rfl (by decide +kernel)) rfl rfl rfl rfl (.inl rfl) (.inl rfl) (gN rfl T.b_enumerate (aa (dv 4) af)) (fun _ _ _ _=>bP) (fun _ _ _ _=>(PN.of (cx (aa (ax cy (ay (dv 1) ag) (ax ng (dv 2) ag)) (aa (dv 0) af))))))))))
   (ai (aA (i:=10) sc__law_orders_by.nd rfl (.inr rfl) (ar (PN.of (PN.pd (bI (j:=0) rfl (a7 (N:=["k","script","ranks","base"]) (caps:=[none,some 0,some 10,some 1]) (aj bi) ba rfl rfl (by decide +kernel)) rfl rfl (.inl rfl) (fI rfl T.b_range (aa (bv T.b_len (dv 4)) af)) (fun _ _ _ _=>bP) (fun _ _ _ _=>(PN.of (cx (aa (ax aE (ay (ay (dv 2) (dv 0)) ag) (aN aI hr (aa (dv 1) (aa (ax aE (ax aE (dv 3) ag) (dv 0)) (aa ag af))) eh)) (aa (dv 0) af))))))))))
   (ai (aA (i:=9) sc__law_orders_by.nd rfl (.inr rfl) (ar (bI (j:=0) rfl (a7 (N:=["pair"]) (caps:=[none]) (aj bi) ba rfl rfl (by decide +kernel)) rfl rfl (.inl rfl) (ce (PN.pd (yF T.b_sorted (dv 10)))) (fun _ _ _ _=>bP) (fun _ _ _ _=>(PN.of (ay (dv 0) ag))))))
   (ao (aX (jF (bI (j:=0) rfl (a7 (N:=["stretch","row","trains"]) (caps:=[none,some 9,some 4]) (aj bi) ba rfl rfl (by decide +kernel)) rfl rfl (.inr rfl) (fI rfl T.b_range (aa (bv T.b_len (dv 2)) af)) (fun _ _ _ _=>bP) (fun _ _ _ _=>(bI (j:=0) rfl (rF (N:=["k","stretch","trains"]) (caps:=[none,some 0,some 2]) (by decide +kernel)) rfl rfl (.inl rfl) (ce (dv 1)) (fun _ _ _ _=>en (aP (xt hr.units) (dv 1) (aN bE hr (aa (ay (dv 2) (dv 0)) af) eh) (by rfl))) (fun _ _ _ _=>(PN.of (dv 0))))))))))))))
noncomputable abbrev gu:Stmt:=top 16
noncomputable abbrev f7:List Str:=["line","train","last_halt","halt","ready"]
@[irreducible] noncomputable def dS (K:W.Frag)(CL:Addr)(Y:Ad):DS→Out:=(aC (jO (cZ (ae (c1 (ac 1) bq) (kI 3) qH)) bad1 nxt)
  (aC (aJ 2 (c1 (kM CL "runs" (ac 0) (jc CL)) bq))
  (aC (fQ (sT (zl (ac 1) oN (oI (kI 2)))) (bt 3) (jO (jJ (ie (kI 0) (ac 3) (ac 2) tt tt)) bad1 nxt))
  (aC (jO (cZ (ae (ae (ac 1) (kI 0) aH) (ae (ac 1) (kI 1) aH) pf)) bad1 nxt)
  (aC (aJ 4 (ae (ac 1) (kI 2) aH))
  (jO (jJ (ie (kI 0) (ac 4) (kI 60) tt tt)) bad1 nxt))))))
noncomputable def cf (K:W.Frag)(CL:Addr)(Y:Ad):List D→Res D:=iJ 2 f7 (dS K CL Y)
theorem sc_check_train:FnScope f7 ["line","train"] (aj gu):=⟨rfl,rfl,rfl,by decide +kernel,rfl,by decide +kernel,by decide +kernel⟩
theorem f_ (T:Txt K mg CL Y)(S:Sta K mg "check_train" gu ["line","train"])(c_runs:CalM P w K mg base CL "runs" 1 (jc CL)):Cal P w K mg base "check_train" 2 ["line","train"] (freshSp K 0 (cf K CL Y)):=by
 refine S.cal (k:=1) (r:=0) (F:=dS K CL Y) sc_check_train [] (by decide) rfl fun f cdv A outer s H E hr=>?_;unfold dS;exact(ai (bT (aP (jN hr.units) (bv T.b_len (dv 1)) ag (bc _)) (ao cK) bg)
   (ai (aA (i:=2) sc_check_train.nd rfl (.inl rfl) (aL (PN.of (bv T.b_len (vj c_runs hr (dv 0))))))
   (ai (cP (j:=3) PassesOwn.leaving rfl sc_check_train.nd rfl (.inl rfl) rfl (rf (AD (nR (dv 1) kR (kT ag))))
    (ao (bT (cD (e_ iI iI ag (dv 3) (dv 2))) (ao cK) bg)))
   (ai (bT (aP (iH hr.units) (ay (dv 1) ag) (ay (dv 1) ag) (bc _)) (ao cK) bg)
   (ai (aA (i:=4) sc_check_train.nd rfl (.inl rfl) (aL (PN.of (ay (dv 1) ag))))
   (ao (bT (cD (e_ iI iI ag (dv 4) (sA T.mY))) (ao cK) bg)))))))
noncomputable abbrev yX:Stmt:=top 15
noncomputable abbrev w_:List Str:=["line","train","start","end"]
@[irreducible] noncomputable def uH (K:W.Frag)(CL:Addr)(Y:Ad):DS→Out:=(aC (uX (bf (pC (ac 0) (pC (ac 1) pN)) (cf K CL Y)))
  (aC (aJ 2 (ae (ac 1) (kI 0) aH))
  (aC (aJ 3 (ae (ac 1) (kI 1) aH))
  (aC (jO (cZ (ae (ac 2) (ac 3) CN)) (bF (bf (pC (ac 2) (pC (ac 3) pN)) pE)) nxt)
  (bF (bf (pC (ae (ac 2) (kI 1) qX) (pC (ae (ac 3) (kI 1) qX) (pC (nG (kI 1)) pN))) pF))))))
noncomputable def sj (K:W.Frag)(CL:Addr)(Y:Ad):List D→Res D:=iJ 2 w_ (uH K CL Y)
theorem sc_way:FnScope w_ ["line","train"] (aj yX):=⟨rfl,rfl,rfl,by decide +kernel,rfl,by decide +kernel,by decide +kernel⟩
theorem xo (T:Txt K mg CL Y)(S:Sta K mg "way" yX ["line","train"])(f_:Cal P w K mg base "check_train" 2 ["line","train"] (freshSp K 0 (cf K CL Y))):Cal P w K mg base "way" 3 ["line","train"] (freshSp K 0 (sj K CL Y)):=by
 refine S.cal (k:=2) (r:=0) (F:=uH K CL Y) sc_way [] (by decide) rfl fun f cdv A outer s H E hr=>?_;unfold uH;exact(ai (vv (aN f_ hr (aa (dv 0) (aa (dv 1) af))))
   (ai (aA (i:=2) sc_way.nd rfl (.inl rfl) (aL (PN.of (ay (dv 1) ag))))
   (ai (aA (i:=3) sc_way.nd rfl (.inl rfl) (aL (PN.of (ay (dv 1) ag))))
   (ai (bT (aP rK (dv 2) (dv 3) (bc _)) (ao (aX (aL (PN.of (uc rfl rfl T.b_list rfl T.b_range (aa (dv 2) (aa (dv 3) af))))))) bg)
   (ao (aX (aL (PN.of (ud rfl rfl T.b_list rfl T.b_range (aa (ax ng (dv 2) ag) (aa (ax ng (dv 3) ag) (aa (qJ ag) af))))))))))))
noncomputable abbrev qV:Stmt:=top 17
noncomputable abbrev pX:List Str:=["line","trains"]
@[irreducible] noncomputable def pW (K:W.Frag)(CL:Addr)(Y:Ad):DS→Out:=(aC (jO (jJ (ie (kI 1) (c1 (ac 1) bq) (kI 5) tt tt)) bad1 nxt)
  (bF (aT (sL (ac 1)) [none,some 0] (bt 0) yes (bf (pC (ac 1) (pC (ac 0) pN)) (sj K CL Y)))))
noncomputable def gk (K:W.Frag)(CL:Addr)(Y:Ad):List D→Res D:=iJ 2 pX (pW K CL Y)
theorem A3:FnScope pX ["line","trains"] (aj qV):=⟨rfl,rfl,rfl,by decide +kernel,rfl,by decide +kernel,by decide +kernel⟩
theorem mX (T:Txt K mg CL Y)(S:Sta K mg "ways" qV ["line","trains"])(xo:Cal P w K mg base "way" 3 ["line","train"] (freshSp K 0 (sj K CL Y))):Cal P w K mg base "ways" 4 ["line","trains"] (freshSp K 0 (gk K CL Y)):=by
 refine S.cal (k:=3) (r:=0) (F:=pW K CL Y) A3 [] (by decide) rfl fun f cdv A outer s H E hr=>?_;unfold pW;exact(ai (bT (cD (e_ iI iI ag (bv T.b_len (dv 1)) (sA T.mT))) (ao cK) bg)
   (ao (aX (aL (PN.of (PN.pd (bI (j:=0) rfl (a7 (N:=["train","line"]) (caps:=[none,some 0]) (aj qV) pX rfl rfl (by decide +kernel)) rfl rfl (.inl rfl) (ce (dv 1)) (fun _ _ _ _=>bP) (fun _ _ _ _=>(PN.of (aN xo hr (aa (dv 1) (aa (dv 0) af)) eh))))))))))
noncomputable abbrev dB:Stmt:=top 20
noncomputable abbrev dg:List Str:=["stretches","paths","orders","stretch","order","going"]
@[irreducible] noncomputable def dc (K:W.Frag)(CL:Addr)(Y:Ad):DS→Out:=(aC (jO (cZ (ae (c1 (ac 2) bq) (ac 0) qH)) bad1 nxt)
  (fQ (sE (pC (ac 2) pN)) (hJ 3 4) (aC (aJ 5 (aT (sE (pC (ac 1) pN)) [none,none,some 3] (hJ 0 1) (cZ (ae (ac 2) (ac 1) (lh false))) (ac 0)))
  (jO (cZ (ae (c1 (ac 4) lM) (ac 5) qH)) bad1 nxt))))
noncomputable def bX (K:W.Frag)(CL:Addr)(Y:Ad):List D→Res D:=iJ 3 dg (dc K CL Y)
theorem sc_check_orders:FnScope dg ["stretches","paths","orders"] (aj dB):=⟨rfl,rfl,rfl,by decide +kernel,rfl,by decide +kernel,by decide +kernel⟩
theorem fq (T:Txt K mg CL Y)(S:Sta K mg "check_orders" dB ["stretches","paths","orders"]):Cal P w K mg base "check_orders" 1 ["stretches","paths","orders"] (freshSp K 0 (bX K CL Y)):=by
 refine S.cal (k:=0) (r:=0) (F:=dc K CL Y) sc_check_orders [] (by decide) rfl fun f cdv A outer s H E hr=>?_;unfold dc;exact(ai (bT (aP (jN hr.units) (bv T.b_len (dv 2)) (dv 0) (bc _)) (ao cK) bg)
   (ao (kW (j:=3) (k:=4) PassesOwn.leaving rfl sc_check_orders.nd rfl rfl (.inr rfl) (.inl rfl) rfl rfl (rf (gN rfl T.b_enumerate (aa (dv 2) af)))
    (ai (BH (yI sc_check_orders.nd (i:=5) rfl rfl rfl (a7 (N:=["train","path","stretch"]) (caps:=[none,none,some 3]) (aj dB) dg rfl rfl (by decide +kernel)) (j:=0) (l:=1) rfl rfl rfl rfl (.inl rfl) (.inl rfl) (gN rfl T.b_enumerate (aa (dv 1) af)) (fun _ _ _ _=>en (aP (xt hr.units) (dv 2) (dv 1) (by rfl))) (fun _ _ _ _=>(PN.of (dv 0)))) rfl)
   (ao (bT (aP (jN hr.units) (yE T.b_sorted (dv 4)) (dv 5) (bc _)) (ao cK) bg))))))
noncomputable abbrev j8:Stmt:=top 19
noncomputable abbrev jT:List Str:=["line","paths","orders","runs","gap","waits","train","path","stretch","ahead","behind","order"]
noncomputable abbrev bd:List Nat:=[0,0,0,0,0,2,0,0,0,0,0,0]
@[irreducible] noncomputable def gS (K:W.Frag)(CL:Addr)(Y:Ad):DS→Out:=(aC (aJ 3 (bJ bd (kM CL "runs" (ac 0) (jc CL))))
  (aC (aJ 4 (bJ bd (kM CL "clear" (ac 0) (j5 CL))))
  (aC (uX (bf (pC (c1 (ac 3) bq) (pC (ac 1) (pC (ac 2) pN))) (bX K CL Y)))
  (aC (aJ 5 (bJ bd (fun _=>Res.ok (.dct [] []))))
  (aC (fQ (zk bd (sE (pC (ac 1) pN))) (hJ 6 7) (aC (fQ (zk bd (sL (ac 7))) (bt 8) (iY 5 (cS (pC (ac 6) (pC (ac 8) pN))) (bJ bd (dM pN))))
  (fQ (zk bd (sZ (pC (ac 7) (pC (zl (ac 7) (oI (kI 1)) oN) pN)))) (hJ 9 10) (mU 5 1 (zt 5 0 (tE 5) (cS (pC (ac 6) (pC (ac 10) pN)))) (bJ bd (cS (pC (cS (pC (ac 6) (pC (ac 9) pN))) (pC (ae (ac 3) (ac 9) aH) pN))))))))
  (aC (fQ (zk bd (sE (pC (ac 2) pN))) (hJ 8 11) (fQ (zk bd (sZ (pC (ac 11) (pC (zl (ac 11) (oI (kI 1)) oN) pN)))) (hJ 9 10) (mU 5 1 (zt 5 0 (tE 5) (cS (pC (ac 10) (pC (ac 8) pN)))) (bJ bd (cS (pC (cS (pC (ac 9) (pC (ac 8) pN))) (pC (ae (ae (ac 3) (ac 8) aH) (ac 4) aU) pN)))))))
  (bF (ac 5))))))))
noncomputable def cv (K:W.Frag)(CL:Addr)(Y:Ad):List D→Res D:=iJ 3 jT (gS K CL Y)
theorem sc_waits_of:FnScope jT ["line","paths","orders"] (aj j8):=⟨rfl,rfl,rfl,by decide +kernel,rfl,by decide +kernel,by decide +kernel⟩
theorem fu (T:Txt K mg CL Y)(S:Sta K mg "waits_of" j8 ["line","paths","orders"])(fq:Cal P w K mg base "check_orders" 1 ["stretches","paths","orders"] (freshSp K 0 (bX K CL Y)))(c_runs:CalM P w K mg base CL "runs" 1 (jc CL))(c_clear:CalM P w K mg base CL "clear" 1 (j5 CL)):Cal P w K mg base "waits_of" 2 ["line","paths","orders"] (freshSp K 2 (cv K CL Y)):=by
 refine S.cal (k:=1) (r:=2) (F:=gS K CL Y) sc_waits_of bd (by decide) rfl fun f cdv A outer s H E hr=>?_;unfold gS;exact(ai (aA (i:=3) sc_waits_of.nd rfl (.inl rfl) (ar (PN.of (vj c_runs hr (dv 0)))))
   (ai (aA (i:=4) sc_waits_of.nd rfl (.inl rfl) (ar (PN.of (vj c_clear hr (dv 0)))))
   (ai (vv (aN fq hr (aa (bv T.b_len (dv 3)) (aa (dv 1) (aa (dv 2) af)))))
   (ai (aA (i:=5) sc_waits_of.nd rfl (.inl rfl) (ar mD))
   (ai (kW (j:=6) (k:=7) PassesOwn.leaving rfl sc_waits_of.nd rfl rfl (.inl rfl) (.inl rfl) rfl rfl (fZ (gN rfl T.b_enumerate (aa (dv 1) af)))
    (ai (cP (j:=8) PassesOwn.leaving rfl sc_waits_of.nd rfl (.inl rfl) rfl (fZ (ce (dv 7)))
    (ao (mB (j:=5) (n:=1) hr.units rfl rfl (.inl rfl) (cx (aa (dv 6) (aa (dv 8) af))) (ar (j7 af)))))
   (ao (kW (j:=9) (k:=10) PassesOwn.leaving rfl sc_waits_of.nd rfl rfl (.inl rfl) (.inl rfl) rfl rfl (fZ (vq rfl T.b_zip (aa (dv 7) (aa (nR (dv 7) (kT ag) kR) af))))
    (ao (qO (n:=1) (m:=0) rfl (Bk (n:=0) (m:=1) hr.units rfl (qb (j:=5) rfl (.inl rfl)) (cx (aa (dv 6) (aa (dv 10) af)))) (ar (PN.of (cx (aa (cx (aa (dv 6) (aa (dv 9) af))) (aa (ay (dv 3) (dv 9)) af))))) (va (nP (gL (nP (gL ci (gL ci pJ))) (gL (nO ci ci lA) pJ))))))))))
   (ai (kW (j:=8) (k:=11) PassesOwn.leaving rfl sc_waits_of.nd rfl rfl (.inl rfl) (.inl rfl) rfl rfl (fZ (gN rfl T.b_enumerate (aa (dv 2) af)))
    (ao (kW (j:=9) (k:=10) PassesOwn.leaving rfl sc_waits_of.nd rfl rfl (.inl rfl) (.inl rfl) rfl rfl (fZ (vq rfl T.b_zip (aa (dv 11) (aa (nR (dv 11) (kT ag) kR) af))))
    (ao (qO (n:=1) (m:=0) rfl (Bk (n:=0) (m:=1) hr.units rfl (qb (j:=5) rfl (.inl rfl)) (cx (aa (dv 10) (aa (dv 8) af)))) (ar (PN.of (cx (aa (cx (aa (dv 9) (aa (dv 8) af))) (aa (ax aE (ay (dv 3) (dv 8)) (dv 4)) af))))) (va (nP (gL (nP (gL ci (gL ci pJ))) (gL (nO (nO ci ci lA) ci zp) pJ)))))))))
   (ao (ir (i:=5) rfl rfl (.inl rfl)))))))))
noncomputable abbrev jG:Stmt:=top 23
noncomputable abbrev js:List Str:=["waits","turn","visit"]
@[irreducible] noncomputable def jo (K:W.Frag)(CL:Addr)(Y:Ad):DS→Out:=(bF (aT (sL (ae (ac 0) (ac 2) aQ)) [none,some 1] (bt 0) (cZ (ae (ae (ac 0) (kI 0) aH) (ac 1) (lh true))) (ae (ac 0) (kI 0) aH)))
noncomputable def cB (K:W.Frag)(CL:Addr)(Y:Ad):List D→Res D:=iJ 3 js (jo K CL Y)
theorem uv:FnScope js ["waits","turn","visit"] (aj jG):=⟨rfl,rfl,rfl,by decide +kernel,rfl,by decide +kernel,by decide +kernel⟩
theorem gC (T:Txt K mg CL Y)(S:Sta K mg "held_by" jG ["waits","turn","visit"]):Cal P w K mg base "held_by" 1 ["waits","turn","visit"] (freshSp K 1 (cB K CL Y)):=by
 refine S.cal (k:=0) (r:=1) (F:=jo K CL Y) uv [] (by decide) rfl fun f cdv A outer s H E hr=>?_;unfold jo;exact(ao (aX (aL (bI (j:=0) rfl (a7 (N:=["wait","turn"]) (caps:=[none,some 1]) (aj jG) js rfl rfl (by decide +kernel)) rfl rfl (.inl rfl) (ce (cb hr.units (dv 0) (dv 2))) (fun _ _ _ _=>en (aP (kl hr.units) (ay (dv 0) ag) (dv 1) (by rfl))) (fun _ _ _ _=>(PN.of (ay (dv 0) ag)))))))
noncomputable abbrev mH:Stmt:=top 22
noncomputable abbrev mi:List Str:=["waits","turn"]
@[irreducible] noncomputable def mf (K:W.Frag)(CL:Addr)(Y:Ad):DS→Out:=(bF (aT (sD (ac 0)) [none,some 1,some 0] (bt 0) (zq (cZ (ae (ac 0) (ac 1) (lh true))) (jJ (tR (bf (pC (ac 2) (pC (ac 1) (pC (ac 0) pN))) (cB K CL Y))))) (ac 0)))
noncomputable def fU (K:W.Frag)(CL:Addr)(Y:Ad):List D→Res D:=iJ 2 mi (mf K CL Y)
theorem yZ:FnScope mi ["waits","turn"] (aj mH):=⟨rfl,rfl,rfl,by decide +kernel,rfl,by decide +kernel,by decide +kernel⟩
theorem ml (T:Txt K mg CL Y)(S:Sta K mg "freed" mH ["waits","turn"])(gC:Cal P w K mg base "held_by" 1 ["waits","turn","visit"] (freshSp K 1 (cB K CL Y))):Cal P w K mg base "freed" 2 ["waits","turn"] (freshSp K 1 (fU K CL Y)):=by
 refine S.cal (k:=1) (r:=1) (F:=mf K CL Y) yZ [] (by decide) rfl fun f cdv A outer s H E hr=>?_;unfold mf;exact(ao (aX (aL (bI (j:=0) rfl (a7 (N:=["visit","turn","waits"]) (caps:=[none,some 1,some 0]) (aj mH) mi rfl rfl (by decide +kernel)) rfl rfl (.inl rfl) (jf (dv 0)) (fun _ _ _ _=>en (PDW.pt (AA (aP (kl hr.units) (dv 0) (dv 1) (by rfl)) (yq (cD (qK (aN gC hr (aa (dv 2) (aa (dv 1) (aa (dv 0) af))) eh))))))) (fun _ _ _ _=>(PN.of (dv 0)))))))
noncomputable abbrev lK:Stmt:=top 21
noncomputable abbrev li:List Str:=["waits","turn","free"]
noncomputable abbrev fD:List Nat:=[0,1,0]
@[irreducible] noncomputable def jq (K:W.Frag)(CL:Addr)(Y:Ad):DS→Out:=(aC (aJ 1 (bJ fD (dM pN)))
  (aC (aJ 2 (si 1 (bf (pC (ac 0) (pC (ac 1) pN)) (fU K CL Y))))
  (aC (bL (tR (ac 2)) (aC (qn 1 0 (tE 1) (bJ fD (ac 2)))
  (aJ 2 (si 1 (bf (pC (ac 0) (pC (ac 1) pN)) (fU K CL Y))))) 40)
  (bF (ac 1)))))
noncomputable def cT (K:W.Frag)(CL:Addr)(Y:Ad):List D→Res D:=iJ 1 li (jq K CL Y)
theorem sc_in_turn:FnScope li ["waits"] (aj lK):=⟨rfl,rfl,rfl,by decide +kernel,rfl,by decide +kernel,by decide +kernel⟩
theorem gE (T:Txt K mg CL Y)(S:Sta K mg "in_turn" lK ["waits"])(ml:Cal P w K mg base "freed" 2 ["waits","turn"] (freshSp K 1 (fU K CL Y))):Cal P w K mg base "in_turn" 3 ["waits"] (freshSp K 1 (cT K CL Y)):=by
 refine S.cal (k:=2) (r:=1) (F:=jq K CL Y) sc_in_turn fD (by decide) rfl fun f cdv A outer s H E hr=>?_;unfold jq;exact(ai (aA (i:=1) sc_in_turn.nd rfl (.inl rfl) (ar (j7 af)))
   (ai (aA (i:=2) sc_in_turn.nd rfl (.inl rfl) (PZ.zero (jF (jg (n:=1) ml hr (aa (dv 0) (aa (dv 1) af))))))
   (ai (kX 40 PassesOwn.leaving (qK (dv 2)) (ai (AJ (n:=0) rfl (qb (j:=1) rfl (.inl rfl)) (ar (PN.of (dv 2))) (va ci))
   (ao (aA (i:=2) sc_in_turn.nd rfl (.inl rfl) (PZ.zero (jF (jg (n:=1) ml hr (aa (dv 0) (aa (dv 1) af)))))))))
   (ao (ir (i:=1) rfl rfl (.inl rfl))))))
noncomputable abbrev jH:Stmt:=top 24
noncomputable abbrev lj:List Str:=["waits","turn","visit","walked"]
noncomputable abbrev b9:List Nat:=[0,0,0,1]
@[irreducible] noncomputable def gA (K:W.Frag)(CL:Addr)(Y:Ad):DS→Out:=(aC (aJ 2 (bJ b9 (ae (aT (sD (ac 0)) [none,some 1] (bt 0) (cZ (ae (ac 0) (ac 1) (lh true))) (ac 0)) (kI 0) aH)))
  (aC (aJ 3 (bJ b9 (dM pN)))
  (aC (bL (cZ (ae (ac 2) (ac 3) (lh true))) (aC (kg 3 (bJ b9 (ac 2)))
  (aJ 2 (bJ b9 (ae (bf (pC (ac 0) (pC (ac 1) (pC (ac 2) pN))) (cB K CL Y)) (kI 0) aH)))) 41)
  (bF (si 1 (Ff (ac 3) (oI (ae (ac 3) (ac 2) fR)) oN))))))
noncomputable def gJ (K:W.Frag)(CL:Addr)(Y:Ad):List D→Res D:=iJ 2 lj (gA K CL Y)
theorem sc_ring_of:FnScope lj ["waits","turn"] (aj jH):=⟨rfl,rfl,rfl,by decide +kernel,rfl,by decide +kernel,by decide +kernel⟩
theorem lq (T:Txt K mg CL Y)(S:Sta K mg "ring_of" jH ["waits","turn"])(gC:Cal P w K mg base "held_by" 1 ["waits","turn","visit"] (freshSp K 1 (cB K CL Y))):Cal P w K mg base "ring_of" 2 ["waits","turn"] (freshSp K 0 (gJ K CL Y)):=by
 refine S.cal (k:=1) (r:=0) (F:=gA K CL Y) sc_ring_of b9 (by decide) rfl fun f cdv A outer s H E hr=>?_;unfold gA;exact(ai (aA (i:=2) sc_ring_of.nd rfl (.inl rfl) (ar (PN.of (ay (PN.pd (bI (j:=0) rfl (a7 (N:=["stuck","turn"]) (caps:=[none,some 1]) (aj jH) lj rfl rfl (by decide +kernel)) rfl rfl (.inl rfl) (jf (dv 0)) (fun _ _ _ _=>en (aP (kl hr.units) (dv 0) (dv 1) (by rfl))) (fun _ _ _ _=>(PN.of (dv 0))))) ag))))
   (ai (aA (i:=3) sc_ring_of.nd rfl (.inl rfl) (ar (j7 af)))
   (ai (kX 41 PassesOwn.leaving (aP (kl hr.units) (dv 2) (dv 3) (by rfl)) (ai (lI (j:=3) (n:=0) rfl rfl (.inl rfl) (ar (PN.of (dv 2))))
   (ao (aA (i:=2) sc_ring_of.nd rfl (.inl rfl) (ar (PN.of (ay (aN gC hr (aa (dv 0) (aa (dv 1) (aa (dv 2) af)))) ag)))))))
   (ao (aX (PZ.zero (jF (yD (dv 3) (kT (je hr.units (dv 3) (dv 2) ci)) kR))))))))
noncomputable abbrev dC:Stmt:=top 29
noncomputable abbrev dh:List Str:=["trains","waits","turn","enters","visit","ready"]
noncomputable abbrev cO:List Nat:=[0,0,0,1,0,0]
@[irreducible] noncomputable def de (K:W.Frag)(CL:Addr)(Y:Ad):DS→Out:=(aC (aJ 3 (bJ cO (fun _=>Res.ok (.dct [] []))))
  (aC (fQ (zk cO (sL (ac 2))) (bt 4) (aC (aJ 5 (bJ cO (ae (ae (ac 0) (ae (ac 4) (kI 0) aH) aH) (kI 2) aH)))
  (iY 3 (ac 4) (si 0 (c1 (ae (dM (pC (ac 5) pN)) (aT (sL (ae (ac 1) (ac 4) aQ)) [none,some 3] (bt 0) yes (ae (ae (ac 1) (ae (ac 0) (kI 0) aH) aQ) (ae (ac 0) (kI 1) aH) aU)) aU) oO)))))
  (bF (ac 3))))
noncomputable def bn (K:W.Frag)(CL:Addr)(Y:Ad):List D→Res D:=iJ 3 dh (de K CL Y)
theorem sc_least_enters:FnScope dh ["trains","waits","turn"] (aj dC):=⟨rfl,rfl,rfl,by decide +kernel,rfl,by decide +kernel,by decide +kernel⟩
theorem cm (T:Txt K mg CL Y)(S:Sta K mg "least_enters" dC ["trains","waits","turn"]):Cal P w K mg base "least_enters" 1 ["trains","waits","turn"] (freshSp K 1 (bn K CL Y)):=by
 refine S.cal (k:=0) (r:=1) (F:=de K CL Y) sc_least_enters cO (by decide) rfl fun f cdv A outer s H E hr=>?_;unfold de;exact(ai (aA (i:=3) sc_least_enters.nd rfl (.inr rfl) (ar mD))
   (ai (cP (j:=4) PassesOwn.leaving rfl sc_least_enters.nd rfl (.inl rfl) rfl (fZ (ce (dv 2)))
    (ai (aA (i:=5) sc_least_enters.nd rfl (.inl rfl) (ar (PN.of (ay (ay (dv 0) (ay (dv 4) ag)) ag))))
   (ao (mB (j:=3) (n:=0) hr.units rfl rfl (.inr (.inl rfl)) (dv 4) (jF (PN.of (vg T.b_max (ax aE (iq (aa (dv 5) af)) (PN.pd (bI (j:=0) rfl (a7 (N:=["wait","enters"]) (caps:=[none,some 3]) (aj dC) dh rfl rfl (by decide +kernel)) rfl rfl (.inl rfl) (ce (cb hr.units (dv 1) (dv 4))) (fun _ _ _ _=>bP) (fun _ _ _ _=>(PN.of (ax aE (cb hr.units (dv 1) (ay (dv 0) ag)) (ay (dv 0) ag))))))))))))))
   (ao (ir (i:=3) rfl rfl (.inr (.inl rfl))))))
noncomputable abbrev kZ:Stmt:=top 33
noncomputable abbrev ka:List Str:=["train","path","enters"]
@[irreducible] noncomputable def j_ (K:W.Frag)(CL:Addr)(Y:Ad):DS→Out:=(bF (aT (sL (ac 1)) [none,some 2,some 0] (bt 0) yes (ae (ac 1) (cS (pC (ac 2) (pC (ac 0) pN))) aQ)))
noncomputable def gK (K:W.Frag)(CL:Addr)(Y:Ad):List D→Res D:=iJ 3 ka (j_ K CL Y)
theorem wM:FnScope ka ["train","path","enters"] (aj kZ):=⟨rfl,rfl,rfl,by decide +kernel,rfl,by decide +kernel,by decide +kernel⟩
theorem mW (T:Txt K mg CL Y)(S:Sta K mg "row_of" kZ ["train","path","enters"]):Cal P w K mg base "row_of" 1 ["train","path","enters"] (freshSp K 1 (gK K CL Y)):=by
 refine S.cal (k:=0) (r:=1) (F:=j_ K CL Y) wM [] (by decide) rfl fun f cdv A outer s H E hr=>?_;unfold j_;exact(ao (aX (aL (bI (j:=0) rfl (a7 (N:=["stretch","enters","train"]) (caps:=[none,some 2,some 0]) (aj kZ) ka rfl rfl (by decide +kernel)) rfl rfl (.inl rfl) (ce (dv 1)) (fun _ _ _ _=>bP) (fun _ _ _ _=>(PN.of (cb hr.units (dv 1) (cx (aa (dv 2) (aa (dv 0) af))))))))))
noncomputable abbrev iE:Stmt:=top 32
noncomputable abbrev gY:List Str:=["paths","enters"]
@[irreducible] noncomputable def gR (K:W.Frag)(CL:Addr)(Y:Ad):DS→Out:=(bF (aT (sE (pC (ac 0) pN)) [none,none,some 1] (hJ 0 1) yes (bf (pC (ac 0) (pC (ac 1) (pC (ac 2) pN))) (gK K CL Y))))
noncomputable def fB (K:W.Frag)(CL:Addr)(Y:Ad):List D→Res D:=iJ 2 gY (gR K CL Y)
theorem sS:FnScope gY ["paths","enters"] (aj iE):=⟨rfl,rfl,rfl,by decide +kernel,rfl,by decide +kernel,by decide +kernel⟩
theorem jV (T:Txt K mg CL Y)(S:Sta K mg "table_of" iE ["paths","enters"])(mW:Cal P w K mg base "row_of" 1 ["train","path","enters"] (freshSp K 1 (gK K CL Y))):Cal P w K mg base "table_of" 2 ["paths","enters"] (freshSp K 2 (fB K CL Y)):=by
 refine S.cal (k:=1) (r:=2) (F:=gR K CL Y) sS [] (by decide) rfl fun f cdv A outer s H E hr=>?_;unfold gR;exact(ao (aX (aL (sC (j:=0) (l:=1) rfl (a7 (N:=["train","path","enters"]) (caps:=[none,none,some 1]) (aj iE) gY rfl rfl (by decide +kernel)) rfl rfl rfl rfl (.inl rfl) (.inl rfl) (gN rfl T.b_enumerate (aa (dv 0) af)) (fun _ _ _ _=>bP) (fun _ _ _ _=>(jg (n:=1) mW hr (aa (dv 0) (aa (dv 1) (aa (dv 2) af))) eh))))))
noncomputable abbrev gy:Stmt:=top 26
noncomputable abbrev f8:List Str:=["line","trains","orders","paths","waits","turn"]
@[irreducible] noncomputable def cG (K:W.Frag)(CL:Addr)(Y:Ad):DS→Out:=(aC (aJ 3 (bf (pC (ac 0) (pC (ac 1) pN)) (gk K CL Y)))
  (aC (aJ 4 (tq (bf (pC (ac 0) (pC (ac 3) (pC (ac 2) pN))) (cv K CL Y))))
  (aC (aJ 5 (bf (pC (ac 4) pN) (cT K CL Y)))
  (aC (jO (cZ (ae (c1 (ac 5) bq) (c1 (ac 4) tX) CN)) (bF (cS (pC (kS (Str.ofString "ring")) (pC (bf (pC (ac 4) (pC (ac 5) pN)) (gJ K CL Y)) pN)))) nxt)
  (bF (cS (pC (kS (Str.ofString "table")) (pC (bf (pC (ac 3) (pC (tq (bf (pC (ac 1) (pC (ac 4) (pC (ac 5) pN))) (bn K CL Y))) pN)) (fB K CL Y)) pN))))))))
noncomputable def bS (K:W.Frag)(CL:Addr)(Y:Ad):List D→Res D:=iJ 3 f8 (cG K CL Y)
theorem sc_least_table:FnScope f8 ["line","trains","orders"] (aj gy):=⟨rfl,rfl,rfl,by decide +kernel,rfl,by decide +kernel,by decide +kernel⟩
theorem gc (T:Txt K mg CL Y)(S:Sta K mg "least_table" gy ["line","trains","orders"])(gE:Cal P w K mg base "in_turn" 3 ["waits"] (freshSp K 1 (cT K CL Y)))(cm:Cal P w K mg base "least_enters" 1 ["trains","waits","turn"] (freshSp K 1 (bn K CL Y)))(lq:Cal P w K mg base "ring_of" 2 ["waits","turn"] (freshSp K 0 (gJ K CL Y)))(jV:Cal P w K mg base "table_of" 2 ["paths","enters"] (freshSp K 2 (fB K CL Y)))(fu:Cal P w K mg base "waits_of" 2 ["line","paths","orders"] (freshSp K 2 (cv K CL Y)))(mX:Cal P w K mg base "ways" 4 ["line","trains"] (freshSp K 0 (gk K CL Y))):Cal P w K mg base "least_table" 5 ["line","trains","orders"] (freshSp K 0 (bS K CL Y)):=by
 refine S.cal (k:=4) (r:=0) (F:=cG K CL Y) sc_least_table [] (by decide) rfl fun f cdv A outer s H E hr=>?_;unfold cG;exact(ai (aA (i:=3) sc_least_table.nd rfl (.inl rfl) (aL (PN.of (aN mX hr (aa (dv 0) (aa (dv 1) af))))))
   (ai (aA (i:=4) sc_least_table.nd rfl (.inl rfl) (aL (PN.of (PN.pdF (jg (n:=2) fu hr (aa (dv 0) (aa (dv 3) (aa (dv 2) af))))))))
   (ai (aA (i:=5) sc_least_table.nd rfl (.inl rfl) (aL (PN.of (aN gE hr (aa (dv 4) af)))))
   (ai (bT (aP rK (bv T.b_len (dv 5)) (ve T.b_len (dv 4)) (bc _)) (ao (aX (aL (PN.of (cx (aa uf (aa (aN lq hr (aa (dv 4) (aa (dv 5) af))) af))))))) bg)
   (ao (aX (aL (PN.of (cx (aa uf (aa (aN jV hr (aa (dv 3) (aa (PN.pdF (jg (n:=1) cm hr (aa (dv 1) (aa (dv 4) (aa (dv 5) af))))) af))) af)))))))))))
noncomputable abbrev iF:Stmt:=top 28
noncomputable abbrev gZ:List Str:=["waits","turn"]
@[irreducible] noncomputable def eJ (K:W.Frag)(CL:Addr)(Y:Ad):DS→Out:=(aC (aJ 1 (bf (pC (ac 0) pN) (cT K CL Y)))
  (aC (jO (cZ (ae (c1 (ac 1) bq) (c1 (ac 0) tX) CN)) (gq Y.ST fun _=>true) nxt)
  (bF (ac 1))))
noncomputable def cC (K:W.Frag)(CL:Addr)(Y:Ad):List D→Res D:=iJ 1 gZ (eJ K CL Y)
theorem sc_whole_turn:FnScope gZ ["waits"] (aj iF):=⟨rfl,rfl,rfl,by decide +kernel,rfl,by decide +kernel,by decide +kernel⟩
theorem h_ (T:Txt K mg CL Y)(S:Sta K mg "whole_turn" iF ["waits"])(gE:Cal P w K mg base "in_turn" 3 ["waits"] (freshSp K 1 (cT K CL Y))):Cal P w K mg base "whole_turn" 4 ["waits"] (freshSp K 0 (cC K CL Y)):=by
 refine S.cal (k:=3) (r:=0) (F:=eJ K CL Y) sc_whole_turn [] (by decide) rfl fun f cdv A outer s H E hr=>?_;unfold eJ;exact(ai (aA (i:=1) sc_whole_turn.nd rfl (.inl rfl) (aL (PN.of (aN gE hr (aa (dv 0) af)))))
   (ai (bT (aP rK (bv T.b_len (dv 1)) (ve T.b_len (dv 0)) (bc _)) (ao (yB (Es T.xST))) bg)
   (ao (aX (aL (PN.of (dv 1)))))))
noncomputable abbrev jk:Stmt:=top 31
noncomputable abbrev iT:List Str:=["line","enters","runs","leaves","visit"]
noncomputable abbrev dn:List Nat:=[0,0,0,1,0]
@[irreducible] noncomputable def fS (K:W.Frag)(CL:Addr)(Y:Ad):DS→Out:=(aC (aJ 2 (bJ dn (kM CL "runs" (ac 0) (jc CL))))
  (aC (aJ 3 (bJ dn (fun _=>Res.ok (.dct [] []))))
  (aC (fQ (zk dn (sD (ac 1))) (bt 4) (iY 3 (ac 4) (bJ dn (ae (ae (ac 1) (ac 4) aQ) (ae (ac 2) (ae (ac 4) (kI 1) aH) aH) aU))))
  (bF (ac 3)))))
noncomputable def cU (K:W.Frag)(CL:Addr)(Y:Ad):List D→Res D:=iJ 2 iT (fS K CL Y)
theorem sc_leaves_of:FnScope iT ["line","enters"] (aj jk):=⟨rfl,rfl,rfl,by decide +kernel,rfl,by decide +kernel,by decide +kernel⟩
theorem iV (T:Txt K mg CL Y)(S:Sta K mg "leaves_of" jk ["line","enters"])(c_runs:CalM P w K mg base CL "runs" 1 (jc CL)):Cal P w K mg base "leaves_of" 2 ["line","enters"] (freshSp K 1 (cU K CL Y)):=by
 refine S.cal (k:=1) (r:=1) (F:=fS K CL Y) sc_leaves_of dn (by decide) rfl fun f cdv A outer s H E hr=>?_;unfold fS;exact(ai (aA (i:=2) sc_leaves_of.nd rfl (.inl rfl) (ar (PN.of (vj c_runs hr (dv 0)))))
   (ai (aA (i:=3) sc_leaves_of.nd rfl (.inl rfl) (ar mD))
   (ai (cP (j:=4) PassesOwn.leaving rfl sc_leaves_of.nd rfl (.inl rfl) rfl (fZ (jf (dv 1)))
    (ao (mB (j:=3) (n:=0) hr.units rfl rfl (.inl rfl) (dv 4) (ar (PN.of (ax aE (cb hr.units (dv 1) (dv 4)) (ay (dv 2) (ay (dv 4) ag))))))))
   (ao (ir (i:=3) rfl rfl (.inl rfl))))))
noncomputable abbrev d6:Stmt:=top 30
noncomputable abbrev dX:List Str:=["waits","enters","visit"]
@[irreducible] noncomputable def dU (K:W.Frag)(CL:Addr)(Y:Ad):DS→Out:=(bF (aT (sL (ae (ac 0) (ac 2) aQ)) [none,some 1,some 2] (bt 0) (cZ (ae (ae (ae (ac 1) (ae (ac 0) (kI 0) aH) aQ) (ae (ac 0) (kI 1) aH) aU) (ae (ac 1) (ac 2) aQ) pf)) (ae (ac 0) (kI 0) aH)))
noncomputable def bj (K:W.Frag)(CL:Addr)(Y:Ad):List D→Res D:=iJ 3 dX (dU K CL Y)
theorem oe:FnScope dX ["waits","enters","visit"] (aj d6):=⟨rfl,rfl,rfl,by decide +kernel,rfl,by decide +kernel,by decide +kernel⟩
theorem dY (T:Txt K mg CL Y)(S:Sta K mg "tight_waits" d6 ["waits","enters","visit"]):Cal P w K mg base "tight_waits" 1 ["waits","enters","visit"] (freshSp K 1 (bj K CL Y)):=by
 refine S.cal (k:=0) (r:=1) (F:=dU K CL Y) oe [] (by decide) rfl fun f cdv A outer s H E hr=>?_;unfold dU;exact(ao (aX (aL (bI (j:=0) rfl (a7 (N:=["wait","enters","visit"]) (caps:=[none,some 1,some 2]) (aj d6) dX rfl rfl (by decide +kernel)) rfl rfl (.inl rfl) (ce (cb hr.units (dv 0) (dv 2))) (fun _ _ _ _=>en (aP (iH hr.units) (ax aE (cb hr.units (dv 1) (ay (dv 0) ag)) (ay (dv 0) ag)) (cb hr.units (dv 1) (dv 2)) (bc _))) (fun _ _ _ _=>(PN.of (ay (dv 0) ag)))))))
noncomputable abbrev mG:Stmt:=top 27
noncomputable abbrev mh:List Str:=["line","trains","orders","waits","enters","leaves","arrival","visit","links","tight"]
noncomputable abbrev aV:List Nat:=[0,0,0,0,0,0,0,0,1,0]
@[irreducible] noncomputable def jn (K:W.Frag)(CL:Addr)(Y:Ad):DS→Out:=(aC (aJ 3 (bJ aV (tq (bf (pC (ac 0) (pC (bf (pC (ac 0) (pC (ac 1) pN)) (gk K CL Y)) (pC (ac 2) pN))) (cv K CL Y)))))
  (aC (aJ 4 (bJ aV (tq (bf (pC (ac 1) (pC (ac 3) (pC (bf (pC (ac 3) pN) (cC K CL Y)) pN))) (bn K CL Y)))))
  (aC (aJ 5 (bJ aV (tq (bf (pC (ac 0) (pC (ac 4) pN)) (cU K CL Y)))))
  (aC (aJ 6 (bJ aV (fun ρ=>((ac 5) ρ).bind lZ)))
  (aC (aJ 7 (bJ aV (ae (aT (sD (ac 5)) [none,some 6,some 5] (bt 0) (cZ (ae (ae (ac 2) (ac 0) aQ) (ac 1) pf)) (ac 0)) (kI 0) aH)))
  (aC (aJ 8 (bJ aV (dM (pC (ac 7) pN))))
  (aC (aJ 9 (bJ aV (bf (pC (ac 3) (pC (ac 4) (pC (ac 7) pN))) (bj K CL Y))))
  (aC (bL (tR (ac 9)) (aC (aJ 7 (bJ aV (ae (ac 9) (kI 0) aH)))
  (aC (kg 8 (bJ aV (ac 7)))
  (aJ 9 (bJ aV (bf (pC (ac 3) (pC (ac 4) (pC (ac 7) pN))) (bj K CL Y)))))) 41)
  (bF (si 1 (bf (Dx (ac 8)) kJ)))))))))))
noncomputable def ij (K:W.Frag)(CL:Addr)(Y:Ad):List D→Res D:=iJ 3 mh (jn K CL Y)
theorem sc_chain:FnScope mh ["line","trains","orders"] (aj mG):=⟨rfl,rfl,rfl,by decide +kernel,rfl,by decide +kernel,by decide +kernel⟩
theorem qc (T:Txt K mg CL Y)(S:Sta K mg "chain" mG ["line","trains","orders"])(cm:Cal P w K mg base "least_enters" 1 ["trains","waits","turn"] (freshSp K 1 (bn K CL Y)))(iV:Cal P w K mg base "leaves_of" 2 ["line","enters"] (freshSp K 1 (cU K CL Y)))(dY:Cal P w K mg base "tight_waits" 1 ["waits","enters","visit"] (freshSp K 1 (bj K CL Y)))(fu:Cal P w K mg base "waits_of" 2 ["line","paths","orders"] (freshSp K 2 (cv K CL Y)))(mX:Cal P w K mg base "ways" 4 ["line","trains"] (freshSp K 0 (gk K CL Y)))(h_:Cal P w K mg base "whole_turn" 4 ["waits"] (freshSp K 0 (cC K CL Y))):Cal P w K mg base "chain" 5 ["line","trains","orders"] (freshSp K 1 (ij K CL Y)):=by
 refine S.cal (k:=4) (r:=1) (F:=jn K CL Y) sc_chain aV (by decide) rfl fun f cdv A outer s H E e=>?_;unfold jn;exact(ai (aA (i:=3) sc_chain.nd rfl (.inl rfl) (ar (PN.of (PN.pdF (jg (n:=2) fu e (aa (dv 0) (aa (aN mX e (aa (dv 0) (aa (dv 1) af))) (aa (dv 2) af))))))))
   (ai (aA (i:=4) sc_chain.nd rfl (.inl rfl) (ar (PN.of (PN.pdF (jg (n:=1) cm e (aa (dv 1) (aa (dv 3) (aa (aN h_ e (aa (dv 3) af)) af))))))))
   (ai (aA (i:=5) sc_chain.nd rfl (.inr rfl) (ar (PN.of (PN.pdF (jg (n:=1) iV e (aa (dv 0) (aa (dv 4) af)))))))
   (ai (aA (i:=6) sc_chain.nd rfl (.inr rfl) (ar (PN.of (Az T.b_max (dv 5)))))
   (ai (aA (i:=7) sc_chain.nd rfl (.inl rfl) (ar (PN.of (ay (PN.pd (bI (j:=0) rfl (a7 (N:=["each","arrival","leaves"]) (caps:=[none,some 6,some 5]) (aj mG) mh rfl rfl (by decide +kernel)) rfl rfl (.inl rfl) (jf (dv 5)) (fun _ _ _ _=>en (aP (iH e.units) (cb e.units (dv 2) (dv 0)) (dv 1) (bc _))) (fun _ _ _ _=>(PN.of (dv 0))))) ag))))
   (ai (aA (i:=8) sc_chain.nd rfl (.inl rfl) (ar (j7 (aa (dv 7) af))))
   (ai (aA (i:=9) sc_chain.nd rfl (.inl rfl) (ar (PN.of (aN dY e (aa (dv 3) (aa (dv 4) (aa (dv 7) af)))))))
   (ai (kX 41 PassesOwn.leaving (qK (dv 9)) (ai (aA (i:=7) sc_chain.nd rfl (.inl rfl) (ar (PN.of (ay (dv 9) ag))))
   (ai (lI (j:=8) (n:=0) rfl rfl (.inl rfl) (ar (PN.of (dv 7))))
   (ao (aA (i:=9) sc_chain.nd rfl (.inl rfl) (ar (PN.of (aN dY e (aa (dv 3) (aa (dv 4) (aa (dv 7) af)))))))))))
   (ao (aX (jF (AO T.b_list T.b_reversed (dv 8)))))))))))))
noncomputable abbrev jj:Stmt:=top 44
noncomputable abbrev iS:List Str:=["line","trains","orders","found","e","marks"]
noncomputable abbrev eS:List Nat:=[0,0,0,1,0,0]
@[irreducible] noncomputable def d8 (K:W.Frag)(CL:Addr)(Y:Ad):DS→Out:=(aC (jK 4 [Y.ST] (aJ 3 (si 1 (bf (pC (ac 0) (pC (ac 1) (pC (ac 2) pN))) (ij K CL Y)))) (aC (aJ 5 (bJ eS (dM (pC (fun ρ=>((ac 4) ρ).bind (ee K (cV (.ref Y.ST)))) (pC (fun ρ=>((ac 4) ρ).bind (ee K (cV (.ty "ValueError")))) (pC (fun ρ=>((ac 4) ρ).bind (ee K (cV (.ref Y.BO)))) pN))))))
  (bF (bJ eS (cS (pC (si 0 kN) (pC (ae (ac 5) (dM (pC (fun ρ=>((ac 4) ρ).bind (ee K (cV (.ref Y.TS)))) pN)) l_) pN)))))))
  (bF (sy (ac 3) (bJ eS (dM pN)))))
noncomputable def cu (K:W.Frag)(CL:Addr)(Y:Ad):List D→Res D:=iJ 3 iS (d8 K CL Y)
theorem sc__law_told:FnScope iS ["line","trains","orders"] (aj jj):=⟨rfl,rfl,rfl,by decide +kernel,rfl,by decide +kernel,by decide +kernel⟩
theorem iU (T:Txt K mg CL Y)(S:Sta K mg "_law_told" jj ["line","trains","orders"])(qc:Cal P w K mg base "chain" 5 ["line","trains","orders"] (freshSp K 1 (ij K CL Y))):Cal P w K mg base "_law_told" 6 ["line","trains","orders"] (freshSp K 2 (cu K CL Y)):=by
 refine S.cal (k:=5) (r:=2) (F:=d8 K CL Y) sc__law_told eS (by decide) rfl fun f cdv A outer s H E hr=>?_;unfold d8;exact(ai (De (i:=4) (cs:=[Y.ST]) sc__law_told.nd rfl rfl rfl T.gHE rfl rfl T.hs (AV (i:=3) (dd:=0) sc__law_told.nd rfl rfl rfl qc hr (fun _ _=>(aa (dv 0) (aa (dv 1) (aa (dv 2) af)))) (gL ci (gL ci (gL ci pJ)))) (fun _ _=>(ai (aA (i:=5) sc__law_told.nd rfl (.inl rfl) (ar (PN.of (iq (aa (l5 T.b_isinstance (dv 4) (uh T.gST)) (aa (l5 T.b_isinstance (dv 4) (yx T.b_ValueError DI)) (aa (l5 T.b_isinstance (dv 4) (uh T.gBO)) af)))))))
   (ao (aX (ar (AQ (n:=0) (sF (PN.up (PN.of yn)) (sF (Df (dv 5) (iq (aa (l5 T.b_isinstance (dv 4) (uh T.gTS)) af))) vw)))))))))
   (ao (yC (n:=0) (j:=3) rfl rfl (.inl rfl) (ar (j7 af)))))
noncomputable abbrev gr:Stmt:=top 45
noncomputable abbrev f6:List Str:=["trains","table","found","k","places","at"]
noncomputable abbrev cw:List Nat:=[0,0,1,0,0,0]
@[irreducible] noncomputable def dR (K:W.Frag)(CL:Addr)(Y:Ad):DS→Out:=(aC (aJ 2 (bJ cw (fun _=>Res.ok (.dct [] []))))
  (aC (fQ (sR1 (pC (c1 (ac 0) bq) pN)) (bt 3) (aC (aJ 4 (bJ cw (bf (pC (ae (ac 0) (ac 3) aH) pN) (aS K CL Y))))
  (fQ (sR1 (pC (c1 (ac 4) bq) pN)) (bt 5) (iY 2 (cS (pC (ac 3) (pC (ae (ac 4) (ac 5) aH) pN))) (bJ cw (ae (ae (ac 1) (ac 3) aH) (ac 5) aH))))))
  (bF (ac 2))))
noncomputable def cJ (K:W.Frag)(CL:Addr)(Y:Ad):List D→Res D:=iJ 2 f6 (dR K CL Y)
theorem sc__law_enters:FnScope f6 ["trains","table"] (aj gr):=⟨rfl,rfl,rfl,by decide +kernel,rfl,by decide +kernel,by decide +kernel⟩
theorem f9 (T:Txt K mg CL Y)(S:Sta K mg "_law_enters" gr ["trains","table"])(bE:Cal P w K mg base "_law_way" 1 ["train"] (freshSp K 0 (aS K CL Y))):Cal P w K mg base "_law_enters" 2 ["trains","table"] (freshSp K 1 (cJ K CL Y)):=by
 refine S.cal (k:=1) (r:=1) (F:=dR K CL Y) sc__law_enters cw (by decide) rfl fun f cdv A outer s H E hr=>?_;unfold dR;exact(ai (aA (i:=2) sc__law_enters.nd rfl (.inl rfl) (ar mD))
   (ai (cP (j:=3) PassesOwn.leaving rfl sc__law_enters.nd rfl (.inl rfl) rfl (gP rfl T.b_range (aa (bv T.b_len (dv 0)) af))
    (ai (aA (i:=4) sc__law_enters.nd rfl (.inl rfl) (ar (PN.of (aN bE hr (aa (ay (dv 0) (dv 3)) af)))))
   (ao (cP (j:=5) PassesOwn.leaving rfl sc__law_enters.nd rfl (.inl rfl) rfl (gP rfl T.b_range (aa (bv T.b_len (dv 4)) af))
    (ao (mB (j:=2) (n:=0) hr.units rfl rfl (.inl rfl) (cx (aa (dv 3) (aa (ay (dv 4) (dv 5)) af))) (ar (PN.of (ay (ay (dv 1) (dv 3)) (dv 5))))))))))
   (ao (ir (i:=2) rfl rfl (.inl rfl)))))
noncomputable abbrev fK:Stmt:=top 46
noncomputable abbrev ff:List Str:=["made","trains","orders","enters","one","other","left","places","row"]
@[irreducible] noncomputable def c_ (K:W.Frag)(CL:Addr)(Y:Ad):DS→Out:=(aC (aJ 6 (ae (ae (ac 3) (ac 4) aQ) (ae (ae (ac 0) (kI 0) aH) (ae (ac 4) (kI 1) aH) aH) aU))
  (aC (jO (cZ (ae (ae (ac 4) (kI 0) aH) (ae (ac 5) (kI 0) aH) pf)) (aC (aJ 7 (bf (pC (ae (ac 1) (ae (ac 4) (kI 0) aH) aH) pN) (aS K CL Y)))
  (bF (xi (ae (ae (ac 7) (ae (ac 5) (kI 1) aH) fR) (ae (ae (ac 7) (ae (ac 4) (kI 1) aH) fR) (kI 1) aU) pf) (ae (ae (ac 3) (ac 5) aQ) (ac 6) pf)))) nxt)
  (aC (jO (cZ (ae (ae (ac 4) (kI 1) aH) (ae (ac 5) (kI 1) aH) qH)) (bF (kB false)) nxt)
  (aC (aJ 8 (ae (ac 2) (ae (ac 4) (kI 1) aH) aH))
  (bF (xi (ae (ae (ac 8) (ae (ac 5) (kI 0) aH) fR) (ae (ae (ac 8) (ae (ac 4) (kI 0) aH) fR) (kI 1) aU) pf) (ae (ae (ac 3) (ac 5) aQ) (ae (ac 6) (ae (ac 0) (kI 1) aH) aU) pf)))))))
noncomputable def cq (K:W.Frag)(CL:Addr)(Y:Ad):List D→Res D:=iJ 6 ff (c_ K CL Y)
theorem sc__law_follows:FnScope ff ["made","trains","orders","enters","one","other"] (aj fK):=⟨rfl,rfl,rfl,by decide +kernel,rfl,by decide +kernel,by decide +kernel⟩
theorem fk (T:Txt K mg CL Y)(S:Sta K mg "_law_follows" fK ["made","trains","orders","enters","one","other"])(bE:Cal P w K mg base "_law_way" 1 ["train"] (freshSp K 0 (aS K CL Y))):Cal P w K mg base "_law_follows" 2 ["made","trains","orders","enters","one","other"] (freshSp K 0 (cq K CL Y)):=by
 refine S.cal (k:=1) (r:=0) (F:=c_ K CL Y) sc__law_follows [] (by decide) rfl fun f cdv A outer s H E e=>?_;unfold c_;exact(ai (aA (i:=6) sc__law_follows.nd rfl (.inl rfl) (aL (PN.of (ax aE (cb e.units (dv 3) (dv 4)) (ay (ay (dv 0) ag) (ay (dv 4) ag))))))
   (ai (bT (aP (iH e.units) (ay (dv 4) ag) (ay (dv 5) ag) (bc _)) (ai (aA (i:=7) sc__law_follows.nd rfl (.inl rfl) (aL (PN.of (aN bE e (aa (ay (dv 1) (ay (dv 4) ag)) af)))))
   (ao (aX (aL (PN.of (ub (nQ (iH e.units) (je e.units (dv 7) (ay (dv 5) ag) (nO ci wz lA)) (ax aE (je e.units (dv 7) (ay (dv 4) ag) (nO ci wz lA)) ag) (bc _)) (ue (nQ (iH e.units) (cb e.units (dv 3) (dv 5)) (dv 6) (bc _))))))))) bg)
   (ai (bT (aP (jN e.units) (ay (dv 4) ag) (ay (dv 5) ag) (bc _)) (ao (aX (aL (PN.of fV)))) bg)
   (ai (aA (i:=8) sc__law_follows.nd rfl (.inl rfl) (aL (PN.of (ay (dv 2) (ay (dv 4) ag)))))
   (ao (aX (aL (PN.of (ub (nQ (iH e.units) (je e.units (dv 8) (ay (dv 5) ag) (nO ci wz lA)) (ax aE (je e.units (dv 8) (ay (dv 4) ag) (nO ci wz lA)) ag) (bc _)) (ue (nQ (iH e.units) (cb e.units (dv 3) (dv 5)) (ax aE (dv 6) (ay (dv 0) ag)) (bc _))))))))))))
noncomputable abbrev eX:Stmt:=top 47
noncomputable abbrev eK:List Str:=["made","trains","orders","table","found","enters","visit","first","k","last"]
@[irreducible] noncomputable def eD (K:W.Frag)(CL:Addr)(Y:Ad):DS→Out:=(aC (aJ 5 (tq (bf (pC (ac 1) (pC (ac 3) pN)) (cJ K CL Y))))
  (aC (jO (BE (jJ (cZ (fun ρ=>((ac 4) ρ).bind (ee K (cV (.ty "list")))))) (cZ (ae (c1 (ac 4) bq) (kI 1) CN))) (bF (kB false)) nxt)
  (aC (fQ (sL (ac 4)) (bt 6) (aC (jO (BE (jJ (cZ (fun ρ=>((ac 6) ρ).bind (ee K (cV (.ty "tuple")))))) (BE (cZ (ae (c1 (ac 6) bq) (kI 2) qH)) (cZ (ae (ac 6) (ac 5) nN)))) (bF (kB false)) nxt)
  (jO (BE (jJ (cZ (bf (pC (ae (ac 6) (kI 0) aH) pN) (cA K CL Y)))) (jJ (cZ (bf (pC (ae (ac 6) (kI 1) aH) pN) (cA K CL Y))))) (bF (kB false)) nxt)))
  (aC (aJ 7 (ae (ac 4) (kI 0) aH))
  (aC (jO (BE (cZ (ae (ae (bf (pC (ae (ac 1) (ae (ac 7) (kI 0) aH) aH) pN) (aS K CL Y)) (kI 0) aH) (ae (ac 7) (kI 1) aH) qH)) (cZ (ae (ae (ac 5) (ac 7) aQ) (ae (ae (ac 1) (ae (ac 7) (kI 0) aH) aH) (kI 2) aH) qH))) (bF (kB false)) nxt)
  (aC (fQ (sR2 (pC (kI 1) (pC (c1 (ac 4) bq) pN))) (bt 8) (jO (jJ (cZ (bf (pC (ac 0) (pC (ac 1) (pC (ac 2) (pC (ac 5) (pC (ae (ac 4) (ae (ac 8) (kI 1) qX) aH) (pC (ae (ac 4) (ac 8) aH) pN)))))) (cq K CL Y)))) (bF (kB false)) nxt))
  (aC (aJ 9 (c1 (aT (sD (ac 5)) [none,some 5,some 0] (bt 0) yes (ae (ae (ac 1) (ac 0) aQ) (ae (ae (ac 2) (kI 0) aH) (ae (ac 0) (kI 1) aH) aH) aU)) oO))
  (bF (ae (ae (ae (ac 5) (ae (ac 4) (nG (kI 1)) aH) aQ) (ae (ae (ac 0) (kI 0) aH) (ae (ae (ac 4) (nG (kI 1)) aH) (kI 1) aH) aH) aU) (ac 9) pf)))))))))
noncomputable def dl (K:W.Frag)(CL:Addr)(Y:Ad):List D→Res D:=iJ 5 eK (eD K CL Y)
theorem sc__law_right:FnScope eK ["made","trains","orders","table","found"] (aj eX):=⟨rfl,rfl,rfl,by decide +kernel,rfl,by decide +kernel,by decide +kernel⟩
theorem hV (T:Txt K mg CL Y)(S:Sta K mg "_law_right" eX ["made","trains","orders","table","found"])(f9:Cal P w K mg base "_law_enters" 2 ["trains","table"] (freshSp K 1 (cJ K CL Y)))(fk:Cal P w K mg base "_law_follows" 2 ["made","trains","orders","enters","one","other"] (freshSp K 0 (cq K CL Y)))(bE:Cal P w K mg base "_law_way" 1 ["train"] (freshSp K 0 (aS K CL Y)))(eO:Cal P w K mg base "_law_whole" 1 ["found"] (freshSp K 0 (cA K CL Y))):Cal P w K mg base "_law_right" 3 ["made","trains","orders","table","found"] (freshSp K 0 (dl K CL Y)):=by
 refine S.cal (k:=2) (r:=0) (F:=eD K CL Y) sc__law_right [] (by decide) rfl fun f cdv A outer s H E e=>?_;unfold eD;exact(ai (aA (i:=5) sc__law_right.nd rfl (.inr rfl) (aL (PN.of (PN.pdF (jg (n:=1) f9 e (aa (dv 1) (aa (dv 3) af)))))))
   (ai (bT (PDW.pt (lH (cD (jE (l5 T.b_isinstance (dv 4) (yx T.b_list kh)))) (kU (aP rK (bv T.b_len (dv 4)) ag (bc _))))) (ao (aX (aL (PN.of fV)))) bg)
   (ai (cP (j:=6) PassesOwn.leaving rfl sc__law_right.nd rfl (.inl rfl) rfl (rf (ce (dv 4)))
    (ai (bT (PDW.pt (lH (cD (jE (l5 T.b_isinstance (dv 6) (yx T.b_tuple rA)))) (lH (aP (jN e.units) (bv T.b_len (dv 6)) ag (bc _)) (kU (aP (vR e.units) (dv 6) (dv 5) (by rfl)))))) (ao (aX (aL (PN.of fV)))) bg)
   (ao (bT (PDW.pt (lH (cD (jE (aN eO e (aa (ay (dv 6) ag) af)))) (kU (cD (jE (aN eO e (aa (ay (dv 6) ag) af))))))) (ao (aX (aL (PN.of fV)))) bg))))
   (ai (aA (i:=7) sc__law_right.nd rfl (.inl rfl) (aL (PN.of (ay (dv 4) ag))))
   (ai (bT (PDW.pt (lH (aP (jN e.units) (ay (aN bE e (aa (ay (dv 1) (ay (dv 7) ag)) af)) ag) (ay (dv 7) ag) (bc _)) (kU (aP (jN e.units) (cb e.units (dv 5) (dv 7)) (ay (ay (dv 1) (ay (dv 7) ag)) ag) (bc _))))) (ao (aX (aL (PN.of fV)))) bg)
   (ai (cP (j:=8) PassesOwn.leaving rfl sc__law_right.nd rfl (.inl rfl) rfl (wX rfl T.b_range (aa ag (aa (bv T.b_len (dv 4)) af)))
    (ao (bT (cD (jE (aN fk e (aa (dv 0) (aa (dv 1) (aa (dv 2) (aa (dv 5) (aa (ay (dv 4) (ax ng (dv 8) ag)) (aa (ay (dv 4) (dv 8)) af))))))))) (ao (aX (aL (PN.of fV)))) bg)))
   (ai (aA (i:=9) sc__law_right.nd rfl (.inl rfl) (aL (PN.of (vg T.b_max (PN.pd (bI (j:=0) rfl (a7 (N:=["visit","enters","made"]) (caps:=[none,some 5,some 0]) (aj eX) eK rfl rfl (by decide +kernel)) rfl rfl (.inl rfl) (jf (dv 5)) (fun _ _ _ _=>bP) (fun _ _ _ _=>(PN.of (ax aE (cb e.units (dv 1) (dv 0)) (ay (ay (dv 2) ag) (ay (dv 0) ag)))))))))))
   (ao (aX (aL (PN.of (nQ (iH e.units) (ax aE (cb e.units (dv 5) (ay (dv 4) (qJ ag))) (ay (ay (dv 0) ag) (ay (ay (dv 4) (qJ ag)) ag))) (dv 9) (bc _)))))))))))))
noncomputable abbrev l7:Stmt:=top 48
noncomputable abbrev uI:List Str:=["script","made","trains","orders","handed","line","told","lap","found"]
noncomputable abbrev dm:List Nat:=[0,0,0,0,0,0,0,0,2]
@[irreducible] noncomputable def uG (K:W.Frag)(CL:Addr)(Y:Ad):DS→Out:=(aC (aJ 1 (bJ dm (bf (pC (ac 0) (pC (kI 0) pN)) (cr K CL Y))))
  (aC (aJ 2 (bJ dm (bf (pC (ac 0) (pC (kI 20) (pC (c1 (ae (ac 1) (kI 0) aH) bq) (pC (kI 5) pN)))) (bD K CL Y))))
  (aC (aJ 3 (bJ dm (bf (pC (ac 0) (pC (kI 100) (pC (ae (ac 1) (kI 0) aH) (pC (ae (ac 1) (kI 1) aH) (pC (ac 2) pN))))) (bb K CL Y))))
  (aC (aJ 4 (bJ dm (dM (pC (c1 (ac 2) cE) (pC (aT (sL (ac 3)) [none] (bt 0) yes (c1 (ac 0) cE)) pN)))))
  (aC (aJ 5 (bJ dm (bf (pC (ae (ac 1) (kI 0) aH) (pC (ae (ac 1) (kI 1) aH) pN)) (jQ K CL Y))))
  (aC (aJ 6 (bJ dm (bf (pC (ac 5) (pC (ae (ac 4) (kI 0) aH) (pC (ae (ac 4) (kI 1) aH) pN))) (bS K CL Y))))
  (aC (fQ (sR1 (pC (kI 2) pN)) (bt 7) (aC (aJ 8 (bJ dm (bf (pC (ac 5) (pC (ae (ac 4) (kI 0) aH) (pC (ae (ac 4) (kI 1) aH) pN))) (cu K CL Y))))
  (aC (jO (cZ (ae (ac 4) (dM (pC (ac 2) (pC (ac 3) pN))) qH)) (bF (bJ dm (kB false))) nxt)
  (jO (cZ (ae (ae (ac 6) (kI 0) aH) (kS (Str.ofString "ring")) pf)) (jO (cZ (ae (ac 8) (cS (pC kN (pC (dM (pC (kB true) (pC (kB true) (pC (kB false) (pC (kB false) pN))))) pN))) qH)) (bF (bJ dm (kB false))) nxt) (aC (jO (BE (cZ (ae (ae (ac 8) (kI 1) aH) (dM pN) qH)) (jJ (cZ (bf (pC (ac 1) (pC (ac 2) (pC (ac 3) (pC (ae (ac 6) (kI 1) aH) (pC (ae (ac 8) (kI 0) aH) pN))))) (dl K CL Y))))) (bF (bJ dm (kB false))) nxt)
  (mU 8 1 (xk 8 0 (tE 8) (kI 0)) (bJ dm (cS (pC (kI 9) (pC (kI 9) pN))))))))))
  (bF (bJ dm (kB true))))))))))
noncomputable def yb (K:W.Frag)(CL:Addr)(Y:Ad):List D→Res D:=iJ 1 uI (uG K CL Y)
theorem sc_law:FnScope uI ["script"] (aj l7):=⟨rfl,rfl,rfl,by decide +kernel,rfl,by decide +kernel,by decide +kernel⟩
theorem DJ {f:Addr}{fd:FuncData}(T:Txt K mg CL Y)(Fn:Fun K "law" "law" l7 f fd)(fm:Cal P w K mg base "_law_line_by" 2 ["script","base"] (freshSp K 0 (cr K CL Y)))(dG:Cal P w K mg base "_law_orders_by" 3 ["script","base","runs","gap","trains"] (freshSp K 2 (bb K CL Y)))(hV:Cal P w K mg base "_law_right" 3 ["made","trains","orders","table","found"] (freshSp K 0 (dl K CL Y)))(iU:Cal P w K mg base "_law_told" 6 ["line","trains","orders"] (freshSp K 2 (cu K CL Y)))(dH:Cal P w K mg base "_law_trains_by" 2 ["script","base","stretches","most"] (freshSp K 1 (bD K CL Y)))(gc:Cal P w K mg base "least_table" 5 ["line","trains","orders"] (freshSp K 0 (bS K CL Y)))(c_Line:CalI P w K mg base "Line" CL 2 ["self","runs","clear"] (jQ K CL Y)):FnOk P w K mg base (CXF P w) 7 f fd ["script"] (freshSp K 0 (yb K CL Y)):=by
 refine Fn.freshM (k:=6) (r:=0) (F:=uG K CL Y) sc_law dm (by decide) rfl fun cdv A outer s H E e=>?_;unfold uG;exact(ai (aA (i:=1) sc_law.nd rfl (.inl rfl) (ar (PN.of (aN fm e (aa (dv 0) (aa ag af))))))
   (ai (aA (i:=2) sc_law.nd rfl (.inl rfl) (ar (PN.of (aN dH e (aa (dv 0) (aa ag (aa (bv T.b_len (ay (dv 1) ag)) (aa ag af))))))))
   (ai (aA (i:=3) sc_law.nd rfl (.inl rfl) (ar (PN.of (aN dG e (aa (dv 0) (aa ag (aa (ay (dv 1) ag) (aa (ay (dv 1) ag) (aa (dv 2) af)))))))))
   (ai (aA (i:=4) sc_law.nd rfl (.inl rfl) (ar (PN.of (iq (aa (vf T.b_list (dv 2)) (aa (PN.pd (bI (j:=0) rfl (a7 (N:=["row"]) (caps:=[none]) (aj l7) uI rfl rfl (by decide +kernel)) rfl rfl (.inl rfl) (ce (dv 3)) (fun _ _ _ _=>bP) (fun _ _ _ _=>(PN.of (vf T.b_list (dv 0)))))) af))))))
   (ai (aA (i:=5) sc_law.nd rfl (.inl rfl) (ar (PN.of (Em c_Line e (aa (ay (dv 1) ag) (aa (ay (dv 1) ag) af))))))
   (ai (aA (i:=6) sc_law.nd rfl (.inl rfl) (ar (PN.of (aN gc e (aa (dv 5) (aa (ay (dv 4) ag) (aa (ay (dv 4) ag) af)))))))
   (ai (cP (j:=7) PassesOwn.leaving rfl sc_law.nd rfl (.inl rfl) rfl (gP rfl T.b_range (aa ag af))
    (ai (aA (i:=8) sc_law.nd rfl (.inl rfl) (ar (jg (n:=2) iU e (aa (dv 5) (aa (ay (dv 4) ag) (aa (ay (dv 4) ag) af))))))
   (ai (bT (aP (jN e.units) (dv 4) (iq (aa (dv 2) (aa (dv 3) af))) (bc _)) (ao (aX (ar (PN.of fV)))) bg)
   (ao (bT (aP (iH e.units) (ay (dv 6) ag) uf (bc _)) (ao (bT (aP (jN e.units) (dv 8) (cx (aa yn (aa (iq (aa fV (aa fV (aa fV (aa fV af))))) af))) (bc _)) (ao (aX (ar (PN.of fV)))) bg)) (ai (bT (PDW.pt (lH (aP (jN e.units) (ay (dv 8) ag) (iq af) (bc _)) (kU (cD (jE (aN hV e (aa (dv 1) (aa (dv 2) (aa (dv 3) (aa (ay (dv 6) ag) (aa (ay (dv 8) ag) af))))))))))) (ao (aX (ar (PN.of fV)))) bg)
   (ao (qO (n:=1) (m:=0) rfl (DF (n:=0) (m:=1) rfl (qb (j:=8) rfl (.inl rfl)) ag) (ar (PN.of (cx (aa ag (aa ag af))))) (va (nP (gL wz (gL wz pJ))))))))))))
   (ao (aX (ar (PN.of fV)))))))))))
end
end K06
set_option maxHeartbeats 1000000
namespace K06
open PySem L2
section
variable{K:W.Frag}{CL:Addr}{Y:Ad}
theorem cH {ns:List Int}{k many:Int}(h0:0≤k)(h1:k<100000)(h2:0<many)(h3:many<100000):aw K CL Y [.scr ns,.int k,.int many]= .ok (.int (drawn ns k many)):=by
 unfold aw;refine(br rfl).trans ?_;have e0:aK gU [D.scr ns,.int k,.int many]=[some (.scr ns),some (.int k),some (.int many),none,none]:=rfl;rw[e0];unfold eC;have st1:= @A_ ns k;by_cases hz:ns.length=0
 ·have hd:decide (0<(ns.length:Int))=false:=decide_eq_false (by omega);have hc7:cellOf ns k=7:=if_pos hz;have e1:(7*48271+(k+1)*7919+(ns.length:Int)) % 2147483647=oh ns k:=by unfold oh;rw[hc7]
  simp (disch:=omega) only[aR,ql,hd,kx,qm,uR,e1];rfl
 ·have hd:decide (0<(ns.length:Int))=true:=decide_eq_true (by omega);have hix:=zy (k:=k) hz;have e1:(cellOf ns k*48271+(k+1)*7919+(ns.length:Int)) % 2147483647=oh ns k:=rfl;simp (disch:=omega) only[aR,ql,hd,kx,qm,uR,Ch hix,e1];rfl
theorem Ep {k:Int}(h:0≤k∧k<2):∃v:Int,(v=4∨v=20)∧aH (.lst [.int 4,.int 20]) (.int k)= .ok (.int v):=by
 rcases (show k=0∨k=1 by omega) with rfl|rfl
 ·exact⟨4,.inl rfl,uS⟩
 ·exact⟨20,.inr rfl,uT⟩
theorem Er {k:Int}(h:0≤k∧k<3):∃v:Int,1≤v∧v≤61∧aH (.lst [.int 1,.int 9,.int 61]) (.int k)= .ok (.int v):=by
 rcases (show k=0∨k=1∨k=2 by omega) with rfl|rfl|rfl
 ·exact⟨1,by omega,by omega,uS⟩
 ·exact⟨9,by omega,by omega,uT⟩
 ·exact⟨61,by omega,by omega,nr (jU (by decide) rfl)⟩
structure GoodLine (rs:List Int)(g:Int):Prop where
 one:1≤rs.length
 few:rs.length≤5
 run:∀r∈rs,1≤r∧r≤20
 gap:0≤g∧g≤5
theorem wo {ns:List Int}{base:Int}(h0:0≤base)(h1:base<1000):∃rs g,GoodLine rs g∧cr K CL Y [.scr ns,.int base]= .ok (.tup [.lst (rs.map D.int),.int g]):=by
 have b1:=eP (ns:=ns) (k:=base) (many:=5) (by omega);obtain⟨m,em⟩:∃m:Nat,1+drawn ns base 5=(m:Int):=⟨(1+drawn ns base 5).toNat,by omega⟩;obtain⟨v,hv,ev⟩:=Ep (eP (ns:=ns) (k:=base+1) (many:=2) (by omega));refine⟨(List.range m).map fun (i:Nat)=>1+drawn ns (base+2+(i:Int)) v,drawn ns (base+8) 6,⟨by rw[length_map,length_range];omega,by rw[length_map,length_range];omega,fun r hr=>?_,?_⟩,?_⟩
 ·obtain⟨i,_,rfl⟩:=mem_map.mp hr;have:=eP (ns:=ns) (k:=base+2+(i:Int)) (many:=v) (by omega);omega
 ·have:=eP (ns:=ns) (k:=base+8) (many:=6) (by omega);omega
 ·unfold cr;refine(br rfl).trans ?_;have e0:aK df [D.scr ns,.int base]=[some (.scr ns),some (.int base),none,none]:=rfl;rw[e0];unfold da;have d1:=cH (K:=K) (CL:=CL) (Y:=Y) (ns:=ns) (k:=base) (many:=5) (by omega) (by omega) (by omega) (by omega);have d2:=cH (K:=K) (CL:=CL) (Y:=Y) (ns:=ns) (k:=base+1) (many:=2) (by omega) (by omega) (by omega) (by omega);have d3:=cH (K:=K) (CL:=CL) (Y:=Y) (ns:=ns) (k:=base+8) (many:=6) (by omega) (by omega) (by omega) (by omega);simp only[aR,d1,em];rw[bM (xs:=List.range m) (c:=fun (i:Nat)=>D.int (i:Int)) (g:=fun (i:Nat)=>D.int (1+drawn ns (base+2+(i:Int)) v)) (by simp only[aR,dZ (show m<1000000 by omega)]) (by rw[length_range];omega) (fun i hi=>⟨_,rfl,?_⟩)]
  ·simp only[aR,d3,map_map];rfl
  ·have hi:=mem_range.mp hi;have d4:=cH (K:=K) (CL:=CL) (Y:=Y) (ns:=ns) (k:=base+2+(i:Int)) (many:=v) (by omega) (by omega) (by omega) (by omega);have ec:eA [none,some 0,some 1] [some (D.scr ns),some (D.int base),some (D.int (m:Int)),none]=[none,some (.scr ns),some (.int base)]:=rfl;rw[ec];simp only[aR,d2,ev,d4]
end
set_option maxHeartbeats 1000000
section
variable{K:W.Frag}{CL:Addr}{Y:Ad}
noncomputable abbrev Tr:=Nat×Nat×Int
noncomputable def a8 (t:Tr):D:=.tup [.int t.1,.int t.2.1,.int t.2.2]
structure Good (n:Nat)(t:Tr):Prop where
 a:t.1≤n
 b:t.2.1≤n
 ne:t.1≠t.2.1
 r:0≤t.2.2∧t.2.2≤60
noncomputable def aO (t:Tr):List Nat:=if t.1<t.2.1 then (List.range (t.2.1-t.1)).map (t.1 + ·) else ((List.range (t.1-t.2.1)).map (t.2.1 + ·)).reverse
noncomputable def au (l:List Nat):List D:=l.map fun (i:Nat)=>D.int (i:Int)
theorem fY {n:Nat}{t:Tr}(g:Good n t):∀s∈aO t,s<n:=by
 intro s hs;have:=g.a;have:=g.b;unfold aO at hs;split at hs
 ·obtain⟨i,hi,rfl⟩:=mem_map.mp hs;have:=mem_range.mp hi;omega
 ·obtain⟨i,hi,rfl⟩:=mem_map.mp (List.mem_reverse.mp hs);have:=mem_range.mp hi;omega
theorem fO {t:Tr}:(aO t).Nodup:=by
 have go:∀a n:Nat,((List.range n).map (a + ·)).Nodup:=fun a n=>by
  refine List.Pairwise.map _ (fun x y h=>?_) (nodup_range (n:=n));intro z;exact h (by omega)
 unfold aO;split
 ·exact go _ _
 ·exact(List.pairwise_reverse.mpr ((go _ _).imp fun h z=>h z.symm))
theorem fN {n:Nat}{t:Tr}(g:Good n t):(aO t).length≤n:=by
 have:=g.a;have:=g.b;unfold aO;split
 ·rw[length_map,length_range];omega
 ·rw[length_reverse,length_map,length_range];omega
theorem zg {n:Nat}{t:Tr}(g:Good n t):0<(aO t).length:=by
 have:=g.a;have:=g.b;have:=g.ne;unfold aO;split
 ·rw[length_map,length_range];omega
 ·rw[length_reverse,length_map,length_range];omega
theorem kY {a b:Nat}:me (a:Int) ((b:Int)-(a:Int)).toNat=au ((List.range (b-a)).map (a + ·)):=by
 unfold me au;have e:((b:Int)-(a:Int)).toNat=b-a:=by omega
 rw[e,map_map];refine map_congr_left fun i _=>?_;show D.int ((a:Int)+(i:Int))=D.int (((a+i:Nat)):Int);congr 1
theorem sO {a b:Nat}(h:b<a):qR ((a:Int)-1) (((a:Int)-1)-((b:Int)-1)).toNat=au ((List.range (a-b)).map (b + ·)).reverse:=by
 have e:(((a:Int)-1)-((b:Int)-1)).toNat=a-b:=by omega
 unfold qR au;rw[e];apply ext_getElem
 ·simp
 ·intro i h1 h2;simp only[length_map,length_range,length_reverse]at h1 h2;simp only[List.getElem_map,List.getElem_range,List.getElem_reverse,length_map,length_range];congr 1;omega
theorem jA {n:Nat}{t:Tr}(g:Good n t)(hn:n≤1000):aS K CL Y [a8 t]= .ok (.lst (au (aO t))):=by
 have ha:=g.a;have hb:=g.b;obtain⟨a,b,r⟩:=t;unfold aS;refine(br rfl).trans ?_;have e0:aK fg [a8 (a,b,r)]=[some (.tup [.int a,.int b,.int r])]:=rfl;rw[e0];unfold gQ;have cp:∀x y:Nat,x≤1000→y≤1000→∀ρ:DS,(sR2 (pC (kI x) (pC (kI y) pN))) ρ= .ok (au ((List.range (y-x)).map (x + ·))):=fun x y hx hy ρ=>by
  simp only[aR,mr (show -1000000≤(x:Int) by omega) (show (x:Int)<1000000 by omega) (show -1000000≤(y:Int) by omega) (show (y:Int)<1000000 by omega),kY]
 simp only[aR];dsimp only at ha hb;by_cases hab:a<b
 ·have e1:decide ((a:Int)<(b:Int))=true:=decide_eq_true (by omega);simp only[aR,e1];rw[bM (xs:=(List.range (b-a)).map (a + ·)) (c:=fun (i:Nat)=>D.int (i:Int)) (g:=fun (i:Nat)=>D.int (i:Int)) (by
   simp only[aR,mr (show -1000000≤(a:Int) by omega) (show (a:Int)<1000000 by omega) (show -1000000≤(b:Int) by omega) (show (b:Int)<1000000 by omega),kY];rfl) (by rw[length_map,length_range];omega) (fun i hi=>⟨_,rfl,rfl⟩)]
  simp only[aR];unfold aO;rw[if_pos (show (a,b,r).1<(a,b,r).2.1 from hab)];rfl
 ·have e1:decide ((a:Int)<(b:Int))=false:=decide_eq_false (by omega);simp only[aR,e1];rw[bM (xs:=(List.range (a-b)).map (b + ·)) (c:=fun (i:Nat)=>D.int (i:Int)) (g:=fun (i:Nat)=>D.int (i:Int)) (by
   simp only[aR,mr (show -1000000≤(b:Int) by omega) (show (b:Int)<1000000 by omega) (show -1000000≤(a:Int) by omega) (show (a:Int)<1000000 by omega),kY];rfl) (by rw[length_map,length_range];omega) (fun i hi=>⟨_,rfl,rfl⟩)]
  simp only[aR];have e2:∀l:List D,sM (.lst l) (.int (-1))= .ok (.lst l.reverse):=fun l=>by unfold sM;rfl
  simp only[aR,e2];unfold aO au;rw[if_neg (show ¬(a,b,r).1<(a,b,r).2.1 from hab),List.map_reverse]
theorem CO {n s d:Nat}(hs:s≤n)(hd:d<n):(s+1+d) % (n+1)≠s:=by
 by_cases h:s+1+d<n+1
 ·rw[Nat.mod_eq_of_lt h];omega
 ·have:(s+1+d) % (n+1)=s+1+d-(n+1):=by
   rw[Nat.mod_eq_sub_mod (by omega),Nat.mod_eq_of_lt (by omega)]
  omega
theorem kb {base:Int}{i:Nat}(c:Int)(h0:0≤base)(h1:base<1000)(hi:i<5)(hc:0≤c∧c≤40):0≤base+c+5*(i:Int)∧base+c+5*(i:Int)<2000:=by omega
theorem sX {ns:List Int}{base most:Int}{n:Nat}(h0:0≤base)(h1:base<1000)(hn:1≤n)(hn5:n≤5)(hm:1≤most)(hm5:most≤5) :
  ∃ts:List Tr,(ts.length:Int)=1+drawn ns base most∧(∀t∈ts,Good n t)∧bD K CL Y [.scr ns,.int base,.int n,.int most]= .ok (.lst (ts.map a8)):=by
 have b1:=eP (ns:=ns) (k:=base) (many:=most) (by omega);obtain⟨m,em⟩:∃m:Nat,1+drawn ns base most=(m:Int):=⟨(1+drawn ns base most).toNat,by omega⟩;have dr:∀k many:Int,0≤k→k<2000→0<many→many<1000→∃a:Nat,(a:Int)=drawn ns k many∧(a:Int)<many∧aw K CL Y [.scr ns,.int k,.int many]= .ok (.int (a:Int)):=fun k many k0 k1 m0 m1=>by
  have:=eP (ns:=ns) (k:=k) (many:=many) m0;refine⟨(drawn ns k many).toNat,by omega,by omega,?_⟩;rw[Int.toNat_of_nonneg this.1];exact cH k0 (by omega) m0 (by omega)
 suffices goal:∃d,bD K CL Y [.scr ns,.int base,.int n,.int most]= .ok d∧∃ts:List Tr,d= .lst (ts.map a8)∧ts.length=m∧∀t∈ts,Good n t by
  obtain⟨_,e,ts,rfl,hl,hg⟩:=goal;exact⟨ts,by omega,hg,e⟩
 have n1:0<(n:Int)+1:=by omega
 have n2:(n:Int)+1<1000:=by omega
 have n3:0<(n:Int):=by omega
 have n4:(n:Int)<1000:=by omega
 have b40:0≤base+40∧base+40<2000:=by omega
 unfold bD;rw [show iJ 4 bW (bB K CL Y) [D.scr ns,D.int base,D.int n,D.int most]=fG (bB K CL Y (aK bW [D.scr ns,D.int base,D.int n,D.int most])) from br rfl];have e0:aK bW [D.scr ns,.int base,.int n,.int most]=[some (.scr ns),some (.int base),some (.int n),some (.int most),none,none,none,none]:=rfl;rw [e0];unfold bB;have d1:=cH (K:=K) (CL:=CL) (Y:=Y) (ns:=ns) (k:=base) (many:=most) (by omega) (by omega) (by omega) (by omega);simp only [aR,d1,em,dZ (show m < 1000000 by omega)];refine v6 (fun rem ρ=>∃ ts:List Tr,ts.length+rem.length=m∧(∀ t∈ts,Good n t)∧∃ o5 o6 o7,ρ=[some (.scr ns),some (.int base),some (.int n),some (.int most),some (.lst (ts.map a8)),o5,o6,o7]∧∀ d∈rem,∃ i:Nat,i < m∧d= .int i)
  ⟨[],by simp,fun _ h=>(by cases h),none,none,none,rfl,fun d hd=>?_⟩ (fun d ds ρ ⟨ts,hl,hg,o5,o6,o7,e,hd⟩=>?_) (fun M ⟨ts,hl,hg,o5,o6,o7,e,_⟩=>?_)
 ·obtain⟨i,hi,rfl⟩:=mem_map.mp hd;exact⟨i,mem_range.mp hi,rfl⟩
 ·subst e;obtain⟨i,hi,rfl⟩:=hd d (mem_cons_self ..);rw[length_cons]at hl;have f:i<5:=by omega
  obtain⟨s,_,hs,es⟩:=dr (base+1+5*(i:Int)) ((n:Int)+1) (kb 1 h0 h1 f (by decide)).1 (kb 1 h0 h1 f (by decide)).2 n1 n2;obtain⟨x,_,hx,ex⟩:=dr (base+2+5*(i:Int)) (n:Int) (kb 2 h0 h1 f (by decide)).1 (kb 2 h0 h1 f (by decide)).2 n3 n4;obtain⟨c,_,hc,ec⟩:=dr (base+3+5*(i:Int)) 3 (kb 3 h0 h1 f (by decide)).1 (kb 3 h0 h1 f (by decide)).2 (by decide) (by decide);obtain⟨y,_,hy,ey⟩:=dr (base+4+5*(i:Int)) 2 (kb 4 h0 h1 f (by decide)).1 (kb 4 h0 h1 f (by decide)).2 (by decide) (by decide);obtain⟨z,_,hz,ez⟩:=dr (base+40) 3 b40.1 b40.2 (by decide) (by decide);obtain⟨v,v0,v1,ev⟩:=Er (k:=(z:Int)) ⟨Int.natCast_nonneg z,hz⟩;obtain⟨r,_,hr,er⟩:=dr (base+5+5*(i:Int)) v (kb 5 h0 h1 f (by decide)).1 (kb 5 h0 h1 f (by decide)).2 v0 (Int.lt_of_le_of_lt v1 (by decide));have r60:0≤(r:Int)∧(r:Int)≤60:=⟨Int.natCast_nonneg r,by omega⟩;have sn:s≤n:=by omega
  have xn:x<n:=by omega
  have eg:((s:Int)+1+(x:Int)) % ((n:Int)+1)=(((s+1+x) % (n+1):Nat):Int):=by push_cast;rfl
  have g1:Good n (s,(s+1+x) % (n+1),(r:Int)):=⟨sn,Nat.le_of_lt_succ (Nat.mod_lt (s+1+x) (Nat.succ_pos n)),fun h=>CO sn xn h.symm,r60⟩;have step:∀(a b:Nat) (o:Option D),Good n (a,b,(r:Int))→∃M,kg 4 (bJ aZ (cS (pC (ac 6) (pC (ac 7) (pC (bf (pC (ac 0) (pC (ae (ae (ac 1) (kI 5) aU) (ae (kI 5) (ac 5) fF) aU) (pC (ae (dM (pC (kI 1) (pC (kI 9) (pC (kI 61) pN)))) (bf (pC (ac 0) (pC (ae (ac 1) (kI 40) aU) (pC (kI 3) pN))) (aw K CL Y)) aH) pN))) (aw K CL Y)) pN)))))
    [some (.scr ns),some (.int base),some (.int n),some (.int most),some (.lst (ts.map a8)),some (.int i),some (.int a),some (.int b)]= .nx M∧M=[some (.scr ns),some (.int base),some (.int n),some (.int most),some (.lst ((ts ++ [(a,b,(r:Int))]).map a8)),some (.int i),some (.int a),some (.int b)]:=fun a b o g=>by
   refine⟨_,tM (l:=ts.map a8) (d:=a8 (a,b,(r:Int))) rfl ?_ (by rw[length_map];omega),?_⟩
   ·simp (disch:=omega) only[aR,ku,ez,ev,er];rfl
   ·rw[map_append];rfl
  have hd':∀x∈ds,∃i:Nat,i<m∧x= .int i:=fun x hx=>hd x (eB hx);have fin:∀(a b:Nat),Good n (a,b,(r:Int))→∃ts':List Tr,ts'.length+ds.length=m∧(∀t∈ts',Good n t)∧∃o5 o6 o7,[some (D.scr ns),some (.int base),some (.int n),some (.int most),some (.lst ((ts ++ [(a,b,(r:Int))]).map a8)),some (.int i),some (.int a),some (.int b)]=[some (.scr ns),some (.int base),some (.int n),some (.int most),some (.lst (ts'.map a8)),o5,o6,o7]∧∀d∈ds,∃i:Nat,i<m∧d= .int i:=fun a b g=>
   ⟨ts ++ [(a,b,(r:Int))],by rw[length_append];simp;omega,fun t ht=>by
    rcases mem_append.mp ht with h|h
    ·exact hg t h
    ·rw[mem_singleton.mp h];exact g,_,_,_,rfl,hd'⟩
  by_cases hc1:c=1
  ·have e1:((c:Int)==1)=true:=by rw[hc1];rfl
   have g2:Good n (y*n,n-y*n,(r:Int)):=by
    have:y=0∨y=1:=by omega
    rcases this with rfl|rfl
    ·exact⟨by simp,by simp,by simp;omega,r60⟩
    ·exact⟨by simp,by simp,by simp;omega,r60⟩
   have e2:(y:Int)*(n:Int)=((y*n:Nat):Int):=by push_cast;rfl
   have e3:(n:Int)-((y*n:Nat):Int)=((n-y*n:Nat):Int):=by have:=g2.a;dsimp only at this;omega
   obtain⟨M,h1,h2⟩:=step (y*n) (n-y*n) none g2;refine⟨_,M,rfl,?_,by rw[h2];exact fin _ _ g2⟩;simp (disch:=omega) only[aR,ku,es,ex,ec,ey,eg,e1,kx,e2,e3,qm];exact h1
  ·have e1:((c:Int)==1)=false:=beq_eq_false_iff_ne.mpr (by omega);obtain⟨M,h1,h2⟩:=step s ((s+1+x) % (n+1)) none g1;refine⟨_,M,rfl,?_,by rw[h2];exact fin _ _ g1⟩;simp (disch:=omega) only[aR,ku,es,ex,ec,eg,e1,qm];exact h1
 ·subst e;refine⟨_,rfl,ts,rfl,hl,hg⟩
end
set_option maxHeartbeats 1000000
section
variable{K:W.Frag}{CL:Addr}{Y:Ad}
noncomputable def aF (CL:Addr)(rs:List Int)(g:Int):D:=.ins CL ["minutes","gap"] [.tup (rs.map D.int),.int g]
theorem lJ {rs:List Int}{g:Int}:jc CL [aF CL rs g]= .ok (.lst (rs.map D.int)):=by
 unfold jc aF kz;dsimp only;rw[if_pos rfl];rfl
theorem tI {rs:List Int}{g:Int}:j5 CL [aF CL rs g]= .ok (.int g):=by
 unfold j5 aF kz;dsimp only;rw[if_pos rfl];have:r6 ["minutes","gap"] [.tup (rs.map D.int),.int g] "gap" =some (.int g):=by
  unfold r6;rw[if_neg (by decide +kernel)];unfold r6;rw[if_pos rfl]
 rw[this]
theorem xT {rs:List Int}{g:Int}{m:Str}(h:(["minutes","gap"]:List Str).contains m=false):lS CL m (aF CL rs g)=true:=by
 unfold lS aF;dsimp only;rw[h];simp
theorem E0 {rs:List Int}{g:Int}:lS CL "runs" (aF CL rs g)=true:=xT (by decide +kernel)
theorem FA {rs:List Int}{g:Int}:lS CL "clear" (aF CL rs g)=true:=xT (by decide +kernel)
theorem Ah {rs:List Int}{g:Int}(h:GoodLine rs g):jQ K CL Y [.lst (rs.map D.int),.int g]= .ok (aF CL rs g):=by
 have e:bx K CL Y [.lst (rs.map D.int),.int g]= .ok .non:=by
  unfold bx;refine(br rfl).trans ?_;have e0:aK gX [D.lst (rs.map D.int),.int g]=[some (.lst (rs.map D.int)),some (.int g),none]:=rfl;rw[e0];unfold eI;have h1:=h.one;have h2:=h.few;have h3:=h.gap;have q1:decide (1≤(rs.length:Int))=true:=decide_eq_true (by omega);have q2:decide ((rs.length:Int)≤5)=true:=decide_eq_true (by omega);simp only[aR,q1,q2];refine rY (fun rem ρ=>(∀d∈rem,∃r:Int,(1≤r∧r≤20)∧d= .int r)∧∃o,ρ=[some (.lst (rs.map D.int)),some (.int g),o]) ⟨fun d hd=>?_,none,rfl⟩ (fun d ds ρ hZ171=>?_) (fun ρ' hZ172=>?_)
  ·obtain⟨r,hr,rfl⟩:=mem_map.mp hd;exact⟨r,h.run r hr,rfl⟩
  ·obtain⟨hd,o,e⟩:=hZ171;subst e;obtain⟨r,hr,rfl⟩:=hd d (mem_cons_self ..);refine⟨_,_,rfl,?_,fun x hx=>hd x (eB hx),some (.int r),rfl⟩;have q3:decide (1≤r)=true:=decide_eq_true hr.1;have q4:decide (r≤20)=true:=decide_eq_true hr.2;simp only[aR,q3,q4]
  ·obtain⟨_,o,e⟩:=hZ172;subst e;have q3:decide (0≤g)=true:=decide_eq_true h3.1;have q4:decide (g≤5)=true:=decide_eq_true h3.2;simp only[aR,q3,q4]
 unfold jQ;dsimp only;rw[e,av];rfl
theorem oC {rs:List Int}{g:Int}{t:Tr}(h:Good rs.length t):cf K CL Y [aF CL rs g,a8 t]= .ok .non:=by
 obtain⟨a,b,r⟩:=t;have ha:=h.a;have hb:=h.b;have hr:=h.r;have hn:=h.ne;dsimp only at ha hb hr hn;unfold cf;refine(br rfl).trans ?_;have e0:aK f7 [aF CL rs g,a8 (a,b,r)]=[some (aF CL rs g),some (.tup [.int a,.int b,.int r]),none,none,none]:=rfl;rw[e0];unfold dS;have e3:((3:Int)==3)=true:=rfl;simp only[aR,E0,lJ,e3];refine rY (fun rem ρ=>(∀d∈rem,∃i:Nat,i≤rs.length∧d= .int i)∧∃o,ρ=[some (aF CL rs g),some (.tup [.int a,.int b,.int r]),some (.int rs.length),o,none]) ⟨fun d hd=>?_,none,rfl⟩ (fun d ds ρ hZ173=>?_) (fun ρ' hZ174=>?_)
 ·rcases mem_cons.mp hd with rfl|hd
  ·exact⟨a,ha,rfl⟩
  ·rw[mem_singleton.mp hd];exact⟨b,hb,rfl⟩
 ·obtain⟨hd,o,e⟩:=hZ173;subst e;obtain⟨i,hi,rfl⟩:=hd d (mem_cons_self ..);refine⟨_,_,rfl,?_,fun x hx=>hd x (eB hx),some (.int i),rfl⟩;have q3:decide (0≤(i:Int))=true:=decide_eq_true (by omega);have q4:decide ((i:Int)≤(rs.length:Int))=true:=decide_eq_true (by omega);simp only[aR,q3,q4]
 ·obtain⟨_,o,e⟩:=hZ174;subst e;have q2:((a:Int)==(b:Int))=false:=beq_eq_false_iff_ne.mpr (by omega);have q3:decide (0≤r)=true:=decide_eq_true hr.1;have q4:decide (r≤60)=true:=decide_eq_true hr.2;simp only[aR,q2,q3,q4]
theorem Dt {rs:List Int}{g:Int}{t:Tr}(h:Good rs.length t)(hn:rs.length≤1000):sj K CL Y [aF CL rs g,a8 t]= .ok (.lst (au (aO t))):=by
 have e1:=oC (K:=K) (CL:=CL) (Y:=Y) (g:=g) h;obtain⟨a,b,r⟩:=t;have ha:=h.a;have hb:=h.b;have hne:=h.ne;dsimp only at ha hb hne;unfold sj;refine(br rfl).trans ?_;have e0:aK w_ [aF CL rs g,a8 (a,b,r)]=[some (aF CL rs g),some (.tup [.int a,.int b,.int r]),none,none]:=rfl;rw[e0];unfold uH;have e1':cf K CL Y [aF CL rs g,.tup [.int a,.int b,.int r]]= .ok .non:=e1;simp only[aR,e1'];by_cases hab:a<b
 ·have q1:decide ((a:Int)<(b:Int))=true:=decide_eq_true (by omega);have q2:pE [.int (a:Int),.int (b:Int)]= .ok (.lst (au ((List.range (b-a)).map (a + ·)))):=by
   unfold pE;dsimp only;rw[if_pos,kY];unfold iL;simp only[and_eq_true,decide_eq_true_eq];refine⟨⟨by omega,by omega⟩,cI (by omega)⟩
  simp only[aR,q1,q2];unfold aO;rw[if_pos (show (a,b,r).1<(a,b,r).2.1 from hab)]
 ·have q1:decide ((a:Int)<(b:Int))=false:=decide_eq_false (by omega);have q2:pF [.int ((a:Int)-1),.int ((b:Int)-1),.int (-1)]= .ok (.lst (au ((List.range (a-b)).map (b + ·)).reverse)):=by
   unfold pF;dsimp only;rw[if_pos,sO (by omega)];unfold iL;simp only[and_eq_true,decide_eq_true_eq];refine⟨⟨⟨by omega,by omega⟩,cI (by omega)⟩,trivial⟩
  simp only[aR,q1,q2];unfold aO;rw[if_neg (show ¬(a,b,r).1<(a,b,r).2.1 from hab)]
theorem vH {rs:List Int}{g:Int}{ts:List Tr}(h:∀t∈ts,Good rs.length t)(hn:rs.length≤1000)(h1:1≤ts.length)(h2:ts.length≤5):gk K CL Y [aF CL rs g,.lst (ts.map a8)]= .ok (.lst (ts.map fun t=>.lst (au (aO t)))):=by
 unfold gk;refine(br rfl).trans ?_;have e0:aK pX [aF CL rs g,.lst (ts.map a8)]=[some (aF CL rs g),some (.lst (ts.map a8))]:=rfl;rw[e0];unfold pW;have q1:decide (1≤(ts.length:Int))=true:=decide_eq_true (by omega);have q2:decide ((ts.length:Int)≤5)=true:=decide_eq_true (by omega);simp only[aR,q1,q2];rw[bM (xs:=ts) (c:=a8) (g:=fun t=>.lst (au (aO t))) rfl (by omega) (fun t ht=>⟨_,rfl,?_⟩)]
 ·simp only[aR]
 ·have ec:eA [none,some 0] [some (aF CL rs g),some (.lst (ts.map a8))]=[none,some (aF CL rs g)]:=rfl;rw[ec];simp only[aR,Dt (K:=K) (CL:=CL) (Y:=Y) (g:=g) (h t ht) hn]
end
set_option maxHeartbeats 1000000
noncomputable def wZ (b:Int)(l:List Int):Int:=l.foldl max b
theorem jd:∀(l:List Int) (b:Int),(b≤wZ b l∧∀e∈l,e≤wZ b l)∧(wZ b l=b∨wZ b l∈l)
 | [],b=>⟨⟨Int.le_refl _,fun _ h=>by cases h⟩,.inl rfl⟩
 |a::l,b=>by
  obtain⟨⟨h1,h2⟩,h3⟩:=jd l (max b a);have e:wZ b (a::l)=wZ (max b a) l:=rfl;rw[e];refine⟨⟨by omega,fun x hx=>?_⟩,?_⟩
  ·rcases mem_cons.mp hx with rfl|hx
   ·omega
   ·exact h2 x hx
  ·rcases h3 with h|h
   ·rcases (show max b a=b∨max b a=a by omega) with z|z
    ·exact .inl (h.trans z)
    ·exact .inr (by rw[h,z];exact mem_cons_self ..)
   ·exact .inr (eB h)
theorem CP {b v:Int}{l:List Int}(h1:b≤v)(h2:∀e∈l,e≤v)(h3:v=b∨v∈l):wZ b l=v:=by
 obtain⟨⟨a1,a2⟩,a3⟩:=jd l b;have l1:wZ b l≤v:=by
  rcases a3 with z|z
  ·omega
  ·exact h2 _ z
 have l2:v≤wZ b l:=by
  rcases h3 with z|z
  ·omega
  ·exact a2 _ z
 omega
noncomputable abbrev Pl:=List (List Int)
noncomputable abbrev Q:=Tr×Nat
theorem mem_zip {α:Type}{l:List α}{q:α×Nat}:q∈l.zipIdx↔l[q.2]?=some q.1:=by
 rw[List.mem_zipIdx_iff_getElem?]
theorem getD_mem {α:Type}{l:List α}{i:Nat}{d:α}(h:i<l.length):l.getD i d∈l:=by
 rw[getD_eq_getElem?_getD,iN h];exact getElem_mem h
theorem qI {ts:List Tr}{f:Q→Bool}:(ts.zipIdx.filter f).Pairwise fun a b=>a.2≠b.2:=by
 refine List.Pairwise.filter _ ?_;have:(ts.zipIdx.map Prod.snd).Nodup:=by rw[List.zipIdx_map_snd];exact List.nodup_range'
 exact pairwise_map.mp this
set_option maxHeartbeats 1000000
section
variable{K:W.Frag}{CL:Addr}{Y:Ad}
noncomputable def cR (r:List Int):D:=.lst (r.map D.int)
noncomputable def bO (t:Tr):D:=.lst (au (aO t))
theorem Ai {a b:Nat}:((a:Int)==(b:Int))=(a==b):=by
 by_cases h:a=b
 ·subst h;simp
 ·rw[beq_eq_false_iff_ne.mpr h,beq_eq_false_iff_ne.mpr (by omega)]
theorem ky {l:List D}:Do (.lst l)= .ok (!l.isEmpty):=id rfl
structure Ctx (rs:List Int)(g:Int)(ts:List Tr):Prop where
 ln:GoodLine rs g
 tr:∀t∈ts,Good rs.length t
 few:ts.length≤5
 one:1≤ts.length
theorem Ctx.good {rs:List Int}{g:Int}{ts:List Tr}{q:Q}(C:Ctx rs g ts)(hq:q∈ts.zipIdx):Good rs.length q.1:=C.tr _ (mem_of_getElem? (mem_zip.mp hq))
theorem qT {rs:List Int}{g:Int}(h:GoodLine rs g){s:Nat}(hs:s<rs.length):1≤rs.getD s 0∧rs.getD s 0≤20:=h.run _ (getD_mem hs)
theorem u8 {w:List Nat}{i:Nat}{v:Nat}(h:w[i]?=some v):aH (.lst (au w)) (.int (i:Int))= .ok (.int (v:Int)):=bR h
theorem eQ {α:Type}{l:List α}{i:Nat}{d:α}(h:i<l.length):l[i]?=some (l.getD i d):=by
 rw[getD_eq_getElem?_getD,iN h];rfl
end
set_option maxHeartbeats 1000000
section
variable{K:W.Frag}{CL:Addr}{Y:Ad}
end
set_option maxHeartbeats 1000000
noncomputable abbrev Vt:=Nat×Nat
section
variable(vs:List Vt)(W:Vt→List (Vt×Int))(ready:Vt→Int)
noncomputable def cc (turn:List Vt):List Vt:=vs.filter fun v=> !turn.contains v&&((W v).all fun u=>turn.contains u.1)
noncomputable def bK:Nat→List Vt→List Vt
 |0,t=>t
 |n+1,t=>if cc vs W t=[] then t else bK n (t ++ cc vs W t)
structure Turn (t:List Vt):Prop where
 nd:t.Nodup
 sub:∀v∈t,v∈vs
 top:∀a v b,t=a ++ v::b→∀u∈W v,u.1∈a
noncomputable def BB (e:Vt→Int)(v:Vt):Vt→Int:=fun x=>if x=v then wZ (ready v) ((W v).map fun u=>e u.1+u.2) else e x
noncomputable def gI (t:List Vt):Vt→Int:=t.foldl (BB W ready) (fun _=>0)
end
theorem A6 {α:Type}{P:List α→Prop}(h0:P [])(h1:∀t x,P t→P (t ++ [x]))(l:List α):P l:=by
 have h:∀r:List α,P r.reverse:=fun r=>by
  induction r with
  |nil=>exact h0
  |cons x r ih=>rw[reverse_cons];exact h1 _ _ ih
 have:=h l.reverse;rwa[List.reverse_reverse]at this
theorem bo {α:Type}[DecidableEq α]:∀{t vs:List α},t.Nodup→(∀v∈t,v∈vs)→t.length≤vs.length
 | [],_,_,_=>zero_le _
 |a::t,vs,nd,h=>by
  obtain⟨n1,n2⟩:=nodup_cons.mp nd;have ha:=h a (mem_cons_self ..);have ih:=bo (vs:=vs.erase a) n2 fun v hv=>(List.mem_erase_of_ne (fun (e:v=a)=>n1 (e ▸ hv))).mpr (h v (eB hv));rw[List.length_erase_of_mem ha]at ih;have:=List.length_pos_of_mem ha;rw[length_cons];omega
section
variable{vs:List Vt}{W:Vt→List (Vt×Int)}{ready:Vt→Int}
theorem mem_freed {t:List Vt}{v:Vt}:v∈cc vs W t↔v∈vs∧v∉t∧∀u∈W v,u.1∈t:=by
 unfold cc;rw[mem_filter,and_eq_true,all_eq_true];simp
theorem sY:Turn vs W [] where
 nd:=nodup_nil
 sub:=fun v h=>nomatch h
 top:=fun a v b e=>by cases a <;> cases e
theorem wR {α:Type}{t f a b:List α}{v:α}(e:t ++ f=a ++ v::b):(∃c,t=a ++ v::c)∨∃c,a=t ++ c∧f=c ++ v::b:=by
 rcases List.append_eq_append_iff.mp e with ⟨c,h1,h2⟩|⟨c,h1,h2⟩
 ·exact .inr ⟨c,h1,h2⟩
 ·cases c with
  |nil=>exact .inr ⟨[],by simpa using h1.symm,by simpa using h2.symm⟩
  |cons x c=>
   simp at h2;obtain⟨rfl,h3⟩:=h2;exact .inl ⟨c,h1⟩
theorem pT {t:List Vt}(hv:vs.Nodup)(h:Turn vs W t):Turn vs W (t ++ cc vs W t):=by
 refine⟨nodup_append.mpr ⟨h.nd,hv.filter _,fun a ha b hb e=>?_⟩,fun v m=>?_,fun a v b e u hu=>?_⟩
 ·subst e;exact(mem_freed.mp hb).2.1 ha
 ·rcases mem_append.mp m with z|z
  ·exact h.sub v z
  ·exact(mem_freed.mp z).1
 ·rcases wR e with ⟨c,z⟩|⟨c,z1,z2⟩
  ·exact h.top a v c z u hu
  ·rw[z1];exact mem_append_left _ ((mem_freed.mp (by rw[z2];exact mem_append_right _ (mem_cons_self ..))).2.2 u hu)
theorem pk (hv:vs.Nodup):∀(n:Nat) (t:List Vt),Turn vs W t→vs.length<n+t.length→Turn vs W (bK vs W n t)∧cc vs W (bK vs W n t)=[]
 |0,t,h,hl=>by have:=bo h.nd h.sub;omega
 |n+1,t,h,hl=>by
  unfold bK;by_cases e:cc vs W t=[]
  ·rw[if_pos e];exact⟨h,e⟩
  ·rw[if_neg e];refine pk hv n _ (pT hv h) ?_;have:=length_pos_iff.mpr e;rw[length_append];omega
theorem Turn.pre {a b:List Vt}(h:Turn vs W (a ++ b)):Turn vs W a:=⟨(nodup_append.mp h.nd).1,fun v m=>h.sub v (mem_append_left _ m),fun x v y e u hu=>h.top x v (y ++ b) (by rw[e];simp) u hu⟩
theorem nE {t:List Vt}{v:Vt}:gI W ready (t ++ [v])=BB W ready (gI W ready t) v:=by unfold gI;rw[List.foldl_append];rfl
theorem qE:∀{t:List Vt},Turn vs W t→∀v∈t,gI W ready t v=wZ (ready v) ((W v).map fun u=>gI W ready t u.1+u.2):=by
 intro t
 induction t using A6 with
 |h0=>intro _ v m;cases m
 |h1 t x ih=>
  intro h v m;have hx:x∉t:=fun z=>(nodup_append.mp h.nd).2.2 x z x (List.mem_singleton_self x) rfl;have wx:∀u∈W x,u.1∈t:=fun u hu=>h.top t x [] rfl u hu;have same:∀y∈t,BB W ready (gI W ready t) x y=gI W ready t y:=fun y hy=>by unfold BB;rw[if_neg (fun (z:y=x)=>hx (z ▸ hy))]
  rw[nE];have key:∀y,(∀u∈W y,u.1∈t)→((W y).map fun u=>BB W ready (gI W ready t) x u.1+u.2)=(W y).map fun u=>gI W ready t u.1+u.2:=fun y hy=>map_congr_left fun u hu=>by rw[same u.1 (hy u hu)]
  rcases mem_append.mp m with z|z
  ·rw[same v z,ih h.pre v z];obtain⟨a,b,e⟩:=List.append_of_mem z;rw[key v fun u hu=>by rw[e];exact mem_append_left _ (h.pre.top a v b e u hu)]
  ·have e:=mem_singleton.mp z;subst e;rw[key v wx];unfold BB;rw[if_pos rfl]
theorem CK {t:List Vt}(h:Turn vs W t){v:Vt}(m:v∈t):ready v≤gI W ready t v:=by
 rw[qE h v m];exact(jd _ _).1.1
theorem CM {t:List Vt}(h:Turn vs W t){v:Vt}(m:v∈t){u:Vt×Int}(hu:u∈W v):gI W ready t u.1+u.2≤gI W ready t v:=by
 rw[qE h v m];exact(jd _ _).1.2 _ (List.mem_map_of_mem hu)
theorem wm {t:List Vt}(h:Turn vs W t){v:Vt}(m:v∈t):gI W ready t v=ready v∨∃u∈W v,gI W ready t v=gI W ready t u.1+u.2:=by
 rcases (jd ((W v).map fun u=>gI W ready t u.1+u.2) (ready v)).2 with z|z
 ·exact .inl ((qE h v m).trans z)
 ·obtain⟨u,hu,e⟩:=mem_map.mp z;exact .inr ⟨u,hu,(qE h v m).trans e.symm⟩
theorem uy {t:List Vt}(he:cc vs W t=[]){v:Vt}(hv:v∈vs)(nt:v∉t):∃u∈W v,u.1∉t:=by
 apply Classical.byContradiction;intro z;have:v∈cc vs W t:=mem_freed.mpr ⟨hv,nt,fun u hu=>by
  apply Classical.byContradiction;intro y;exact z ⟨u,hu,y⟩⟩
 rw[he]at this;cases this
end
set_option maxHeartbeats 1000000
noncomputable def ah (ts:List Tr):List Vt:=ts.zipIdx.flatMap fun q=>(aO q.1).map fun s=>(q.2,s)
theorem mem_visits {ts:List Tr}{v:Vt}:v∈ah ts↔∃t,ts[v.1]?=some t∧v.2∈aO t:=by
 unfold ah;rw[mem_flatMap];constructor
 ·intro hZ29;obtain⟨q,hq,h⟩:=hZ29;obtain⟨s,hs,e⟩:=mem_map.mp h;subst e;exact⟨q.1,mem_zip.mp hq,hs⟩
 ·intro hZ30;obtain⟨t,ht,h⟩:=hZ30;exact⟨(t,v.1),mem_zip.mpr ht,mem_map.mpr ⟨v.2,h,rfl⟩⟩
theorem bz {ts:List Tr}:(ah ts).Nodup:=by
 unfold ah;have h1:ts.zipIdx.Pairwise fun a b=>a.2≠b.2:=by
  have:=qI (ts:=ts) (f:=fun _=>true);rwa[List.filter_eq_self.mpr (fun _ _=>rfl)]at this
 rw[List.nodup_iff_pairwise_ne,List.pairwise_flatMap];refine⟨fun q _=>?_,h1.imp fun {a b} hab x hx y hy e=>?_⟩
 ·rw[←List.nodup_iff_pairwise_ne];exact List.Pairwise.map _ (fun a b (h:a≠b) e=>h (Prod.mk.inj e).2) (fO (t:=q.1))
 ·obtain⟨s,_,rfl⟩:=mem_map.mp hx;obtain⟨s',_,rfl⟩:=mem_map.mp hy;exact hab (Prod.mk.inj e).1
noncomputable def wP (rs:List Int)(ts:List Tr)(v:Vt):List (Vt×Int):=match ts[v.1]? with
 |some t=>((aO t).zip (aO t).tail).filterMap fun u=>if u.2=v.2 then some ((v.1,u.1),rs.getD u.1 0) else none
 |none=>[]
noncomputable def wO (rs:List Int)(g:Int)(O:List (List Nat))(v:Vt):List (Vt×Int):=((O.getD v.2 []).zip (O.getD v.2 []).tail).filterMap fun u=>if u.2=v.1 then some ((u.1,v.2),rs.getD v.2 0+g) else none
noncomputable def bZ (rs:List Int)(g:Int)(ts:List Tr)(O:List (List Nat))(v:Vt):List (Vt×Int):=wP rs ts v ++ wO rs g O v
noncomputable def jh (ts:List Tr)(v:Vt):Int:=match ts[v.1]? with|some t=>t.2.2|none=>0
theorem t9 {rs:List Int}{ts:List Tr}{v:Vt}{t:Tr}(ht:ts[v.1]?=some t){u:Vt×Int}:u∈wP rs ts v↔∃a,(a,v.2)∈(aO t).zip (aO t).tail∧u=((v.1,a),rs.getD a 0):=by
 unfold wP;rw[ht];dsimp only;rw[mem_filterMap];constructor
 ·intro hZ31;obtain⟨x,hx,e⟩:=hZ31;by_cases z:x.2=v.2
  ·rw[if_pos z]at e;cases e;exact⟨x.1,by rw[←z];exact hx,rfl⟩
  ·rw[if_neg z]at e;cases e
 ·intro hZ32;obtain⟨a,ha,e⟩:=hZ32;exact⟨(a,v.2),ha,by rw[if_pos rfl,e]⟩
theorem mem_wO {rs:List Int}{g:Int}{O:List (List Nat)}{v:Vt}{u:Vt×Int}:u∈wO rs g O v↔∃a,(a,v.1)∈(O.getD v.2 []).zip (O.getD v.2 []).tail∧u=((a,v.2),rs.getD v.2 0+g):=by
 unfold wO;rw[mem_filterMap];constructor
 ·intro hZ33;obtain⟨x,hx,e⟩:=hZ33;by_cases z:x.2=v.1
  ·rw[if_pos z]at e;cases e;exact⟨x.1,by rw[←z];exact hx,rfl⟩
  ·rw[if_neg z]at e;cases e
 ·intro hZ34;obtain⟨a,ha,e⟩:=hZ34;exact⟨(a,v.1),ha,by rw[if_pos rfl,e]⟩
structure Ords (n:Nat)(ts:List Tr)(O:List (List Nat)):Prop where
 len:O.length=n
 nd:∀s,(O.getD s []).Nodup
 mem:∀s k,s<n→(k∈O.getD s []↔(k,s)∈ah ts)
theorem eZ {α:Type}{l:List α}{u:α×α}(h:u∈l.zip l.tail):u.1∈l∧u.2∈l:=⟨(of_mem_zip h).1,List.mem_of_mem_tail (of_mem_zip h).2⟩
theorem uE {rs:List Int}{g:Int}{ts:List Tr}{O:List (List Nat)}(C:Ctx rs g ts)(H:Ords rs.length ts O):∀v∈ah ts,∀u∈bZ rs g ts O v,1≤u.2∧u.1∈ah ts:=by
 intro v hv u hu;obtain⟨t,ht,hs⟩:=mem_visits.mp hv;have hg:Good rs.length t:=C.tr t (mem_of_getElem? ht)
 rcases mem_append.mp hu with z|z
 ·obtain⟨a,ha,e⟩:=(t9 ht).mp z;subst e;have ha':=(eZ ha).1;exact⟨(qT C.ln (fY hg a ha')).1,mem_visits.mpr ⟨t,ht,ha'⟩⟩
 ·obtain⟨a,ha,e⟩:=mem_wO.mp z;subst e;have hlt:=fY hg v.2 hs;have h1:=(qT C.ln hlt).1;have h2:=C.ln.gap.1;exact⟨by show 1≤rs.getD v.2 0+g;omega,(H.mem v.2 a hlt).mp (eZ ha).1⟩
theorem Fw {w:List Nat}{n:Nat}:plL n (au w)=true:=mz w fun _ _=>gn
theorem ko {a b:Nat}:b0 (.int (a:Int)) (.int (b:Int))=decide (a=b):=by
 unfold b0;by_cases h:a=b
 ·subst h;simp
 ·rw[decide_eq_false h];simp;omega
theorem Fv {w:List Nat}{s:Nat}:lh false (.int (s:Int)) (.lst (au w))= .ok (.bl (decide (s∈w))):=by
 unfold lh;dsimp only;rw[if_pos ⟨Fw,gn⟩];congr 2;unfold au;rw[if_neg Bool.false_ne_true,any_map];by_cases h:s∈w
 ·rw[decide_eq_true h,List.any_eq_true];exact⟨s,h,by show b0 _ _=true;rw[ko];simp⟩
 ·rw[decide_eq_false h,List.any_eq_false];intro x hx;show ¬b0 _ _=true;rw[ko];simp;exact fun z=>h (z ▸ hx)
theorem EY {w:List Nat}{s:Nat}(hl:w.length≤1000)(h:s∈w):∃i,w[i]?=some s∧fR (.lst (au w)) (.int (s:Int))= .ok (.int (i:Nat)):=by
 have e:tV (au w) (.int (s:Int))=w.findIdx? fun x=>decide (x=s):=by
  unfold tV au;rw[List.findIdx?_map];congr 1;funext x;exact ko
 cases q:w.findIdx? fun x=>decide (x=s) with
 |none=>
  rw[List.findIdx?_eq_none_iff]at q;have:=q s h;simp at this
 |some i=>
  obtain⟨h1,h2,_⟩:=List.findIdx?_eq_some_iff_getElem.mp q;refine⟨i,by rw[iN h1,of_decide_eq_true h2],?_⟩;unfold fR;dsimp only;rw[if_pos ⟨Fw,gn,by unfold au;rw[length_map];exact decide_eq_true (by omega)⟩,e,q]
noncomputable def aD (O:List (List Nat)):D:=.lst (O.map fun o=>.lst (au o))
theorem rH {l:List D}:fM (some 1) none (.lst l)= .ok (.lst l.tail):=by
 show Res.ok (D.lst ((l.drop (HT.cF l.length 0 (some 1))).take (HT.cF l.length l.length none-HT.cF l.length 0 (some 1))))=_;have e1:HT.cF l.length 0 (some 1)=min 1 l.length:=HT.AZ l.length 0 1;have e2:HT.cF l.length l.length none=l.length:=rfl;rw[e1,e2];cases l with
 |nil=>rfl
 |cons a l=>
  have:min 1 (a::l).length=1:=by rw[length_cons];omega
  rw[this,length_cons];show Res.ok (D.lst (l.take (l.length+1-1)))=_;rw[Nat.add_sub_cancel,List.take_length];rfl
set_option maxHeartbeats 1000000
noncomputable def gF (v:Vt):List bw:=[.inl (v.1:Int),.inl (v.2:Int)]
noncomputable def vD (v:Vt):D:=.tup [.int (v.1:Int),.int (v.2:Int)]
noncomputable def wD (u:Vt×Int):D:=.tup [vD u.1,.int u.2]
noncomputable def lW (W:Vt→List (Vt×Int))(v:Vt):D:=.lst ((W v).map wD)
noncomputable def dW (vs:List Vt)(W:Vt→List (Vt×Int)):D:=.dct (vs.map gF) (vs.map (lW W))
noncomputable def fW (vs:List Vt)(W:Vt→List (Vt×Int)):D:=.fdc (vs.map gF) (vs.map (lW W))
theorem qz {a b:Vt}(h:gF a=gF b):a=b:=by
 unfold gF at h;injection h with h1 h2
 injection h1 with h1
 injection h2 with h2
 injection h2 with h2
 exact Prod.ext (by omega) (by omega)
theorem i9 {v:Vt}:fA [.int (v.1:Int),.int (v.2:Int)]=some (gF v):=rfl
theorem xX {vs:List Vt}{v:Vt}(h:v∉vs):cn (vs.map gF) (gF v)=none:=by
 unfold cn;rw[List.findIdx?_eq_none_iff];intro k hk;obtain⟨u,hu,rfl⟩:=mem_map.mp hk;exact decide_eq_false fun z=>h (qz z ▸ hu)
theorem we {vs:List Vt}{v:Vt}(h:v∈vs):∃m,cn (vs.map gF) (gF v)=some m∧vs[m]?=some v:=by
 cases q:cn (vs.map gF) (gF v) with
 |none=>
  unfold cn at q;rw[List.findIdx?_eq_none_iff]at q;have:=q (gF v) (List.mem_map_of_mem h);simp at this
 |some m=>
  refine⟨m,rfl,?_⟩;unfold cn at q;obtain⟨h1,h2,_⟩:=List.findIdx?_eq_some_iff_getElem.mp q;rw[List.getElem_map]at h2;rw[length_map]at h1;rw[iN h1,qz (of_decide_eq_true h2)]
theorem qZ {f:Vt→D}:∀{vs:List Vt} {v:Vt},v∈vs→oj (vs.map gF) (vs.map f) (gF v)=some (f v)
 |a::vs,v,h=>by
  rw[map_cons,map_cons];unfold oj;by_cases e:a=v
  ·subst e;rw[if_pos rfl]
  ·rw[if_neg (fun z=>e (qz z))]
   rcases mem_cons.mp h with z|z
   ·exact absurd z.symm e
   ·exact qZ z
theorem dL {f:Vt→D}{vs:List Vt}{v:Vt}(h:v∈vs):aQ (.fdc (vs.map gF) (vs.map f)) (vD v)= .ok (f v):=by
 show kj (vs.map gF) (vs.map f) [.int (v.1:Int),.int (v.2:Int)]=_;unfold kj;rw[i9];dsimp only;rw[qZ h]
theorem B1 {f:Vt→D}{vs:List Vt}{v:Vt}(h:v∈vs):aQ (.dct (vs.map gF) (vs.map f)) (vD v)= .ok (f v):=by
 show kj (vs.map gF) (vs.map f) [.int (v.1:Int),.int (v.2:Int)]=_;unfold kj;rw[i9];dsimp only;rw[qZ h]
theorem mF {f:Vt→D}{vs:List Vt}{v:Vt}(h:v∉vs):md (vs.map gF) (vs.map f) (gF v) (f v)= .dct ((vs ++ [v]).map gF) ((vs ++ [v]).map f):=by
 unfold md;rw[xX h];simp only[map_append,map_cons,map_nil]
noncomputable def cY (E:List (Vt×Vt×Int))(v:Vt):List (Vt×Int):=E.filterMap fun e=>if e.1=v then some e.2 else none
theorem mM {E F:List (Vt×Vt×Int)}{v:Vt}:cY (E ++ F) v=cY E v ++ cY F v:=List.filterMap_append ..
theorem uK {E:List (Vt×Vt×Int)}{v:Vt}(h:∀e∈E,e.1≠v):cY E v=[]:=by
 unfold cY;rw[List.filterMap_eq_nil_iff];intro e he;rw[if_neg (h e he)]
theorem mO {E:List (Vt×Vt×Int)}{v:Vt}:(cY E v).length≤E.length:=List.length_filterMap_le ..
theorem BW {vs:List Vt}{E:List (Vt×Vt×Int)}{v:Vt}{u:Vt×Int}{m:Nat}(nd:vs.Nodup)(h:vs[m]?=some v):iP [m] (dW vs (cY E)) (.lst ((cY E v).map wD ++ [wD u]))=dW vs (cY (E ++ [(v,u)])):=by
 have hk:(vs.map (lW (cY E)))[m]?=some (lW (cY E) v):=by rw[getElem?_map,h];rfl
 unfold iP dW;simp only[gH,hk,sJ,iP];congr 1;refine ext_getElem? fun i=>?_;rw[List.getElem?_set,getElem?_map];by_cases hi:m=i
 ·subst hi;have hl:m<(vs.map (lW (cY E))).length:=(gz hk).1;rw[if_pos rfl,if_pos hl,getElem?_map,h];show some _=some (lW (cY (E ++ [(v,u)])) v);unfold lW;rw[mM];have:cY [(v,u)] v=[u]:=by unfold cY;rw[List.filterMap_cons_some (b:=u) (by rw[if_pos rfl])];rfl
  rw[this,map_append];rfl
 ·rw[if_neg hi,getElem?_map];cases q:vs[i]? with
  |none=>rfl
  |some x=>
   show some (lW _ x)=some (lW _ x);have hx:x≠v:=fun z=>hi ((List.getElem?_inj (gz h).1 nd).mp (by rw[h,q,z]));have:cY [(v,u)] x=[]:=uK fun e he=>by rw[mem_singleton.mp he];exact fun z=>hx z.symm
   unfold lW;rw[mM,this,append_nil]
theorem Cy {vs:List Vt}{W:Vt→List (Vt×Int)}{v:Vt}{m:Nat}(h:vs[m]?=some v):fy [m] (dW vs W)=some (.lst ((W v).map wD)):=by
 have hk:(vs.map (lW W))[m]?=some (lW W v):=by rw[getElem?_map,h];rfl
 unfold fy dW;simp only[gH,hk,fy];rfl
noncomputable def qk (rs:List Int)(k:Nat)(us:List (Nat×Nat)):List (Vt×Vt×Int):=us.map fun u=>((k,u.2),(k,u.1),rs.getD u.1 0)
noncomputable def tL (rs:List Int)(qs:List Q):List (Vt×Vt×Int):=qs.flatMap fun q=>qk rs q.2 ((aO q.1).zip (aO q.1).tail)
noncomputable def qj (rs:List Int)(g:Int)(s:Nat)(us:List (Nat×Nat)):List (Vt×Vt×Int):=us.map fun u=>((u.2,s),(u.1,s),rs.getD s 0+g)
noncomputable def xy (rs:List Int)(g:Int)(os:List (List Nat×Nat)):List (Vt×Vt×Int):=os.flatMap fun o=>qj rs g o.2 (o.1.zip o.1.tail)
noncomputable def cL (qs:List Q):List Vt:=qs.flatMap fun q=>(aO q.1).map fun s=>(q.2,s)
theorem rg {α:Type}{l:List α}:l.zipIdx.Pairwise fun a b=>a.2≠b.2:=by
 have:(l.zipIdx.map Prod.snd).Nodup:=by rw[List.zipIdx_map_snd];exact List.nodup_range'
 rw[List.nodup_iff_pairwise_ne,pairwise_map]at this;exact this
theorem ph {α β:Type}{l:List α}{f:α×Nat→List β}{k:Nat}{x:α}(hx:l[k]?=some x)(h:∀q∈l.zipIdx,q.2≠k→f q=[]):l.zipIdx.flatMap f=f (x,k):=by
 obtain⟨a,b,e⟩:=List.append_of_mem (show (x,k)∈l.zipIdx from mem_zip.mpr hx);have pw:=rg (l:=l);rw[e]at pw h ⊢;obtain⟨_,p2,p3⟩:=pairwise_append.mp pw;have ha:a.flatMap f=[]:=List.flatMap_eq_nil_iff.mpr fun q hq=>h q (mem_append_left _ hq) (p3 q hq (x,k) (mem_cons_self ..));have hb:b.flatMap f=[]:=List.flatMap_eq_nil_iff.mpr fun q hq=>h q (mem_append_right _ (eB hq)) (fun z=>(List.pairwise_cons.mp p2).1 q hq z.symm);rw[flatMap_append,flatMap_cons,ha,hb,nil_append,append_nil]
theorem pZ {rs:List Int}{g:Int}{ts:List Tr}{O:List (List Nat)}{v:Vt}(hv:v∈ah ts)(hs:v.2<O.length):cY (tL rs ts.zipIdx ++ xy rs g O.zipIdx) v=bZ rs g ts O v:=by
 obtain⟨t,ht,_⟩:=mem_visits.mp hv;rw[mM];unfold bZ;congr 1
 ·unfold cY tL;rw[List.filterMap_flatMap,ph ht]
  ·unfold wP qk;rw[ht];dsimp only;rw[filterMap_map];congr 1;funext u;show (if (v.1,u.2)=v then _ else _)=_
   by_cases z:u.2=v.2
   ·rw[if_pos z,if_pos (show (v.1,u.2)=v from Prod.ext rfl z)]
   ·have hz:¬(v.1,u.2)=v:=fun y=>z (by have:=congrArg (fun x:Vt=>x.2) y;exact this);rw[if_neg z,if_neg hz]
  ·intro q _ hq;unfold qk;rw[filterMap_map,List.filterMap_eq_nil_iff];intro u _;show (if (q.2,u.2)=v then _ else _)=_
   rw[if_neg (show ¬(q.2,u.2)=v from fun y=>hq (congrArg Prod.fst y))]
 ·unfold cY xy;rw[List.filterMap_flatMap,ph (eQ (d:=[]) hs)]
  ·unfold wO qj;rw[filterMap_map];congr 1;funext u;show (if (u.2,v.2)=v then _ else _)=_
   by_cases z:u.2=v.1
   ·rw[if_pos z,if_pos (show (u.2,v.2)=v from Prod.ext z rfl)]
   ·rw[if_neg z,if_neg (show ¬(u.2,v.2)=v from fun y=>z (congrArg Prod.fst y))]
  ·intro q _ hq;unfold qj;rw[filterMap_map,List.filterMap_eq_nil_iff];intro u _;show (if (u.2,q.2)=v then _ else _)=_
   rw[if_neg (show ¬(u.2,q.2)=v from fun y=>hq (congrArg Prod.snd y))]
section
variable{K:W.Frag}{CL:Addr}{Y:Ad}
noncomputable def gi (ts:List Tr)(s:Nat):List Nat:=(ts.zipIdx.filter fun q=>decide (s∈aO q.1)).map fun q=>q.2
theorem going_mem {ts:List Tr}{s k:Nat}:k∈gi ts s↔(k,s)∈ah ts:=by
 unfold gi;rw[mem_map,mem_visits];constructor
 ·intro hZ35;obtain⟨q,hq,rfl⟩:=hZ35;obtain⟨h1,h2⟩:=mem_filter.mp hq;exact⟨q.1,mem_zip.mp h1,of_decide_eq_true h2⟩
 ·intro hZ36;obtain⟨t,ht,h⟩:=hZ36;exact⟨(t,k),mem_filter.mpr ⟨mem_zip.mpr ht,decide_eq_true h⟩,rfl⟩
theorem going_lt {ts:List Tr}{s:Nat}:(gi ts s).Pairwise (· < ·):=by
 unfold gi;have h:(ts.zipIdx.map Prod.snd).Pairwise (· < ·):=by rw[List.zipIdx_map_snd];exact List.pairwise_lt_range'
 exact h.sublist (List.filter_sublist.map _)
theorem ux {n:Nat}{ts:List Tr}{O:List (List Nat)}(H:Ords n ts O){s:Nat}(hs:s<n)(h5:ts.length≤5):lM [.lst (au (O.getD s []))]= .ok (.lst (au (gi ts s))):=by
 have hl:(O.getD s []).length≤ts.length:=by
  have:=bo (vs:=List.range ts.length) (H.nd s) fun k hk=>by
   obtain⟨t,ht,_⟩:=mem_visits.mp ((H.mem s k hs).mp hk);exact mem_range.mpr (gz ht).1
  rwa[length_range]at this
 have e1:au (O.getD s [])=((O.getD s []).map fun (k:Nat)=>(k:Int)).map D.int:=by unfold au;rw[map_map];rfl
 have e2:au (gi ts s)=((gi ts s).map fun (k:Nat)=>(k:Int)).map D.int:=by unfold au;rw[map_map];rfl
 unfold lM;dsimp only;rw[e1,d9];dsimp only;rw[if_pos (by rw[length_map];omega),e2];congr 3;refine mV ((lN _).trans (List.Perm.map _ ?_)) (sW _) ?_
 ·exact(List.perm_ext_iff_of_nodup (H.nd s) (going_lt.imp fun {a b} h=>by omega)).mpr fun k=>(H.mem s k hs).trans going_mem.symm
 ·rw[pairwise_map];exact going_lt.imp fun {a b} h=>by omega
theorem m5 {n:Nat}{ts:List Tr}{O:List (List Nat)}(H:Ords n ts O)(hn:n≤1000)(h5:ts.length≤5)(hw:∀t∈ts,(aO t).length≤1000):bX K CL Y [.int (n:Int),.lst (ts.map bO),aD O]= .ok .non:=by
 unfold bX;refine(br rfl).trans ?_;have e0:aK dg [.int (n:Int),.lst (ts.map bO),aD O]=[some (.int (n:Int)),some (.lst (ts.map bO)),some (aD O),none,none,none]:=rfl;rw[e0];unfold dc aD;simp only[aR,jv,H.len];obtain⟨ρ',h1,_⟩:=mE (xs:=O.zipIdx) (c:=fun q:List Nat×Nat=>D.tup [.int (q.2:Int),.lst (au q.1)]) (asg:=hJ 3 4) (F:=aC (aJ 5 (aT (sE (pC (ac 1) pN)) [none,none,some 3] (hJ 0 1) (cZ (ae (ac 2) (ac 1) (lh false))) (ac 0))) (jO (cZ (ae (c1 (ac 4) lM) (ac 5) qH)) bad1 nxt)) (P:=fun _=>True)
  (ρ:=[some (.int (n:Int)),some (.lst (ts.map bO)),some (.lst (O.map fun o=>.lst (au o))),none,none,none])
  (fun _ ρ=>∃o3 o4 o5,ρ=[some (.int (n:Int)),some (.lst (ts.map bO)),some (.lst (O.map fun o=>.lst (au o))),o3,o4,o5]) ⟨_,_,_,rfl⟩ (fun pre q post exs ρ hZ175=>by
   obtain⟨o3,o4,o5,e⟩:=hZ175;subst e;refine⟨_,rfl,?_⟩;have hq:q∈O.zipIdx:=by rw[exs];simp
   have hz:=mem_zip.mp hq;have hs:q.2<n:=by rw[←H.len];exact(gz hz).1
   have e1:O.getD q.2 []=q.1:=by rw[getD_eq_getElem?_getD,hz];rfl
   have srt:=ux H hs h5;rw[e1]at srt;have cg:aT (sE (pC (ac 1) pN)) [none,none,some 3] (hJ 0 1) (cZ (ae (ac 2) (ac 1) (lh false))) (ac 0) [some (.int (n:Int)),some (.lst (ts.map bO)),some (.lst (O.map fun o=>.lst (au o))),some (.int (q.2:Int)),some (.lst (au q.1)),o5]= .ok (.lst (au (gi ts q.2))):=by
    rw[dk (xs:=ts.zipIdx) (c:=fun u:Q=>D.tup [.int (u.2:Int),bO u.1]) (p:=fun u=>decide (q.2∈aO u.1)) (g:=fun u=>D.int (u.2:Int)) (by simp only[aR,jv]) (by rw[length_zipIdx];omega) (fun u hu=>⟨_,rfl,?_,fun _=>?_⟩)]
    ·unfold gi au;rw[map_map];rfl
    ·have:=Fv (w:=aO u.1) (s:=q.2);show cZ (ae (ac 2) (ac 1) (lh false)) [some (.int (u.2:Int)),some (.lst (au (aO u.1))),some (.int (q.2:Int))]=_;simp only[aR,this]
    ·rfl
   simp only[aR,cg,srt,mx (d:=.lst (au (gi ts q.2))) (qN fun _ _=>gn)];exact⟨_,rfl,_,_,_,rfl⟩) (fun _ _=>trivial)
 rw[h1];rfl
end
set_option maxHeartbeats 1000000
section
variable{K:W.Frag}{CL:Addr}{Y:Ad}
theorem rn {vs:List Vt}{E:List (Vt×Vt×Int)}{v:Vt}{u:Vt×Int}{ρ:DS}{fi f:DS→Res D}(nd:vs.Nodup)(hv:v∈vs)(hE:E.length≤100000)(h:ρ[5]?=some (some (dW vs (cY E))))(hi:fi ρ= .ok (vD v))(hf:f ρ= .ok (wD u)):mU 5 1 (zt 5 0 (tE 5) fi) f ρ= .nx (ρ.set 5 (some (dW vs (cY (E ++ [(v,u)]))))):=by
 obtain⟨m,h1,h2⟩:=we hv;have key:=(uQ (g:=zt 5 0 (tE 5) fi) (f:=f) (j:=5) (n:=1) (p:=[m]) (t:=dW vs (cY E)) (rows:=(cY E v).map wD) (B9 (p:=[]) (n:=0) (kd:=[.int (v.1:Int),.int (v.2:Int)]) (k:=gF v) (t:=dW vs (cY E)) (m:=m) (ks:=vs.map gF) (l:=vs.map (lW (cY E))) (xA h) rfl hi i9 h rfl h1) hf rfl h (Cy h2) (by rw[length_map];exact le_trans mO hE));rw[BW nd h2]at key;exact key
theorem xu {vs:List Vt}{W:Vt→List (Vt×Int)}{v:Vt}{ρ:DS}{fi f:DS→Res D}(hv:v∉vs)(hW:W v=[])(hl:vs.length≤100000)(h:ρ[5]?=some (some (dW vs W)))(hi:fi ρ= .ok (vD v))(hf:f ρ= .ok (.lst [])):iY 5 fi f ρ= .nx (ρ.set 5 (some (dW (vs ++ [v]) W))):=by
 have e:(D.lst []:D)=lW W v:=by unfold lW;rw[hW];rfl
 rw[e]at hf;rw[mq (ks:=vs.map gF) (l:=vs.map (lW W)) (k:=gF v) (kd:=[.int (v.1:Int),.int (v.2:Int)]) h hf hi i9 (by rw[length_map];exact hl),mF hv];rfl
noncomputable abbrev rW (CL:Addr)(rs:List Int)(g:Int)(ts:List Tr)(O:List (List Nat))(d:D)(o6 o7 o8 o9 o10 o11:Option D):DS:=[some (aF CL rs g),some (.lst (ts.map bO)),some (aD O),some (.lst (rs.map D.int)),some (.int g),some d,o6,o7,o8,o9,o10,o11]
theorem kr {rs:List Int}:∀{qs:List Q},(∀q∈qs,(aO q.1).length≤5)→(tL rs qs).length≤5*qs.length
 | [],_=>le_refl _
 |q::qs,h=>by
  have ih:=kr (rs:=rs) (qs:=qs) fun u hu=>h u (eB hu);have h1:=h q (mem_cons_self ..);unfold tL at ih ⊢;rw[flatMap_cons,length_append,length_cons];have:(qk rs q.2 ((aO q.1).zip (aO q.1).tail)).length≤5:=by
   unfold qk;rw[length_map,length_zip];omega
  omega
theorem mn {rs:List Int}{g:Int}:∀{os:List (List Nat×Nat)},(∀o∈os,o.1.length≤5)→(xy rs g os).length≤5*os.length
 | [],_=>le_refl _
 |q::qs,h=>by
  have ih:=mn (rs:=rs) (g:=g) (os:=qs) fun u hu=>h u (eB hu);have h1:=h q (mem_cons_self ..);unfold xy at ih ⊢;rw[flatMap_cons,length_append,length_cons];have:(qj rs g q.2 (q.1.zip q.1.tail)).length≤5:=by
   unfold qj;rw[length_map,length_zip];omega
  omega
theorem lc:∀{qs:List Q},(∀q∈qs,(aO q.1).length≤5)→(cL qs).length≤5*qs.length
 | [],_=>le_refl _
 |q::qs,h=>by
  have ih:=lc (qs:=qs) fun u hu=>h u (eB hu);have h1:=h q (mem_cons_self ..);unfold cL at ih ⊢;rw[flatMap_cons,length_append,length_cons,length_map];omega
theorem visQ_mem {qs:List Q}{v:Vt}:v∈cL qs↔∃q∈qs,q.2=v.1∧v.2∈aO q.1:=by
 unfold cL;rw[mem_flatMap];constructor
 ·intro hZ37;obtain⟨q,hq,h⟩:=hZ37;obtain⟨s,hs,rfl⟩:=mem_map.mp h;exact⟨q,hq,rfl,hs⟩
 ·intro hZ38;obtain⟨q,hq,h1,h2⟩:=hZ38;exact⟨q,hq,mem_map.mpr ⟨v.2,h2,by rw[h1]⟩⟩
theorem ze {ts:List Tr}{pre post:List Q}(e:ts.zipIdx=pre ++ post):(cL pre).Nodup:=by
 have:ah ts=cL pre ++ cL post:=by unfold ah cL;rw[e,flatMap_append]
 have h:=bz (ts:=ts);rw[this]at h;exact(nodup_append.mp h).1
theorem my {n:Nat}{ts:List Tr}{O:List (List Nat)}(H:Ords n ts O){s:Nat}(hs:s<n):(O.getD s []).length≤ts.length:=by
 have:=bo (vs:=List.range ts.length) (H.nd s) fun k hk=>by
  obtain⟨t,ht,_⟩:=mem_visits.mp ((H.mem s k hs).mp hk);exact mem_range.mpr (gz ht).1
 rwa[length_range]at this
theorem oo {rs:List Int}{g:Int}{ts:List Tr}{O:List (List Nat)}(C:Ctx rs g ts)(H:Ords rs.length ts O):cv K CL Y [aF CL rs g,.lst (ts.map bO),aD O]= .ok (dW (ah ts) (bZ rs g ts O)):=by
 have h5:∀q∈ts.zipIdx,(aO q.1).length≤5:=fun q hq=>by
  have:=fN (C.good hq);have:=C.ln.few;omega
 have hn5:=C.ln.few;have ht5:=C.few;have hck:bX K CL Y [.int (rs.length:Int),.lst (ts.map bO),aD O]= .ok .non:=m5 H (by omega) C.few fun t ht=>by
  have:=fN (C.tr t ht);omega
 unfold cv;refine(br rfl).trans ?_;have e0:aK jT [aF CL rs g,.lst (ts.map bO),aD O]=[some (aF CL rs g),some (.lst (ts.map bO)),some (aD O),none,none,none,none,none,none,none,none,none]:=rfl;rw[e0];unfold gS;simp only[aR,E0,FA,tI,lJ,hck,jv];refine dz (fun pre f=>∃A B r k i j,f=rW CL rs g ts O (dW (cL pre) (cY (tL rs pre))) A B r k i j) ⟨none,none,none,none,none,none,rfl⟩ (fun pre q post m f hZ176=>?_) (fun M hZ177=>?_)
 ·obtain⟨A,B,r,k,i,j,e⟩:=hZ176;subst e;refine⟨_,rfl,?_⟩;have hq:q∈ts.zipIdx:=by rw[m];simp
  have hsub:∀u∈pre,u∈ts.zipIdx:=fun u p=>by rw[m];exact mem_append_left _ p
  have hne:∀u∈pre,u.2≠q.2:=fun u p=>by
   have pw:=rg (l:=ts);rw[m]at pw;exact(pairwise_append.mp pw).2.2 u p q (mem_cons_self ..)
  have hpl:pre.length≤5:=by
   have:=congrArg List.length m;rw[length_zipIdx,length_append]at this;omega
  have hEl:(tL rs pre).length≤25:=by
   have:=kr (rs:=rs) (qs:=pre) fun u p=>h5 u (hsub u p);omega
  have hVl:(cL pre).length≤25:=by
   have:=lc (qs:=pre) fun u p=>h5 u (hsub u p);omega
  have hEne:∀e∈tL rs pre,e.1.1≠q.2:=fun e he=>by
   obtain⟨u,p,h⟩:=mem_flatMap.mp he;obtain⟨x,_,rfl⟩:=mem_map.mp h;exact hne u p
  have hw5:=h5 q hq;have hzp:uF [bO q.1,.lst (au (aO q.1)).tail]= .ok (((aO q.1).zip (aO q.1).tail).map fun u=>.tup [.int (u.1:Int),.int (u.2:Int)]):=by
   unfold bO au;rw[←List.map_tail];exact xF
  have hcut:fM (some 1) none (bO q.1)= .ok (.lst (au (aO q.1)).tail):=rH;have hseq:A4 (bO q.1)= .ok ((aO q.1).map fun (s:Nat)=>D.int (s:Int)):=rfl;simp only[aR,hseq];refine wH (c:=fun (s:Nat)=>D.int (s:Int)) (xs:=aO q.1) (fun ps f=>∃r k i j,f=rW CL rs g ts O (dW (cL pre ++ ps.map fun s=>(q.2,s)) (cY (tL rs pre))) (some (.int (q.2:Int))) (some (bO q.1)) r k i j) ⟨r,k,i,j,by rw[map_nil,append_nil]⟩ (fun ps s po n f hZ178=>?_) (fun M hZ179=>?_)
  ·obtain⟨r,k,i,j,e⟩:=hZ178;subst e;refine⟨_,rfl,?_⟩;have nv:(q.2,s)∉cL pre ++ ps.map fun s=>(q.2,s):=fun z=>by
    rcases mem_append.mp z with y|y
    ·obtain⟨u,p,h1,_⟩:=visQ_mem.mp y;exact hne u p h1
    ·obtain⟨s',hs',e⟩:=mem_map.mp y;have e:=(Prod.mk.inj e).2;subst e;have nd:=fO (t:=q.1);rw[n]at nd;exact(nodup_append.mp nd).2.2 s' hs' s' (mem_cons_self ..) rfl
   have hpsl:ps.length≤5:=by
    have:=congrArg List.length n;rw[length_append]at this;omega
   refine⟨_,xu (v:=(q.2,s)) nv (uK fun e he z=>hEne e he (congrArg Prod.fst z)) (by rw[length_append,length_map];omega) rfl (by simp only[aR];rfl) (by simp only[aR]),some (.int (s:Int)),k,i,j,?_⟩;rw[map_append,←append_assoc];rfl
  ·obtain⟨r,k,i,j,e⟩:=hZ179;subst e;simp only[aR,hcut,hzp];have ndv:(cL pre ++ (aO q.1).map fun s=>(q.2,s)).Nodup:=by
    have:=ze (pre:=pre ++ [q]) (post:=post) (by rw[m];simp);unfold cL at this;rw[flatMap_append,flatMap_singleton]at this;exact this
   refine mE (fun us f=>∃k i,f=rW CL rs g ts O (dW (cL pre ++ (aO q.1).map fun s=>(q.2,s)) (cY (tL rs pre ++ qk rs q.2 us))) (some (.int (q.2:Int))) (some (bO q.1)) r k i j) ⟨k,i,by unfold qk;rw[map_nil,append_nil]⟩ (fun us u po n f hZ180=>?_) (fun M hZ181=>?_)
   ·obtain⟨k,i,e⟩:=hZ180;subst e;refine⟨_,rfl,?_⟩;have p:u∈(aO q.1).zip (aO q.1).tail:=by rw[n];simp
    have w:=eZ p;have hlt:u.1<rs.length:=fY (C.good hq) _ w.1;have y0:=bR (g:=D.int) (eQ (d:=0) hlt);have hul:us.length≤5:=by
     have:=congrArg List.length n;rw[length_append,length_zip]at this;omega
    refine⟨_,rn (v:=(q.2,u.2)) (u:=((q.2,u.1),rs.getD u.1 0)) ndv (mem_append_right _ (mem_map.mpr ⟨u.2,w.2,rfl⟩)) (by unfold qk;rw[length_append,length_map];omega) rfl (by simp only[aR];rfl) (by simp only[aR,y0];rfl),some (.int (u.1:Int)),some (.int (u.2:Int)),?_⟩;unfold qk;rw[map_append,←append_assoc];rfl
   ·obtain⟨k,i,e⟩:=hZ181;refine⟨some (.int (q.2:Int)),some (bO q.1),r,k,i,j,?_⟩;rw[e];unfold cL tL;rw[flatMap_append,flatMap_singleton,flatMap_append,flatMap_singleton]
 ·obtain⟨A,B,r,k,i,j,e⟩:=hZ177;subst e;have hv0:cL ts.zipIdx=ah ts:=rfl;rw[hv0];unfold rW aD;simp only[aR,jv];have hEl:(tL rs ts.zipIdx).length≤25:=by
   have:=kr (rs:=rs) (qs:=ts.zipIdx) h5;rw[length_zipIdx]at this;omega
  have hO5:∀o∈O.zipIdx,o.1.length≤5:=fun o ho=>by
   have w:=mem_zip.mp ho;have hs:o.2<rs.length:=by rw[←H.len];exact(gz w).1
   have:=my H hs;have e1:O.getD o.2 []=o.1:=by rw[getD_eq_getElem?_getD,w];rfl
   rw[e1]at this;omega
  refine dz (c:=fun o:List Nat×Nat=>D.tup [.int (o.2:Int),.lst (au o.1)]) (xs:=O.zipIdx) (fun pre f=>∃A B r k i j,f=rW CL rs g ts O (dW (ah ts) (cY (tL rs ts.zipIdx ++ xy rs g pre))) A B r k i j) ⟨A,B,r,k,i,j,by unfold xy;rw[List.flatMap_nil,append_nil];rfl⟩ (fun pre q post m f hZ182=>?_) (fun M hZ183=>?_)
  ·obtain⟨A,B,r,k,i,j,e⟩:=hZ182;subst e;refine⟨_,rfl,?_⟩;have hq:q∈O.zipIdx:=by rw[m];simp
   have w:=mem_zip.mp hq;have hs:q.2<rs.length:=by rw[←H.len];exact(gz w).1
   have e1:O.getD q.2 []=q.1:=by rw[getD_eq_getElem?_getD,w];rfl
   have y0:=bR (g:=D.int) (eQ (d:=0) hs);have hpl:pre.length≤5:=by
    have:=congrArg List.length m;rw[length_zipIdx,length_append,H.len]at this;omega
   have hOl:(xy rs g pre).length≤25:=by
    have:=mn (rs:=rs) (g:=g) (os:=pre) fun u p=>hO5 u (by rw[m];exact mem_append_left _ p);omega
   have hzp:uF [.lst (au q.1),.lst (au q.1).tail]= .ok ((q.1.zip q.1.tail).map fun u=>.tup [.int (u.1:Int),.int (u.2:Int)]):=by
    unfold au;rw[←List.map_tail];exact xF
   simp only[aR,rH,hzp];refine mE (fun us f=>∃k i,f=rW CL rs g ts O (dW (ah ts) (cY (tL rs ts.zipIdx ++ xy rs g pre ++ qj rs g q.2 us))) A B (some (.int (q.2:Int))) k i (some (.lst (au q.1)))) ⟨k,i,by unfold qj;rw[map_nil,append_nil]⟩ (fun us u po n f hZ184=>?_) (fun M hZ185=>?_)
   ·obtain⟨k,i,e⟩:=hZ184;subst e;refine⟨_,rfl,?_⟩;have p:u∈q.1.zip q.1.tail:=by rw[n];simp
    have w:=eZ p;have hul:us.length≤5:=by
     have:=congrArg List.length n;have:=hO5 q hq;rw[length_append,length_zip]at *;omega
    have hv:(u.2,q.2)∈ah ts:=(H.mem q.2 u.2 hs).mp (by rw[e1];exact w.2);refine⟨_,rn (v:=(u.2,q.2)) (u:=((u.1,q.2),rs.getD q.2 0+g)) bz hv (by unfold qj;rw[length_append,length_append,length_map];omega) rfl (by simp only[aR];rfl) (by simp only[aR,y0];rfl),some (.int (u.1:Int)),some (.int (u.2:Int)),?_⟩;unfold qj;rw[map_append,←append_assoc];rfl
   ·obtain⟨k,i,e⟩:=hZ185;refine⟨A,B,some (.int (q.2:Int)),k,i,some (.lst (au q.1)),?_⟩;rw[e];unfold xy;rw[flatMap_append,flatMap_singleton,←append_assoc]
  ·obtain⟨A,B,r,k,i,j,e⟩:=hZ183;subst e;simp only[aR];unfold dW;congr 2;refine map_congr_left fun v hv=>?_;obtain⟨t,ht,h2⟩:=mem_visits.mp hv;unfold lW;rw[pZ hv (by rw[H.len];exact fY (C.tr t (mem_of_getElem? ht)) _ h2)]
end
set_option maxHeartbeats 1000000
theorem Bn {a b:Vt}:b0 (vD a) (vD b)=decide (a=b):=by
 unfold vD b0 eqBL;rw[ko];unfold eqBL;rw[ko];unfold eqBL;rw[Bool.and_true];by_cases h:a=b
 ·subst h;simp
 ·rw[decide_eq_false h];cases q:decide (a.1=b.1) with
  |false=>rfl
  |true=>
   rw[Bool.true_and];exact decide_eq_false fun z=>h (Prod.ext (of_decide_eq_true q) z)
theorem Db {v:Vt}:a_ 19 (vD v)=true:=by
 unfold vD a_ plL plL plL;rw[gn,gn];rfl
theorem BG {t:List Vt}:plL 19 (t.map vD)=true:=mz t fun _ _=>Db
theorem jD {t:List Vt}{v:Vt}:lh true (vD v) (.lst (t.map vD))= .ok (.bl (!t.contains v)):=by
 unfold lh;dsimp only;rw[if_pos ⟨BG,Db⟩,if_pos rfl,any_map];congr 3;rw[List.contains_eq_any_beq];congr 1;funext x;show b0 (vD x) (vD v)=_;rw[Bn];by_cases h:x=v
 ·subst h;simp
 ·rw[decide_eq_false h];exact(beq_eq_false_iff_ne.mpr fun z=>h z.symm).symm
section
variable{K:W.Frag}{CL:Addr}{Y:Ad}{vs:List Vt}{W:Vt→List (Vt×Int)}
theorem r9 {u:Vt×Int}:aH (wD u) (.int 0)= .ok (vD u.1):=gd rfl
theorem Br {u:Vt×Int}:aH (wD u) (.int 1)= .ok (.int u.2):=gd rfl
theorem pj {t:List Vt}{v:Vt}(hv:v∈vs)(hl:(W v).length≤100000):cB K CL Y [fW vs W,.lst (t.map vD),vD v]= .ok (.lst (((W v).filter fun u=> !t.contains u.1).map fun u=>vD u.1)):=by
 unfold cB;refine(br rfl).trans ?_;have e0:aK js [fW vs W,.lst (t.map vD),vD v]=[some (fW vs W),some (.lst (t.map vD)),some (vD v)]:=rfl;rw[e0];unfold jo;have hg:aQ (fW vs W) (vD v)= .ok (lW W v):=dL hv;rw[iZ,dk (xs:=W v) (c:=wD) (p:=fun u=> !t.contains u.1) (g:=fun u=>vD u.1) (by simp only[aR,hg];rfl) hl (fun u hu=>⟨_,rfl,?_,fun _=>?_⟩)]
 ·rfl
 ·show cZ (ae (ae (ac 0) (kI 0) aH) (ac 1) (lh true)) [some (wD u),some (.lst (t.map vD))]=_;simp only[aR,r9,jD]
 ·show ae (ac 0) (kI 0) aH [some (wD u),some (.lst (t.map vD))]=_;simp only[aR,r9]
theorem xK {t:List Vt}(hl:vs.length≤100000)(hw:∀v∈vs,(W v).length≤100000):fU K CL Y [fW vs W,.lst (t.map vD)]= .ok (.lst ((cc vs W t).map vD)):=by
 unfold fU;refine(br rfl).trans ?_;have e0:aK mi [fW vs W,.lst (t.map vD)]=[some (fW vs W),some (.lst (t.map vD))]:=rfl;rw[e0];unfold mf;have hk:jP (fW vs W)= .ok (vs.map vD):=by
  show Res.ok ((vs.map gF).map wj)=_;rw[map_map];rfl
 rw[iZ,dk (xs:=vs) (c:=vD) (p:=fun v=> !t.contains v&&((W v).all fun u=>t.contains u.1)) (g:=vD) (by show (jP (fW vs W))=_;exact hk) hl (fun v hv=>⟨_,rfl,?_,fun _=>?_⟩)]
 ·rfl
 ·show zq (cZ (ae (ac 0) (ac 1) (lh true))) (jJ (tR (bf (pC (ac 2) (pC (ac 1) (pC (ac 0) pN))) (cB K CL Y)))) [some (vD v),some (.lst (t.map vD)),some (fW vs W)]=_;have hh:=pj (K:=K) (CL:=CL) (Y:=Y) (t:=t) hv (hw v hv);cases q:t.contains v with
  |true=>simp only[aR,jD,q]
  |false=>
   simp only[aR,jD,q,hh,ky];congr 1;rw[Bool.not_not];cases y:(W v).all fun u=>t.contains u.1 with
   |true=>
    rw[filter_eq_nil_iff.mpr fun u hu=>by rw[all_eq_true]at y;rw[y u hu];exact Bool.false_ne_true];rfl
   |false=>
    cases z:(W v).filter fun u=> !t.contains u.1 with
    |cons a b=>rfl
    |nil=>
     rw[filter_eq_nil_iff]at z;have:((W v).all fun u=>t.contains u.1)=true:=all_eq_true.mpr fun u hu=>by simpa using z u hu
     rw[this]at y;cases y
 ·rfl
theorem lE {t:List Vt}:bU 1 (.lst (t.map vD))=true:=by
 have:=wn (l:=t.map fun v=>[(v.1:Int),(v.2:Int)]);rw[map_map]at this;exact this
theorem r7 (hv:vs.Nodup)(hl:vs.length≤39)(hw:∀v∈vs,(W v).length≤100000):cT K CL Y [fW vs W]= .ok (.lst ((bK vs W 40 []).map vD)):=by
 have ex:∀t:List Vt,fU K CL Y [fW vs W,.lst (t.map vD)]= .ok (.lst ((cc vs W t).map vD)):=fun t=>xK (by omega) hw;unfold cT;refine(br rfl).trans ?_;have e0:aK li [fW vs W]=[some (fW vs W),none,none]:=rfl;rw[e0];unfold jq;have h0:=ex [];rw[map_nil]at h0;simp only[aR,h0,lE];refine s_ (fun n ρ=>∃t,ρ=[some (fW vs W),some (.lst (t.map vD)),some (.lst ((cc vs W t).map vD))]∧Turn vs W t∧vs.length≤n+t.length∧bK vs W (n+1) t=bK vs W 40 []) (fun ρ=>ρ=[some (fW vs W),some (.lst ((bK vs W 40 []).map vD)),some (.lst [])]) 39 (by omega) ⟨[],rfl,sY,by omega,rfl⟩ (fun n ρ hZ186=>?_) (fun ρ' e=>?_)
 ·obtain⟨t,e,T,hn,hr⟩:=hZ186;subst e;by_cases h:cc vs W t=[]
  ·refine .inl ⟨?_,?_⟩
   ·rw[h];simp only[aR,ky];rfl
   ·rw[h];have e3:bK vs W (n+1) t=t:=by
     unfold bK;rw[if_pos h]
    rw[←hr,e3];rfl
  ·have T2:=pT hv T;have l2:=bo T2.nd T2.sub;rw[length_append]at l2;have lp:=length_pos_iff.mpr h;cases n with
   |zero=>omega
   |succ m=>
    refine .inr ⟨?_,m,[some (fW vs W),some (.lst ((t ++ cc vs W t).map vD)),some (.lst ((cc vs W (t ++ cc vs W t)).map vD))],rfl,?_,t ++ cc vs W t,rfl,T2,by rw[length_append];omega,?_⟩
    ·cases q:cc vs W t with
     |nil=>exact absurd q h
     |cons a b=>simp only[aR,ky];rfl
    ·show (aC (qn 1 0 (tE 1) (bJ fD (ac 2))) (aJ 2 (si 1 (bf (pC (ac 0) (pC (ac 1) pN)) (fU K CL Y))))) _=_;have e1:qn 1 0 (tE 1) (bJ fD (ac 2)) [some (fW vs W),some (.lst (t.map vD)),some (.lst ((cc vs W t).map vD))]= .nx [some (fW vs W),some (.lst ((t ++ cc vs W t).map vD)),some (.lst ((cc vs W t).map vD))]:=by
      rw[zG (j:=1) (n:=0) (p:=[]) (t:=.lst (t.map vD)) (g:=tE 1) (rows:=t.map vD) (l:=(cc vs W t).map vD) (xA rfl) (by simp only[aR]) rfl rfl rfl (by rw[length_map,length_map];omega),map_append];rfl
     rw[bQ,e1];simp only[aR,ex (t ++ cc vs W t),lE]
    ·rw[←hr]
     conv=>rhs;unfold bK
     rw[if_neg h]
 ·subst e;simp only[aR]
theorem CQ {a:Int}{ns:List Int}:dN (a::ns)=wZ a ns:=by
 have h:=dP (ns:=a::ns) (by simp);exact(CP (h.2 a (mem_cons_self ..)) (fun e he=>h.2 e (eB he)) (mem_cons.mp h.1)).symm
noncomputable def dE (t:List Vt)(f:Vt→Int):D:=.dct (t.map gF) (t.map fun v=>.int (f v))
theorem ja {ts:List Tr}{t:List Vt}(T:Turn (ah ts) W t)(hl:(ah ts).length≤39)(hw:∀v∈ah ts,(W v).length≤1000):bn K CL Y [.lst (ts.map a8),fW (ah ts) W,.lst (t.map vD)]= .ok (dE t (gI W (jh ts) t)):=by
 unfold bn;refine(br rfl).trans ?_;have e0:aK dh [.lst (ts.map a8),fW (ah ts) W,.lst (t.map vD)]=[some (.lst (ts.map a8)),some (fW (ah ts) W),some (.lst (t.map vD)),none,none,none]:=rfl;rw[e0];unfold de;simp only[aR];refine dz (fun pre ρ=>∃o4 o5,ρ=[some (.lst (ts.map a8)),some (fW (ah ts) W),some (.lst (t.map vD)),some (dE pre (gI W (jh ts) pre)),o4,o5]) ⟨none,none,rfl⟩ (fun pre v post j ρ hZ187=>?_) (fun ρ' hZ188=>?_)
 ·obtain⟨o4,o5,e⟩:=hZ187;subst e;have hvt:v∈t:=by rw[j];simp
  have hv:=T.sub v hvt;obtain⟨tr,ht,hs⟩:=mem_visits.mp hv;have nv:v∉pre:=fun z=>by
   have nd:=T.nd;rw[j]at nd;exact(nodup_append.mp nd).2.2 v z v (mem_cons_self ..) rfl
  have hpl:pre.length≤39:=by
   have:=bo T.nd T.sub;have:=congrArg List.length j;rw[length_append]at this;omega
  have hix:=bR (g:=a8) ht;have e2:aH (a8 tr) (.int 2)= .ok (.int tr.2.2):=uW;have er:jh ts v=tr.2.2:=by unfold jh;rw[ht]
  have iv0:aH (vD v) (.int 0)= .ok (.int (v.1:Int)):=gd rfl;have hg:aQ (fW (ah ts) W) (vD v)= .ok (lW W v):=dL hv;refine⟨_,rfl,?_⟩;simp only[aR,iv0,hix,e2];have cg:aT (sL (ae (ac 1) (ac 4) aQ)) [none,some 3] (bt 0) yes (ae (ae (ac 1) (ae (ac 0) (kI 0) aH) aQ) (ae (ac 0) (kI 1) aH) aU) [some (.lst (ts.map a8)),some (fW (ah ts) W),some (.lst (t.map vD)),some (dE pre (gI W (jh ts) pre)),some (vD v),some (.int tr.2.2)]= .ok (.lst ((W v).map fun u=>D.int (gI W (jh ts) pre u.1+u.2))):=by
   refine bM (xs:=W v) (c:=wD) (g:=fun u=>D.int (gI W (jh ts) pre u.1+u.2)) (by simp only[aR,hg];rfl) (le_trans (hw v hv) (by decide)) (fun u hu=>⟨_,rfl,?_⟩);have hp:u.1∈pre:=T.top pre v post j u hu;have hgu:aQ (dE pre (gI W (jh ts) pre)) (vD u.1)= .ok (.int (gI W (jh ts) pre u.1)):=B1 hp;show ae (ae (ac 1) (ae (ac 0) (kI 0) aH) aQ) (ae (ac 0) (kI 1) aH) aU [some (wD u),some (dE pre (gI W (jh ts) pre))]=_;simp only[aR,r9,Br,hgu,rP]
  have val:(si 0 (c1 (ae (dM (pC (ac 5) pN)) (aT (sL (ae (ac 1) (ac 4) aQ)) [none,some 3] (bt 0) yes (ae (ae (ac 1) (ae (ac 0) (kI 0) aH) aQ) (ae (ac 0) (kI 1) aH) aU)) aU) oO)) [some (.lst (ts.map a8)),some (fW (ah ts) W),some (.lst (t.map vD)),some (dE pre (gI W (jh ts) pre)),some (vD v),some (.int tr.2.2)]= .ok (.int (gI W (jh ts) (pre ++ [v]) v)):=by
   have ea:aU (.lst [.int tr.2.2]) (.lst ((W v).map fun u=>D.int (gI W (jh ts) pre u.1+u.2)))= .ok (.lst ((tr.2.2::(W v).map fun u=>gI W (jh ts) pre u.1+u.2).map D.int)):=by
    have:=hw v hv;rw[xz (cI (by rw[length_map,length_singleton];omega)),map_cons,map_map];rfl
   simp only[aR,cg,ea,sk,CQ,rR];rw[nE];unfold BB;rw[if_pos rfl,er]
  refine⟨_,mq (ks:=pre.map gF) (l:=pre.map fun v=>.int (gI W (jh ts) pre v)) (k:=gF v) (kd:=[.int (v.1:Int),.int (v.2:Int)]) rfl val (by simp only[aR];rfl) i9 (by rw[length_map];omega),some (vD v),some (.int tr.2.2),?_⟩;have ep:md (pre.map gF) (pre.map fun v=>.int (gI W (jh ts) pre v)) (gF v) (.int (gI W (jh ts) (pre ++ [v]) v))=dE (pre ++ [v]) (gI W (jh ts) (pre ++ [v])):=by
   have:(pre.map fun v=>D.int (gI W (jh ts) pre v))=pre.map fun x=>D.int (gI W (jh ts) (pre ++ [v]) x):=map_congr_left fun x hx=>by
    rw[nE];unfold BB;rw[if_neg (fun (z:x=v)=>nv (z ▸ hx))]
   rw[this];exact mF (f:=fun x=>D.int (gI W (jh ts) (pre ++ [v]) x)) nv
  rw[ep];rfl
 ·obtain⟨o4,o5,e⟩:=hZ188;subst e;simp only[aR]
noncomputable def fE (t:List Vt)(f:Vt→Int):D:=.fdc (t.map gF) (t.map fun v=>.int (f v))
theorem yU {t:List Vt}{f:Vt→Int}{q:Q}(hl:(aO q.1).length≤1000)(h:∀s∈aO q.1,(q.2,s)∈t):gK K CL Y [.int (q.2:Int),bO q.1,fE t f]= .ok (cR ((aO q.1).map fun s=>f (q.2,s))):=by
 unfold gK;refine(br rfl).trans ?_;have e0:aK ka [.int (q.2:Int),bO q.1,fE t f]=[some (.int (q.2:Int)),some (bO q.1),some (fE t f)]:=rfl;rw[e0];unfold j_;rw[iZ,bM (xs:=aO q.1) (c:=fun (s:Nat)=>D.int (s:Int)) (g:=fun s=>D.int (f (q.2,s))) (by simp only[aR];rfl) (by omega) (fun s hs=>⟨_,rfl,?_⟩)]
 ·unfold cR;rw[map_map];rfl
 ·have hg:aQ (fE t f) (vD (q.2,s))= .ok (.int (f (q.2,s))):=dL (h s hs);show ae (ac 1) (cS (pC (ac 2) (pC (ac 0) pN))) aQ [some (.int (s:Int)),some (fE t f),some (.int (q.2:Int))]=_;simp only[aR];exact hg
noncomputable def dF (ts:List Tr)(f:Vt→Int):Pl:=ts.zipIdx.map fun q=>(aO q.1).map fun s=>f (q.2,s)
theorem uA {ts:List Tr}{t:List Vt}{f:Vt→Int}(h5:ts.length≤5)(hl:∀q∈ts.zipIdx,(aO q.1).length≤1000)(h:∀v∈ah ts,v∈t):fB K CL Y [.lst (ts.map bO),fE t f]= .ok (.lst ((dF ts f).map cR)):=by
 unfold fB;refine(br rfl).trans ?_;have e0:aK gY [.lst (ts.map bO),fE t f]=[some (.lst (ts.map bO)),some (fE t f)]:=rfl;rw[e0];unfold gR;rw[iZ,bM (xs:=ts.zipIdx) (c:=fun u:Q=>D.tup [.int (u.2:Int),bO u.1]) (g:=fun q:Q=>cR ((aO q.1).map fun s=>f (q.2,s))) (by simp only[aR,jv]) (by rw[length_zipIdx];omega) (fun q hq=>⟨_,rfl,?_⟩)]
 ·unfold dF;rw[map_map];rfl
 ·show bf (pC (ac 0) (pC (ac 1) (pC (ac 2) pN))) (gK K CL Y) [some (.int (q.2:Int)),some (bO q.1),some (fE t f)]=_;simp only[aR,yU (K:=K) (CL:=CL) (Y:=Y) (t:=t) (f:=f) (hl q hq) (fun s hs=>h _ (mem_visits.mpr ⟨q.1,mem_zip.mp hq,hs⟩))]
theorem D2 {l:List Vt}{v:Vt}(hl:l.length≤1000)(h:v∈l):∃i:Nat,fR (.lst (l.map vD)) (vD v)= .ok (.int (i:Nat)):=by
 unfold fR;dsimp only;rw[if_pos ⟨BG,Db,cI (by rw[length_map];omega)⟩];cases q:tV (l.map vD) (vD v) with
 |some j=>exact⟨j,rfl⟩
 |none=>
  unfold tV at q;rw[List.findIdx?_eq_none_iff]at q;have:=q (vD v) (List.mem_map_of_mem h);rw[Bn]at this;simp at this
theorem DK {l:List Vt}{i:Nat}:∃r:List Vt,tJ (l.map vD) (some (i:Int)) none=r.map vD:=⟨(l.drop (HT.cF (l.map vD).length 0 (some (i:Int)))).take (HT.cF (l.map vD).length (l.map vD).length none-HT.cF (l.map vD).length 0 (some (i:Int))),by unfold tJ;rw[List.map_take,List.map_drop]⟩
theorem wL {t:List Vt}(hl:vs.length≤39)(hw:∀v∈vs,(W v).length≤100000)(hin:∀v∈vs,∀u∈W v,u.1∈vs)(he:cc vs W t=[])(hst:∃v∈vs,v∉t):∃r:List Vt,gJ K CL Y [fW vs W,.lst (t.map vD)]= .ok (.lst (r.map vD)):=by
 have hk:jP (fW vs W)= .ok (vs.map vD):=by
  show Res.ok ((vs.map gF).map wj)=_;rw[map_map];rfl
 have cg:∀o,aT (sD (ac 0)) [none,some 1] (bt 0) (cZ (ae (ac 0) (ac 1) (lh true))) (ac 0) [some (fW vs W),some (.lst (t.map vD)),none,o]= .ok (.lst ((vs.filter fun v=> !t.contains v).map vD)):=fun o=>dk (xs:=vs) (c:=vD) (p:=fun v=> !t.contains v) (g:=vD) (by show (jP (fW vs W))=_;exact hk) (by omega) (fun v w=>⟨_,rfl,by
  show cZ (ae (ac 0) (ac 1) (lh true)) [some (vD v),some (.lst (t.map vD))]=_;simp only[aR,jD],fun _=>rfl⟩)
 have key:∃r:List Vt,fG (gA K CL Y [some (fW vs W),some (.lst (t.map vD)),none,none])= .ok (.lst (r.map vD)):=by
  cases hf:vs.filter fun v=> !t.contains v with
  |nil=>
   obtain⟨v,w,nt⟩:=hst;rw[filter_eq_nil_iff]at hf;exact absurd (by simpa using nt) (hf v w)
  |cons v0 rest=>
   have h0:v0∈vs∧v0∉t:=by
    have:v0∈vs.filter fun v=> !t.contains v:=by rw[hf];exact mem_cons_self
    obtain⟨h1,h2⟩:=mem_filter.mp this;exact⟨h1,by simpa using h2⟩
   have i0:aH (.lst ((v0::rest).map vD)) (.int 0)= .ok (vD v0):=bR (g:=vD) (i:=0) rfl;have c0:=cg none;rw[hf]at c0;unfold gA;have e1:aJ 2 (bJ b9 (ae (aT (sD (ac 0)) [none,some 1] (bt 0) (cZ (ae (ac 0) (ac 1) (lh true))) (ac 0)) (kI 0) aH)) [some (fW vs W),some (.lst (t.map vD)),none,none]= .nx [some (fW vs W),some (.lst (t.map vD)),some (vD v0),none]:=by
    simp only[aR,c0,i0]
   rw[bQ,e1];simp only[aR];have hI:∃ρ',bL (cZ (ae (ac 2) (ac 3) (lh true))) (aC (kg 3 (bJ b9 (ac 2))) (aJ 2 (bJ b9 (ae (bf (pC (ac 0) (pC (ac 1) (pC (ac 2) pN))) (cB K CL Y)) (kI 0) aH)))) 41 [some (fW vs W),some (.lst (t.map vD)),some (vD v0),some (.lst [])]= .nx ρ'∧(fun ρ:DS=>∃(v:Vt) (q:List Vt),ρ=[some (fW vs W),some (.lst (t.map vD)),some (vD v),some (.lst (q.map vD))]∧q.length≤39∧v∈q) ρ':=by
    refine fP (fun (n:Nat) (ρ:DS)=>∃(q:List Vt) (v:Vt),ρ=[some (fW vs W),some (.lst (t.map vD)),some (vD v),some (.lst (q.map vD))]∧q.Nodup∧(∀x∈q,x∈vs)∧(v∈vs∧v∉t)∧vs.length≤n+q.length) (fun ρ:DS=>∃(v:Vt) (q:List Vt),ρ=[some (fW vs W),some (.lst (t.map vD)),some (vD v),some (.lst (q.map vD))]∧q.length≤39∧v∈q) (fun n ρ hZ189=>?_) 40 41 _ (by omega) ⟨[],v0,rfl,nodup_nil,fun x h=>by (cases h),h0,by omega⟩;obtain⟨q,v,e,nd,sub,w,hn⟩:=hZ189;subst e;have lw:=bo nd sub;by_cases s:v∈q
    ·exact .inl ⟨by simp only[aR,jD,List.contains_iff_mem.mpr s],v,q,rfl,by omega,s⟩
    ·have nd2:(q ++ [v]).Nodup:=nodup_append.mpr ⟨nd,by simp,fun a ha b hb e=>by
      rw[mem_singleton.mp hb]at e;subst e;exact s ha⟩
     have sub2:∀x∈q ++ [v],x∈vs:=fun x hx=>by
      rcases mem_append.mp hx with z|z
      ·exact sub x z
      ·rw[mem_singleton.mp z];exact w.1
     have l2:=bo nd2 sub2;rw[length_append,length_singleton]at l2;have hc:q.contains v=false:=by simpa using s
     obtain⟨u,hu,hut⟩:=uy he w.1 w.2;cases hq:(W v).filter fun u=> !t.contains u.1 with
     |nil=>
      rw[filter_eq_nil_iff]at hq;exact absurd (by simpa using hut) (hq u hu)
     |cons x xs=>
      have hx:x∈(W v).filter fun u=> !t.contains u.1:=by rw[hq];exact mem_cons_self
      obtain⟨hx1,hx2⟩:=mem_filter.mp hx;have hh:=pj (K:=K) (CL:=CL) (Y:=Y) (t:=t) w.1 (hw v w.1);rw[hq]at hh;have i0:aH (.lst ((x::xs).map fun u=>vD u.1)) (.int 0)= .ok (vD x.1):=bR (g:=fun u:Vt×Int=>vD u.1) (i:=0) rfl;cases n with
      |zero=>omega
      |succ m=>
       refine .inr ⟨by simp only[aR,jD,hc],m,[some (fW vs W),some (.lst (t.map vD)),some (vD x.1),some (.lst ((q ++ [v]).map vD))],rfl,?_,q ++ [v],x.1,rfl,nd2,sub2,⟨hin v w.1 x hx1,by simpa using hx2⟩,by rw[length_append,length_singleton];omega⟩;have e1:kg 3 (bJ b9 (ac 2)) [some (fW vs W),some (.lst (t.map vD)),some (vD v),some (.lst (q.map vD))]= .nx [some (fW vs W),some (.lst (t.map vD)),some (vD v),some (.lst ((q ++ [v]).map vD))]:=by
        rw[tM (l:=q.map vD) (d:=vD v) rfl (by simp only[aR]) (by rw[length_map];omega),map_append];rfl
       rw[bQ,e1];simp only[aR,hh,i0]
   obtain⟨ρ',e,v,q,eρ,hwl,s⟩:=hI;rw[e,aY];subst eρ;obtain⟨i,hi⟩:=D2 (by omega:q.length≤1000) s;obtain⟨r,hr⟩:=DK (l:=q) (i:=i);have hsl:fM (some (i:Int)) none (.lst (q.map vD))= .ok (.lst (r.map vD)):=by
    show Res.ok (D.lst (tJ (q.map vD) (some (i:Int)) none))=_;rw[hr]
   have hls:Al (.lst (r.map vD))= .ok (.lst (r.map vD)):=rfl;refine⟨r,?_⟩;simp only[aR,Ff,hi,hsl,hls,lE]
 obtain⟨r,hr⟩:=key;refine⟨r,?_⟩;unfold gJ;exact(br rfl).trans hr
noncomputable def aB (rs:List Int)(g:Int)(ts:List Tr)(O:List (List Nat)):List Vt:=bK (ah ts) (bZ rs g ts O) 40 []
noncomputable def x9 (rs:List Int)(g:Int)(ts:List Tr)(O:List (List Nat)):Option Pl:=if (aB rs g ts O).length<(ah ts).length then none else some (dF ts (gI (bZ rs g ts O) (jh ts) (aB rs g ts O)))
theorem lg {rs:List Int}{g:Int}{ts:List Tr}(C:Ctx rs g ts):(ah ts).length≤39:=by
 have h5:∀q∈ts.zipIdx,(aO q.1).length≤5:=fun q hq=>by
  have:=fN (C.good hq);have:=C.ln.few;omega
 have:=lc (qs:=ts.zipIdx) h5;rw[length_zipIdx]at this;have e:cL ts.zipIdx=ah ts:=rfl;rw[e]at this;have:=C.few;omega
theorem qY {rs:List Int}{g:Int}{ts:List Tr}{O:List (List Nat)}(C:Ctx rs g ts):Turn (ah ts) (bZ rs g ts O) (aB rs g ts O)∧cc (ah ts) (bZ rs g ts O) (aB rs g ts O)=[]:=pk bz 40 [] sY (by have:=lg C;rw[length_nil];omega)
theorem qp {t vs:List Vt}(nd:vs.Nodup)(h:¬t.length<vs.length)(nt:t.Nodup)(sub:∀v∈t,v∈vs):∀v∈vs,v∈t:=fun v hv=>by
 apply Classical.byContradiction;intro z;have:=bo (t:=v::t) (vs:=vs) (nodup_cons.mpr ⟨z,nt⟩) fun x hx=>by
  rcases mem_cons.mp hx with e|e
  ·rw[e];exact hv
  ·exact sub x e
 rw[length_cons]at this;omega
theorem oH {rs:List Int}{g:Int}{ts:List Tr}{O:List (List Nat)}(C:Ctx rs g ts)(H:Ords rs.length ts O) :
  (x9 rs g ts O=none∧∃r:List Vt,bS K CL Y [aF CL rs g,.lst (ts.map a8),aD O]= .ok (.tup [.str (Str.ofString "ring"),.lst (r.map vD)]))∨
  ∃T,x9 rs g ts O=some T∧bS K CL Y [aF CL rs g,.lst (ts.map a8),aD O]= .ok (.tup [.str (Str.ofString "table"),.lst (T.map cR)]):=by
 have hn5:=C.ln.few;have ht5:=C.few;have h5:∀q∈ts.zipIdx,(aO q.1).length≤5:=fun q hq=>by
  have:=fN (C.good hq);omega
 have hvl:=lg C;have hwl:∀v∈ah ts,(bZ rs g ts O v).length≤1000:=fun v hv=>by
  obtain⟨t,ht,hs⟩:=mem_visits.mp hv;have hlt:=fY (C.tr t (mem_of_getElem? ht)) _ hs;rw[←pZ hv (by rw[H.len];exact hlt)];have h1:=kr (rs:=rs) (qs:=ts.zipIdx) h5;have h2:=mn (rs:=rs) (g:=g) (os:=O.zipIdx) fun o ho=>by
   have hz:=mem_zip.mp ho;have hs:o.2<rs.length:=by rw[←H.len];exact(gz hz).1
   have:=my H hs;have e1:O.getD o.2 []=o.1:=by rw[getD_eq_getElem?_getD,hz];rfl
   rw[e1]at this;omega
  have h3:=mO (E:=tL rs ts.zipIdx ++ xy rs g O.zipIdx) (v:=v);rw[length_append]at h3;rw[length_zipIdx]at h1 h2;rw[H.len]at h2;omega
 have hwl':∀v∈ah ts,(bZ rs g ts O v).length≤100000:=fun v hv=>le_trans (hwl v hv) (by decide);have ht:=r7 (K:=K) (CL:=CL) (Y:=Y) (W:=bZ rs g ts O) bz hvl hwl';obtain⟨T,hf⟩:=qY (O:=O) C;unfold aB at T hf;have hwo:=oo (K:=K) (CL:=CL) (Y:=Y) C H;have fz1:rZ (dW (ah ts) (bZ rs g ts O))= .ok (fW (ah ts) (bZ rs g ts O)):=rfl;have hlk:tX [fW (ah ts) (bZ rs g ts O)]= .ok (.int ((ah ts).length:Int)):=by
  show Res.ok (D.int (((ah ts).map gF).length:Int))=_;rw[length_map]
 have hwy:gk K CL Y [aF CL rs g,.lst (ts.map a8)]= .ok (.lst (ts.map bO)):=vH C.tr (by omega) C.one C.few;have e0:aK f8 [aF CL rs g,.lst (ts.map a8),aD O]=[some (aF CL rs g),some (.lst (ts.map a8)),some (aD O),none,none,none]:=rfl;unfold x9 aB;by_cases w:(bK (ah ts) (bZ rs g ts O) 40 []).length<(ah ts).length
 ·have hst:∃v∈ah ts,v∉bK (ah ts) (bZ rs g ts O) 40 []:=by
   apply Classical.byContradiction;intro z;have:=bo (t:=ah ts) (vs:=bK (ah ts) (bZ rs g ts O) 40 []) bz fun v hv=>by
    apply Classical.byContradiction;intro y;exact z ⟨v,hv,y⟩
   omega
  obtain⟨r,hr⟩:=wL (K:=K) (CL:=CL) (Y:=Y) hvl hwl' (fun v hv u hu=>(uE C H v hv u hu).2) hf hst;refine .inl ⟨if_pos w,r,?_⟩;have hlen':((bK (ah ts) (bZ rs g ts O) 40 []).length:Int)<((ah ts).length:Int):=by omega
  unfold bS;refine(br rfl).trans ?_;rw[e0];unfold cG;simp only[aR,tq,hwy,hwo,fz1,ht,hlk,b7,hr,decide_eq_true hlen']
 ·have full:=qp bz w T.nd T.sub;refine .inr ⟨_,if_neg w,?_⟩;have hlen':¬((bK (ah ts) (bZ rs g ts O) 40 []).length:Int)<((ah ts).length:Int):=by omega
  have hle:=ja (K:=K) (CL:=CL) (Y:=Y) T hvl hwl;have hto:=uA (K:=K) (CL:=CL) (Y:=Y) (f:=gI (bZ rs g ts O) (jh ts) (bK (ah ts) (bZ rs g ts O) 40 [])) ht5 (fun q hq=>by have:=h5 q hq;omega) full;have fz2:rZ (dE (bK (ah ts) (bZ rs g ts O) 40 []) (gI (bZ rs g ts O) (jh ts) (bK (ah ts) (bZ rs g ts O) 40 [])))= .ok (fE (bK (ah ts) (bZ rs g ts O) 40 []) (gI (bZ rs g ts O) (jh ts) (bK (ah ts) (bZ rs g ts O) 40 []))):=rfl;unfold bS;refine(br rfl).trans ?_;rw[e0];unfold cG;simp only[aR,tq,hwy,hwo,fz1,ht,hlk,b7,hle,fz2,hto,decide_eq_false hlen']
end
set_option maxHeartbeats 1000000
theorem ul {α:Type}:∀{l:List α} {i:Nat} {x:α},l[i]?=some x→(x::l.eraseIdx i).Perm l:=by
 intro l
 induction l with
 |nil=>intro i x h;simp at h
 |cons y l ih=>
  intro i x h;cases i with
  |zero=>cases h;exact .refl _
  |succ i=>exact(List.Perm.swap y x _).trans ((ih h).cons y)
theorem vT {α β:Type}{f:α→β}:∀{l:List α} {i:Nat},(l.map f).eraseIdx i=(l.eraseIdx i).map f:=by
 intro l
 induction l with
 |nil=>intro i;rfl
 |cons y l ih=>
  intro i;cases i with
  |zero=>rfl
  |succ i=>exact congrArg (f y::·) ih
theorem yf {α:Type}[DecidableEq α]:∀{l t:List α},t.Nodup→(∀x∈t,x∈l)→l.length≤t.length→l.Nodup:=by
 intro l
 induction l with
 |nil=>intro t _ _ _;exact nodup_nil
 |cons y l ih=>
  intro t nd sub hl;rw[length_cons]at hl;have sub2:∀x∈t.erase y,x∈l:=fun x hx=>by
   have hm:=List.mem_of_mem_erase hx
   rcases mem_cons.mp (sub x hm) with e|e
   ·subst e;exact absurd hx (List.Nodup.not_mem_erase nd)
   ·exact e
  have nd2:=nd.erase y;have len:=bo nd2 sub2;have len2:=List.length_erase (a:=y) (l:=t);split at len2
  ·refine nodup_cons.mpr ⟨fun hy=>?_,ih nd2 sub2 (by omega)⟩;have:=bo nd fun x hx=>by
    rcases mem_cons.mp (sub x hx) with e|e
    ·rw[e];exact hy
    ·exact e
   omega
  ·omega
noncomputable def oP (ts:List Tr)(s k:Nat):Bool:=decide (s∈aO (ts.getD k (0,0,0)))
theorem yh {ts:List Tr}{s k:Nat}(hk:k<ts.length):oP ts s k=true↔(k,s)∈ah ts:=by
 unfold oP;rw[decide_eq_true_iff,mem_visits];constructor
 ·exact fun h=>⟨_,eQ hk,h⟩
 ·intro hZ39;obtain⟨t,ht,h⟩:=hZ39;rw[eQ (d:=(0,0,0)) hk]at ht;cases ht;exact h
theorem vd {n:Nat}{ts:List Tr}{O:List (List Nat)}(hl:O.length=n)(h:∀s,s<n→∃row:List Nat,row.Perm (List.range ts.length)∧(O.getD s []).Perm (row.filter (oP ts s))):Ords n ts O:=by
 refine⟨hl,fun s=>?_,fun s k hs=>?_⟩
 ·by_cases hs:s<n
  ·obtain⟨row,p1,p2⟩:=h s hs;exact p2.nodup_iff.mpr ((p1.nodup_iff.mpr nodup_range).filter _)
  ·rw[getD_eq_getElem?_getD,getElem?_eq_none (by omega)];exact nodup_nil
 ·obtain⟨row,p1,p2⟩:=h s hs;rw[p2.mem_iff,mem_filter,p1.mem_iff,mem_range];constructor
  ·exact fun z=>(yh z.1).mp z.2
  ·intro z;obtain⟨t,ht,_⟩:=mem_visits.mp z;have hk:=(gz ht).1;exact⟨hk,(yh hk).mpr z⟩
section
variable{K:W.Frag}{CL:Addr}{Y:Ad}{n:Nat}{ts:List Tr}
theorem BC (hg:∀t∈ts,Good n t)(hn:n≤1000){s k:Nat}(hk:k<ts.length):cZ (ae (ac 1) (bf (pC (ae (ac 2) (ac 0) aH) pN) (aS K CL Y)) (lh false)) [some (.int (k:Int)),some (.int (s:Int)),some (.lst (ts.map a8))]= .ok (oP ts s k):=by
 have hx:=eQ (d:=((0,0,0):Tr)) hk;have hix:=bR (g:=a8) hx;have hw:=jA (K:=K) (CL:=CL) (Y:=Y) (hg _ (mem_of_getElem? hx)) hn;simp only[aR,hix,hw,Fv];rfl
theorem zc (hg:∀t∈ts,Good n t)(hn:n≤1000)(ht:ts.length≤5):b8 K CL Y [.int (n:Int),.lst (ts.map a8)]= .ok (.lst ((List.range n).map fun s=>.lst (au ((List.range ts.length).filter (oP ts s))))):=by
 unfold b8;refine(br rfl).trans ?_;have e0:aK eN [.int (n:Int),.lst (ts.map a8)]=[some (.int (n:Int)),some (.lst (ts.map a8))]:=rfl;rw[e0];unfold eE;rw[iZ,bM (xs:=List.range n) (c:=fun (s:Nat)=>D.int (s:Int)) (g:=fun s=>.lst (au ((List.range ts.length).filter (oP ts s)))) (by simp only[aR,dZ (show n<1000000 by omega)]) (by rw[length_range];omega) (fun s hs=>⟨_,rfl,?_⟩)]
 ·rfl
 ·show aT (sR1 (pC (c1 (ac 1) bq) pN)) [none,some 0,some 1] (bt 0) (cZ (ae (ac 1) (bf (pC (ae (ac 2) (ac 0) aH) pN) (aS K CL Y)) (lh false))) (ac 0) [some (.int (s:Int)),some (.lst (ts.map a8))]=_;exact dk (xs:=List.range ts.length) (c:=fun (k:Nat)=>D.int (k:Int)) (p:=oP ts s) (g:=fun (k:Nat)=>D.int (k:Int)) (by simp only[aR,b7,dZ (show ts.length<1000000 by omega)]) (by rw[length_range];omega) (fun k hk=>⟨_,rfl,BC hg hn (mem_range.mp hk),fun _=>rfl⟩)
theorem vU {j i:Nat}{ρ:DS}{fi:DS→Res D}{l r:List D}{m:Nat}{x:D}(h1:ρ[j]?=some (some (.lst l)))(h2:ρ[i]?=some (some (.lst r)))(hf:fi ρ= .ok (.int (m:Int)))(hx:r[m]?=some x)(hl:l.length≤1000)(hr:r.length≤1000):hG j i fi ρ= .nx ((ρ.set i (some (.lst (r.eraseIdx m)))).set j (some (.lst (l ++ [x])))):=by
 unfold hG;rw[h1,h2];dsimp only;rw[b_ hf];unfold nY;dsimp only;rw[Aj (gz hx).1];dsimp only;rw[hx];exact if_pos ⟨cI (by omega),cI (by omega)⟩
noncomputable abbrev rO (ns rs:List Int)(base g:Int)(ts:List Tr)(O:List (List Nat))(o7 o8 o9:Option D):DS:=[some (.scr ns),some (.int base),some (.lst (rs.map D.int)),some (.int g),some (.lst (ts.map a8)),some (.int 0),some (aD O),o7,o8,o9,none]
theorem yT {ns rs:List Int}{base g:Int}{O:List (List Nat)}(h0:0≤base)(h1:base<1000){s:Nat}(hs:s<5)(ht:ts.length≤5){L:List Nat}(hL:L.length≤5) :
  ∃ρ',bL (cZ (ae (c1 (ac 8) bq) (kI 0) Dv)) (hG 9 8 (bf (pC (ac 0) (pC (ae (ae (ae (ac 1) (kI 1) aU) (ae (kI 6) (ac 7) fF) aU) (c1 (ac 9) bq) aU) (pC (c1 (ac 8) bq) pN))) (aw K CL Y))) 6 (rO ns rs base g ts O (some (.int (s:Int))) (some (.lst (au L))) (some (.lst [])))= .nx ρ'∧∃row:List Nat,row.Perm L∧ρ'=rO ns rs base g ts O (some (.int (s:Int))) (some (.lst [])) (some (.lst (au row))):=by
 refine fP (fun m ρ=>∃l r:List Nat,ρ=rO ns rs base g ts O (some (.int (s:Int))) (some (.lst (au l))) (some (.lst (au r)))∧(r ++ l).Perm L∧l.length=m) (fun ρ=>∃row:List Nat,row.Perm L∧ρ=rO ns rs base g ts O (some (.int (s:Int))) (some (.lst [])) (some (.lst (au row)))) (fun m ρ hZ190=>?_) L.length 6 _ (by omega) ⟨L,[],rfl,.refl _,rfl⟩;obtain⟨l,r,e,hp,hm⟩:=hZ190;subst e;have hlen:=hp.length_eq;rw[length_append]at hlen;have e1:bq [.lst (au l)]= .ok (.int (l.length:Int)):=b7;have e2:bq [.lst (au r)]= .ok (.int (r.length:Int)):=b7;cases l with
 |nil=>
  refine .inl ⟨?_,r,by rw[append_nil]at hp;exact hp,rfl⟩;simp only[aR,e1];rfl
 |cons y l=>
  have hl1:(y::l).length=l.length+1:=rfl;cases m with
  |zero=>omega
  |succ m=>
   have db:=eP (ns:=ns) (k:=base+1+6*(s:Int)+(r.length:Int)) (many:=((y::l).length:Int)) (by omega);obtain⟨d,hd⟩:∃d:Nat,drawn ns (base+1+6*(s:Int)+(r.length:Int)) ((y::l).length:Int)=(d:Int):=⟨(drawn ns (base+1+6*(s:Int)+(r.length:Int)) ((y::l).length:Int)).toNat,by omega⟩;have hdr:=cH (K:=K) (CL:=CL) (Y:=Y) (ns:=ns) (k:=base+1+6*(s:Int)+(r.length:Int)) (many:=((y::l).length:Int)) (by omega) (by omega) (by omega) (by omega);rw[hd]at hdr db;have hdl:d<(y::l).length:=by omega
   have hx:=iN hdl;have hgt:((y::l).length:Int)>0:=by omega
   refine .inr ⟨by simp only[aR,e1,decide_eq_true hgt],m,rO ns rs base g ts O (some (.int (s:Int))) (some (.lst (au ((y::l).eraseIdx d)))) (some (.lst (au (r ++ [(y::l)[d]])))),rfl,?_,(y::l).eraseIdx d,r ++ [(y::l)[d]],rfl,?_,?_⟩
   ·rw[vU (l:=au r) (r:=au (y::l)) (m:=d) (x:=.int (((y::l)[d]:Nat):Int)) rfl rfl ?_ (by unfold au;rw[getElem?_map,hx];rfl) (by unfold au;rw[length_map];omega) (by unfold au;rw[length_map];omega)]
    ·have q1:(au (y::l)).eraseIdx d=au ((y::l).eraseIdx d):=by unfold au;exact vT
     have q2:au r ++ [.int (((y::l)[d]:Nat):Int)]=au (r ++ [(y::l)[d]]):=by unfold au;rw[map_append];rfl
     rw[q1,q2];rfl
    ·simp (disch:=omega) only[aR,ku,e1,e2,hdr]
   ·have:=(ul hx).append_left r;rw[append_assoc];exact this.trans hp
   ·have:=List.length_eraseIdx_of_lt hdl;omega
theorem wB {ns rs:List Int}{base g:Int}(h0:0≤base)(h1:base<1000)(hg:∀t∈ts,Good rs.length t)(hn:rs.length≤5)(ht:ts.length≤5)(hm:drawn ns base 3=0):∃O,Ords rs.length ts O∧bb K CL Y [.scr ns,.int base,.lst (rs.map D.int),.int g,.lst (ts.map a8)]= .ok (aD O):=by
 have d1:=cH (K:=K) (CL:=CL) (Y:=Y) (ns:=ns) (k:=base) (many:=3) (by omega) (by omega) (by omega) (by omega);rw[hm]at d1;have hu:=zc (K:=K) (CL:=CL) (Y:=Y) hg (by omega) ht;have hlr:bq [.lst (rs.map D.int)]= .ok (.int (rs.length:Int)):=b7;have loop:=i6 (asg:=bt 7) (F:=(aC (aJ 8 (bJ aG (bf (Dx (ae (bf (pC (c1 (ac 2) bq) (pC (ac 4) pN)) (b8 K CL Y)) (ac 7) aH)) cE)))
  (aC (aJ 9 (bJ aG (dM pN)))
  (aC (bL (cZ (ae (c1 (ac 8) bq) (kI 0) Dv)) (hG 9 8 (bf (pC (ac 0) (pC (ae (ae (ae (ac 1) (kI 1) aU) (ae (kI 6) (ac 7) fF) aU) (c1 (ac 9) bq) aU) (pC (c1 (ac 8) bq) pN))) (aw K CL Y))) 6)
  (mQ 6 9))))) (st:=fun pre ρ=>∃O o7 m o9,ρ=rO ns rs base g ts O o7 m o9∧O.length=pre.length∧∀s,s<O.length→(O.getD s []).Perm ((List.range ts.length).filter (oP ts s))) (c:=fun (s:Nat)=>D.int (s:Int)) (List.range rs.length) [] (rO ns rs base g ts [] none none none) ⟨[],none,none,none,rfl,rfl,fun s h=>by cases h⟩ (fun pre s post ex ρ ⟨O,o7,m,o9,e,hl,hO⟩=>?_)
 ·obtain⟨ρ',e,O,o7,m,o9,eρ,hl,hO⟩:=loop;rw[nil_append,length_range]at hl;refine⟨O,vd hl fun s hs=>⟨_,.refl _,hO s (by omega)⟩,?_⟩;unfold bb;refine(br rfl).trans ?_;have e0:aK ba [.scr ns,.int base,.lst (rs.map D.int),.int g,.lst (ts.map a8)]=[some (.scr ns),some (.int base),some (.lst (rs.map D.int)),some (.int g),some (.lst (ts.map a8)),none,none,none,none,none,none]:=rfl;rw[e0];unfold bV;simp only[aR,d1,hlr,dZ (show rs.length<1000000 by omega)];have er:[some (D.scr ns),some (.int base),some (.lst (rs.map D.int)),some (.int g),some (.lst (ts.map a8)),some (.int 0),some (.lst []),none,none,none,none]=rO ns rs base g ts [] none none none:=rfl;rw[er];rw[e,eρ];rfl
 ·subst e;rw[nil_append]at ex;have hps:pre.length=s:=by
   have h2:(List.range rs.length)[pre.length]?=(pre ++ s::post)[pre.length]?:=by rw[ex]
   rw[getElem?_append_right (le_refl _),sub_self]at h2;have h3:=gz (show (List.range rs.length)[pre.length]?=some s from h2);obtain⟨_,h4⟩:=h3;rw[List.getElem_range]at h4;exact h4
  have hsn:s<rs.length:=by
   have:=congrArg List.length ex;rw[length_range,length_append,length_cons]at this;omega
  have hix:aH (.lst ((List.range rs.length).map fun s=>D.lst (au ((List.range ts.length).filter (oP ts s))))) (.int (s:Int))= .ok (.lst (au ((List.range ts.length).filter (oP ts s)))):=bR (g:=fun s=>D.lst (au ((List.range ts.length).filter (oP ts s)))) (by rw[List.getElem?_range hsn]);have hll:((List.range ts.length).filter (oP ts s)).length≤5:=by
   have:=List.length_filter_le (oP ts s) (List.range ts.length);rw[length_range]at this;omega
  obtain⟨ρ2,ew,Q,hp,e2⟩:=yT (K:=K) (CL:=CL) (Y:=Y) (ns:=ns) (rs:=rs) (base:=base) (g:=g) (O:=O) h0 h1 (s:=s) (by omega) ht hll;subst e2;refine⟨_,rfl,rO ns rs base g ts (O ++ [Q]) (some (.int (s:Int))) (some (.lst [])) none,?_,O ++ [Q],_,_,_,rfl,by rw[length_append,length_append,hl];rfl,fun s' hs'=>?_⟩
  ·have hld:∀l:List D,cE [.lst l]= .ok (.lst l):=fun _=>rfl;have er:(rO ns rs base g ts O o7 m o9).set 7 (some (.int (s:Int)))=rO ns rs base g ts O (some (.int (s:Int))) m o9:=rfl;rw[er];have e8:aJ 8 (bJ aG (bf (Dx (ae (bf (pC (c1 (ac 2) bq) (pC (ac 4) pN)) (b8 K CL Y)) (ac 7) aH)) cE)) (rO ns rs base g ts O (some (.int (s:Int))) m o9)= .nx (rO ns rs base g ts O (some (.int (s:Int))) (some (.lst (au ((List.range ts.length).filter (oP ts s))))) o9):=by
    simp only[aR,Dx,hlr,hu,hix,hld]
   have e9:∀m,aJ 9 (bJ aG (dM pN)) (rO ns rs base g ts O (some (.int (s:Int))) m o9)= .nx (rO ns rs base g ts O (some (.int (s:Int))) m (some (.lst []))):=fun m=>by simp only[aR]
   rw[bQ,e8,aY,bQ,e9,aY,bQ,ew,aY];unfold mQ;show (if aM (O.map fun o=>D.lst (au o)).length=true then _ else _)=_
   rw[if_pos (cI (by rw[length_map,hl,hps];omega))];have:(O.map fun o=>D.lst (au o)) ++ [.lst (au Q)]=(O ++ [Q]).map fun o=>D.lst (au o):=by rw[map_append];rfl
   rw[this];rfl
  ·rw[length_append,length_singleton]at hs';rw[getD_eq_getElem?_getD];by_cases h:s'<O.length
   ·rw[getElem?_append_left h,←getD_eq_getElem?_getD];exact hO s' h
   ·have:s'=s:=by omega
    subst this;rw[getElem?_append_right (by omega)];have:s' - O.length=0:=by omega
    rw[this];exact hp
theorem wC {ns rs:List Int}{base g m:Int}(h0:0≤base)(h1:base<1000)(hg:∀t∈ts,Good rs.length t)(hn:rs.length≤5)(ht:ts.length≤5)(hm:drawn ns base 3=m)(hm1:m=1∨m=2):∃O,Ords rs.length ts O∧bb K CL Y [.scr ns,.int base,.lst (rs.map D.int),.int g,.lst (ts.map a8)]= .ok (aD O):=by
 have d1:=cH (K:=K) (CL:=CL) (Y:=Y) (ns:=ns) (k:=base) (many:=3) (by omega) (by omega) (by omega) (by omega);rw[hm]at d1;have hlr:bq [.lst (rs.map D.int)]= .ok (.int (rs.length:Int)):=b7;have hlt:bq [.lst (ts.map a8)]= .ok (.int (ts.length:Int)):=b7
 -- the ranks,as they are put first and as they are sorted
 let g1:Q→D:=fun q=>.tup [.int (q.1.2.2*(m-1)),.int (q.2:Int)]
 let A:Nat→Int:=fun k=>(ts.getD k (0,0,0)).2.2*(m-1)+drawn ns (base+40+(k:Int)) 9
 let L:List (List Int):=(List.range ts.length).map fun k=>[A k,(k:Int)]
 obtain⟨l,hs,hl,hmem⟩:=wQ L (by show ((List.range ts.length).map _).length≤5;rw[length_map,length_range];exact ht) (fun t h=>by
  obtain⟨k,_,e⟩:=mem_map.mp h;rw[←e];exact List.cons_ne_nil _ _)
 have hl5:l.length=ts.length:=by rw[hl];show ((List.range ts.length).map _).length=_;rw[length_map,length_range]
 let R:List Nat:=l.map fun t=>(t.getD 1 0).toNat
 have htup:∀t∈l,∃k,k<ts.length∧t=[A k,(k:Int)]:=fun t h=>by
  obtain⟨k,C,e⟩:=mem_map.mp ((hmem t).mp h);exact⟨k,mem_range.mp C,e.symm⟩
 have u:∀k,k∈R↔k∈List.range ts.length:=fun k=>by
  constructor
  ·intro h;obtain⟨t,h1,h2⟩:=mem_map.mp h;obtain⟨k',C,e⟩:=htup t h1;subst e;have h2:(k':Int).toNat=k:=h2;rw[toNat_natCast]at h2;rw[←h2];exact mem_range.mpr C
  ·intro h;exact mem_map.mpr ⟨[A k,(k:Int)],(hmem _).mpr (mem_map.mpr ⟨k,h,rfl⟩),toNat_natCast k⟩
 have hnd:R.Nodup:=yf nodup_range (fun k C=>(u k).mpr C) (by show (l.map _).length≤_;rw[length_map,length_range,hl5];exact le_refl _);have hperm:R.Perm (List.range ts.length):=(List.perm_ext_iff_of_nodup hnd nodup_range).mpr u;have hrl:R.length=ts.length:=by show (l.map _).length=_;rw[length_map,hl5]
 refine⟨(List.range rs.length).map fun s=>R.filter (oP ts s),vd (by rw[length_map,length_range]) fun s hs=>⟨R,hperm,?_⟩,?_⟩
 ·rw[getD_eq_getElem?_getD,getElem?_map,List.getElem?_range hs];exact .refl _
 unfold bb;refine(br rfl).trans ?_;have e0:aK ba [.scr ns,.int base,.lst (rs.map D.int),.int g,.lst (ts.map a8)]=[some (.scr ns),some (.int base),some (.lst (rs.map D.int)),some (.int g),some (.lst (ts.map a8)),none,none,none,none,none,none]:=rfl;rw[e0];unfold bV;have hne:(m==0)=false:=beq_eq_false_iff_ne.mpr (by omega);have c1':aT (sE (pC (ac 4) pN)) [none,none,some 5] (hJ 0 1) yes (cS (pC (ae (ae (ac 1) (kI 2) aH) (ae (ac 2) (kI 1) qX) fF) (pC (ac 0) pN))) [some (.scr ns),some (.int base),some (.lst (rs.map D.int)),some (.int g),some (.lst (ts.map a8)),some (.int m),none,none,none,none,none]= .ok (.lst (ts.zipIdx.map g1)):=by
  refine bM (xs:=ts.zipIdx) (c:=fun q:Q=>D.tup [.int (q.2:Int),a8 q.1]) (g:=g1) (by simp only[aR,jv]) (by rw[length_zipIdx];omega) (fun q hq=>⟨_,rfl,?_⟩);have e2:aH (a8 q.1) (.int 2)= .ok (.int q.1.2.2):=uW;show cS (pC (ae (ae (ac 1) (kI 2) aH) (ae (ac 2) (kI 1) qX) fF) (pC (ac 0) pN)) [some (.int (q.2:Int)),some (a8 q.1),some (.int m)]=_;simp (disch:=omega) only[aR,e2,kx];rfl
 have c2':aT (sR1 (pC (c1 (ac 4) bq) pN)) [none,some 0,some 10,some 1] (bt 0) yes (cS (pC (ae (ae (ae (ac 2) (ac 0) aH) (kI 0) aH) (bf (pC (ac 1) (pC (ae (ae (ac 3) (kI 40) aU) (ac 0) aU) (pC (kI 9) pN))) (aw K CL Y)) aU) (pC (ac 0) pN))) [some (.scr ns),some (.int base),some (.lst (rs.map D.int)),some (.int g),some (.lst (ts.map a8)),some (.int m),none,none,none,none,some (.lst (ts.zipIdx.map g1))]= .ok (.lst (L.map fun t=>.tup (t.map D.int))):=by
  have eL:(L.map fun t=>D.tup (t.map D.int))=(List.range ts.length).map fun (k:Nat)=>D.tup [.int (A k),.int (k:Int)]:=by show ((List.range ts.length).map _).map _=_;rw[map_map];rfl
  rw[eL];refine bM (xs:=List.range ts.length) (c:=fun (k:Nat)=>D.int (k:Int)) (g:=fun (k:Nat)=>D.tup [.int (A k),.int (k:Int)]) (by simp only[aR,hlt,dZ (show ts.length<1000000 by omega)]) (by rw[length_range];omega) (fun k C=>⟨_,rfl,?_⟩);have C:=mem_range.mp C;have hz:ts.zipIdx[k]?=some (ts.getD k (0,0,0),k):=by rw[List.getElem?_zipIdx,eQ (d:=(0,0,0)) C];simp
  have hix:aH (.lst (ts.zipIdx.map g1)) (.int (k:Int))= .ok (g1 (ts.getD k (0,0,0),k)):=bR (g:=g1) hz;have hi0:aH (g1 (ts.getD k (0,0,0),k)) (.int 0)= .ok (.int ((ts.getD k (0,0,0)).2.2*(m-1))):=gd rfl;have hdr:=cH (K:=K) (CL:=CL) (Y:=Y) (ns:=ns) (k:=base+40+(k:Int)) (many:=9) (by omega) (by omega) (by omega) (by omega);show cS (pC (ae (ae (ae (ac 2) (ac 0) aH) (kI 0) aH) (bf (pC (ac 1) (pC (ae (ae (ac 3) (kI 40) aU) (ac 0) aU) (pC (kI 9) pN))) (aw K CL Y)) aU) (pC (ac 0) pN)) [some (.int (k:Int)),some (.scr ns),some (.lst (ts.zipIdx.map g1)),some (.int base)]=_;simp only[aR,hix,hi0,hdr];rfl
 have c3':aT (sL (c1 (ac 10) iG)) [none] (bt 0) yes (ae (ac 0) (kI 1) aH) [some (.scr ns),some (.int base),some (.lst (rs.map D.int)),some (.int g),some (.lst (ts.map a8)),some (.int m),none,none,none,none,some (.lst (L.map fun t=>.tup (t.map D.int)))]= .ok (.lst (au R)):=by
  have er:au R=l.map fun t=>D.int ((t.getD 1 0).toNat:Int):=by unfold au;show (l.map _).map _=_;rw[map_map];rfl
  rw[er];refine bM (xs:=l) (c:=fun t=>D.tup (t.map D.int)) (g:=fun t=>D.int ((t.getD 1 0).toNat:Int)) (by simp only[aR,hs]) (by omega) (fun t h=>⟨_,rfl,?_⟩);obtain⟨k,C,e⟩:=htup t h;subst e;show ae (ac 0) (kI 1) aH [some (.tup [.int (A k),.int (k:Int)])]=_;have hi1:aH (.tup [.int (A k),.int (k:Int)]) (.int 1)= .ok (.int (k:Int)):=gd rfl;simp only[aR,hi1];show _=Res.ok (D.int (((k:Int).toNat:Nat):Int));rw[toNat_natCast]
 have c4':aT (sR1 (pC (c1 (ac 2) bq) pN)) [none,some 9,some 4] (bt 0) yes (aT (sL (ac 1)) [none,some 0,some 2] (bt 0) (cZ (ae (ac 1) (bf (pC (ae (ac 2) (ac 0) aH) pN) (aS K CL Y)) (lh false))) (ac 0)) [some (.scr ns),some (.int base),some (.lst (rs.map D.int)),some (.int g),some (.lst (ts.map a8)),some (.int m),none,none,none,some (.lst (au R)),some (.lst (L.map fun t=>.tup (t.map D.int)))]= .ok (aD ((List.range rs.length).map fun s=>R.filter (oP ts s))):=by
  have eR:aD ((List.range rs.length).map fun s=>R.filter (oP ts s))=D.lst ((List.range rs.length).map fun s=>D.lst (au (R.filter (oP ts s)))):=by unfold aD;rw[map_map];rfl
  rw[eR];refine bM (xs:=List.range rs.length) (c:=fun (k:Nat)=>D.int (k:Int)) (g:=fun s=>D.lst (au (R.filter (oP ts s)))) (by simp only[aR,hlr,dZ (show rs.length<1000000 by omega)]) (by rw[length_range];omega) (fun s _=>⟨_,rfl,?_⟩);show aT (sL (ac 1)) [none,some 0,some 2] (bt 0) (cZ (ae (ac 1) (bf (pC (ae (ac 2) (ac 0) aH) pN) (aS K CL Y)) (lh false))) (ac 0) [some (.int (s:Int)),some (.lst (au R)),some (.lst (ts.map a8))]=_;exact dk (xs:=R) (c:=fun (k:Nat)=>D.int (k:Int)) (p:=oP ts s) (g:=fun (k:Nat)=>D.int (k:Int)) rfl (by omega) (fun k C=>⟨_,rfl,BC hg (by omega) (mem_range.mp ((u k).mp C)),fun _=>rfl⟩)
 have lf:bU 2 (aD ((List.range rs.length).map fun s=>R.filter (oP ts s)))=true:=pB fun _ _=>pB fun _ _=>rR;simp only[aR,d1,hne,c1',c2',c3',c4',lf]
theorem sx {ns rs:List Int}{base g:Int}(h0:0≤base)(h1:base<1000)(hg:∀t∈ts,Good rs.length t)(hn:rs.length≤5)(ht:ts.length≤5):∃O,Ords rs.length ts O∧bb K CL Y [.scr ns,.int base,.lst (rs.map D.int),.int g,.lst (ts.map a8)]= .ok (aD O):=by
 have b:=eP (ns:=ns) (k:=base) (many:=3) (by omega);by_cases hm:drawn ns base 3=0
 ·exact wB h0 h1 hg hn ht hm
 ·exact wC h0 h1 hg hn ht rfl (by omega)
end
set_option maxHeartbeats 4000000
section
variable{K:W.Frag}{CL:Addr}{Y:Ad}{rs:List Int}{g:Int}{ts:List Tr}{O:List (List Nat)}
theorem rb (C:Ctx rs g ts)(H:Ords rs.length ts O):∀v∈ah ts,(bZ rs g ts O v).length≤1000:=fun v hv=>by
 have hn5:=C.ln.few;have ht5:=C.few;have h5:∀q∈ts.zipIdx,(aO q.1).length≤5:=fun q hq=>by
  have:=fN (C.good hq);omega
 obtain⟨t,ht,hs⟩:=mem_visits.mp hv;have hlt:=fY (C.tr t (mem_of_getElem? ht)) _ hs;rw[←pZ hv (by rw[H.len];exact hlt)];have h1:=kr (rs:=rs) (qs:=ts.zipIdx) h5;have h2:=mn (rs:=rs) (g:=g) (os:=O.zipIdx) fun o ho=>by
  have hz:=mem_zip.mp ho;have hs:o.2<rs.length:=by rw[←H.len];exact(gz hz).1
  have:=my H hs;have e1:O.getD o.2 []=o.1:=by rw[getD_eq_getElem?_getD,hz];rfl
  rw[e1]at this;omega
 have h3:=mO (E:=tL rs ts.zipIdx ++ xy rs g O.zipIdx) (v:=v);rw[length_append]at h3;rw[length_zipIdx]at h1 h2;rw[H.len]at h2;omega
theorem q_ (C:Ctx rs g ts)(H:Ords rs.length ts O):cC K CL Y [fW (ah ts) (bZ rs g ts O)]=if (aB rs g ts O).length<(ah ts).length then .exc Y.ST else .ok (.lst ((aB rs g ts O).map vD)):=by
 have ht:cT K CL Y [fW (ah ts) (bZ rs g ts O)]= .ok (.lst ((aB rs g ts O).map vD)):=r7 bz (lg C) fun v hv=>le_trans (rb C H v hv) (by decide);have hlk:tX [fW (ah ts) (bZ rs g ts O)]= .ok (.int ((ah ts).length:Int)):=by
  show Res.ok (D.int (((ah ts).map gF).length:Int))=_;rw[length_map]
 have e0:aK gZ [fW (ah ts) (bZ rs g ts O)]=[some (fW (ah ts) (bZ rs g ts O)),none]:=rfl;unfold cC;refine(br rfl).trans ?_;rw[e0];unfold eJ;by_cases hlen:(aB rs g ts O).length<(ah ts).length
 ·rw[if_pos hlen];have hlen':((aB rs g ts O).length:Int)<((ah ts).length:Int):=by omega
  simp only[aR,ht,hlk,b7,decide_eq_true hlen']
 ·rw[if_neg hlen];have hlen':¬((aB rs g ts O).length:Int)<((ah ts).length:Int):=by omega
  simp only[aR,ht,hlk,b7,decide_eq_false hlen']
theorem qC {t:List Vt}{f:Vt→Int}:jP (fE t f)= .ok (t.map vD):=by
 show Res.ok ((t.map gF).map wj)=_;rw[map_map];rfl
theorem iv0 {v:Vt}:aH (vD v) (.int 0)= .ok (.int (v.1:Int)):=gd rfl
theorem CA {v:Vt}:aH (vD v) (.int 1)= .ok (.int (v.2:Int)):=gd rfl
theorem qS {s:Nat}(h:s<rs.length):aH (.lst (rs.map D.int)) (.int (s:Int))= .ok (.int (rs.getD s 0)):=bR (g:=D.int) (eQ h)
theorem sf {t:List Vt}{f:Vt→Int}(nd:t.Nodup)(hl:t.length≤39)(hr:∀v∈t,v.2<rs.length):cU K CL Y [aF CL rs g,fE t f]= .ok (dE t (fun v=>f v+rs.getD v.2 0)):=by
 unfold cU;refine(br rfl).trans ?_;have e0:aK iT [aF CL rs g,fE t f]=[some (aF CL rs g),some (fE t f),none,none,none]:=rfl;rw[e0];unfold fS;simp only[aR,E0,lJ,L2.sD,qC];refine dz (fun pre ρ=>∃o4,ρ=[some (aF CL rs g),some (fE t f),some (.lst (rs.map D.int)),some (dE pre (fun v=>f v+rs.getD v.2 0)),o4]) ⟨none,rfl⟩ (fun pre v post exs ρ hZ192=>?_) (fun ρ' hZ193=>?_)
 ·obtain⟨o4,e⟩:=hZ192;subst e;have hvt:v∈t:=by rw[exs];simp
  have nv:v∉pre:=fun z=>by
   rw[exs]at nd;exact(nodup_append.mp nd).2.2 v z v (mem_cons_self ..) rfl
  have hpl:pre.length≤39:=by
   have:=congrArg List.length exs;rw[length_append]at this;omega
  have hg:aQ (fE t f) (vD v)= .ok (.int (f v)):=dL hvt;refine⟨_,rfl,?_⟩;refine⟨_,mq (ks:=pre.map gF) (l:=pre.map fun v=>.int (f v+rs.getD v.2 0)) (k:=gF v) (d:=.int (f v+rs.getD v.2 0)) (kd:=[.int (v.1:Int),.int (v.2:Int)]) rfl (by simp only[aR,hg,CA,qS (hr v hvt)]) (by simp only[aR];rfl) i9 (by rw[length_map];omega),some (vD v),?_⟩;rw[mF (f:=fun x=>D.int (f x+rs.getD x.2 0)) nv];rfl
 ·obtain⟨o4,e⟩:=hZ193;subst e;simp only[aR]
theorem oU {vs:List Vt}{W:Vt→List (Vt×Int)}{t:List Vt}{f:Vt→Int}{v:Vt}(hv:v∈vs)(ht:v∈t)(hW:∀u∈W v,u.1∈t)(hl:(W v).length≤100000):bj K CL Y [fW vs W,fE t f,vD v]= .ok (.lst (((W v).filter fun u=>f u.1+u.2==f v).map fun u=>vD u.1)):=by
 unfold bj;refine(br rfl).trans ?_;have e0:aK dX [fW vs W,fE t f,vD v]=[some (fW vs W),some (fE t f),some (vD v)]:=rfl;rw[e0];unfold dU;have hg:aQ (fW vs W) (vD v)= .ok (lW W v):=dL hv;have hgv:aQ (fE t f) (vD v)= .ok (.int (f v)):=dL ht;rw[iZ,dk (xs:=W v) (c:=wD) (p:=fun u=>f u.1+u.2==f v) (g:=fun u=>vD u.1) (by simp only[aR,hg];rfl) hl (fun u hu=>⟨_,rfl,?_,fun _=>?_⟩)]
 ·rfl
 ·have hgu:aQ (fE t f) (vD u.1)= .ok (.int (f u.1)):=dL (hW u hu);show cZ (ae (ae (ae (ac 1) (ae (ac 0) (kI 0) aH) aQ) (ae (ac 0) (kI 1) aH) aU) (ae (ac 1) (ac 2) aQ) pf) [some (wD u),some (fE t f),some (vD v)]=_;simp only[aR,r9,Br,hgu,hgv]
 ·show ae (ac 0) (kI 0) aH [some (wD u),some (fE t f),some (vD v)]=_;simp only[aR,r9]
end
set_option maxHeartbeats 4000000
section
variable{K:W.Frag}{CL:Addr}{Y:Ad}{rs:List Int}{g:Int}{ts:List Tr}{O:List (List Nat)}
theorem Am {t:List Vt}{f:Vt→Int}(h:t≠[]):lZ (fE t f)= .ok (.int (dN (t.map f))):=by
 cases t with
 |nil=>exact absurd rfl h
 |cons v t=>
  unfold fE lZ;dsimp only;have e:((v::t).map fun v=>D.int (f v))=((v::t).map f).map D.int:=by rw[map_map];rfl
  rw[e,d9];rfl
structure Chain (vs:List Vt)(W:Vt→List (Vt×Int))(E F:Vt→Int)(M:Int)(L:List Vt):Prop where
 len:L.length≤39
 sub:∀v∈L,v∈vs
 fst:∃v,L[0]?=some v∧∀u∈W v,E u.1+u.2≠E v
 nxt:∀i a b,L[i]?=some a→L[i+1]?=some b→∃u∈W b,u.1=a∧E a+u.2=E b
 lst:∃v,L[L.length-1]?=some v∧F v=M
structure Walk (vs:List Vt)(W:Vt→List (Vt×Int))(E:Vt→Int)(v0 v:Vt)(wl:List Vt):Prop where
 sub:∀x∈wl,x∈vs
 hd:wl[0]?=some v0
 la:wl[wl.length-1]?=some v
 pos:0<wl.length
 low:∀x∈wl,E v≤E x
 nd:wl.Nodup
 nxt:∀i a b,wl[i]?=some b→wl[i+1]?=some a→∃u∈W b,u.1=a∧E a+u.2=E b
theorem Walk.one {vs:List Vt}{W:Vt→List (Vt×Int)}{E:Vt→Int}{v:Vt}(h:v∈vs):Walk vs W E v v [v] where
 sub x hx:=by rw[mem_singleton.mp hx];exact h
 hd:=rfl
 la:=rfl
 pos:=Nat.zero_lt_one
 low x hx:=by rw[mem_singleton.mp hx];exact Int.le_refl _
 nd:=by simp
 nxt i a b h1 h2:=by simp at h2
theorem Walk.more {vs:List Vt}{W:Vt→List (Vt×Int)}{E:Vt→Int}{v0 v:Vt}{wl:List Vt}(w:Walk vs W E v0 v wl){u:Vt×Int}(hu:u∈W v)(h1:1≤u.2)(hv:u.1∈vs)(he:E u.1+u.2=E v):Walk vs W E v0 u.1 (wl ++ [u.1]):=by
 have hp:=w.pos;have lt:∀x∈wl,E u.1<E x:=fun x hx=>by have:=w.low x hx;omega
 refine⟨fun x hx=>?_,?_,?_,by rw[length_append];omega,fun x hx=>?_,?_,fun i a b e1 e2=>?_⟩
 ·rcases mem_append.mp hx with z|z
  ·exact w.sub x z
  ·rw[mem_singleton.mp z];exact hv
 ·rw[getElem?_append_left hp];exact w.hd
 ·rw[length_append,length_singleton,Nat.add_sub_cancel,getElem?_append_right (le_refl _),sub_self];rfl
 ·rcases mem_append.mp hx with z|z
  ·exact Int.le_of_lt (lt x z)
  ·rw[mem_singleton.mp z];exact Int.le_refl _
 ·refine nodup_append.mpr ⟨w.nd,by simp,fun a ha b hb e=>?_⟩;rw[mem_singleton.mp hb]at e;have:=lt a ha;rw[e]at this;omega
 ·by_cases hi:i+1<wl.length
  ·rw[getElem?_append_left hi]at e2;rw[getElem?_append_left (by omega)]at e1;exact w.nxt i a b e1 e2
  ·have hl:i+1<(wl ++ [u.1]).length:=(gz e2).1;rw[length_append,length_singleton]at hl;have ei:i+1=wl.length:=by omega
   rw[getElem?_append_right (by omega),ei,sub_self]at e2;rw[getElem?_append_left (by omega),show i=wl.length-1 by omega,w.la]at e1;cases e1;have e2':u.1=a:=by simpa using e2
   subst e2';exact⟨u,hu,rfl,he⟩
theorem Walk.chain {vs:List Vt}{W:Vt→List (Vt×Int)}{E F:Vt→Int}{M:Int}{v0 v:Vt}{wl:List Vt}(w:Walk vs W E v0 v wl)(hv:vs.length≤39)(ht:∀u∈W v,E u.1+u.2≠E v)(hM:F v0=M):Chain vs W E F M wl.reverse:=by
 have hp:=w.pos;refine⟨by rw[length_reverse];exact le_trans (bo w.nd w.sub) hv,fun x hx=>w.sub x (List.mem_reverse.mp hx),⟨v,?_,ht⟩,fun i a b e1 e2=>?_,⟨v0,?_,hM⟩⟩
 ·rw[getElem?_reverse hp];exact w.la
 ·have hl:i+1<wl.reverse.length:=(gz e2).1;rw[length_reverse]at hl;rw[getElem?_reverse (by omega)]at e1;rw[getElem?_reverse hl]at e2;exact w.nxt (wl.length-1-(i+1)) a b e2 (by rw[show wl.length-1-(i+1)+1=wl.length-1-i by omega];exact e1)
 ·rw[length_reverse,getElem?_reverse (by omega),show wl.length-1-(wl.length-1)=0 by omega];exact w.hd
noncomputable def fT (rs:List Int)(f:Vt→Int)(v:Vt):Int:=f v+rs.getD v.2 0
noncomputable def pe (rs:List Int)(g:Int)(ts:List Tr)(O:List (List Nat)):Vt→Int:=gI (bZ rs g ts O) (jh ts) (aB rs g ts O)
theorem uD (C:Ctx rs g ts):ah ts≠[]:=fun z=>by
 have h1:=C.one;have hz:ts[0]?=some ts[0]:=iN (by omega);have hp:=zg (C.tr _ (mem_of_getElem? hz));have:(0,(aO ts[0]).getD 0 0)∈ah ts:=mem_visits.mpr ⟨ts[0],hz,getD_mem hp⟩;rw[z]at this;cases this
theorem xq (C:Ctx rs g ts)(H:Ords rs.length ts O) :
  ((aB rs g ts O).length<(ah ts).length∧ij K CL Y [aF CL rs g,.lst (ts.map a8),aD O]= .exc Y.ST)∨
  (¬(aB rs g ts O).length<(ah ts).length∧∃L,Chain (ah ts) (bZ rs g ts O) (pe rs g ts O) (fT rs (pe rs g ts O)) (dN ((aB rs g ts O).map (fT rs (pe rs g ts O)))) L∧ij K CL Y [aF CL rs g,.lst (ts.map a8),aD O]= .ok (.lst (L.map vD))):=by
 have hn5:=C.ln.few;have hwy:gk K CL Y [aF CL rs g,.lst (ts.map a8)]= .ok (.lst (ts.map bO)):=vH C.tr (by omega) C.one C.few;have hwo:=oo (K:=K) (CL:=CL) (Y:=Y) C H;have fz1:rZ (dW (ah ts) (bZ rs g ts O))= .ok (fW (ah ts) (bZ rs g ts O)):=rfl;have G:=q_ (K:=K) (CL:=CL) (Y:=Y) C H;have hvl:=lg C;obtain⟨T,hf⟩:=qY (O:=O) C;have e0:aK mh [aF CL rs g,.lst (ts.map a8),aD O]=[some (aF CL rs g),some (.lst (ts.map a8)),some (aD O),none,none,none,none,none,none,none]:=rfl;by_cases A:(aB rs g ts O).length<(ah ts).length
 ·refine .inl ⟨A,?_⟩;rw[if_pos A]at G;unfold ij;refine(br rfl).trans ?_;rw[e0];unfold jn;simp only[aR,tq,hwy,hwo,fz1,G]
 ·rw[if_neg A]at G;have B:=qp bz A T.nd T.sub;have hle:=ja (K:=K) (CL:=CL) (Y:=Y) T hvl (rb C H);have hEe:gI (bZ rs g ts O) (jh ts) (aB rs g ts O)=pe rs g ts O:=rfl;rw[hEe]at hle;generalize hE:pe rs g ts O=E at hle ⊢;have fz2:rZ (dE (aB rs g ts O) E)= .ok (fE (aB rs g ts O) E):=rfl;have hlt:∀v∈aB rs g ts O,v.2<rs.length:=fun v s=>by
   obtain⟨tr,h1,h2⟩:=mem_visits.mp (T.sub v s);exact fY (C.tr tr (mem_of_getElem? h1)) _ h2
  have tl:(aB rs g ts O).length≤39:=le_trans (bo T.nd T.sub) hvl;have hlv:=sf (K:=K) (CL:=CL) (Y:=Y) (g:=g) (f:=E) T.nd tl hlt;have hEl:(fun v=>E v+rs.getD v.2 0)=fT rs E:=rfl;rw[hEl]at hlv;have fz3:rZ (dE (aB rs g ts O) (fT rs E))= .ok (fE (aB rs g ts O) (fT rs E)):=rfl;have tne:aB rs g ts O≠[]:=fun z=>by
   cases s:ah ts with
   |nil=>exact uD C s
   |cons a l=>
    have:=B a (by rw[s];exact mem_cons_self ..);rw[z]at this;cases this
  have hmx:=Am (f:=fT rs E) tne;have mne:(aB rs g ts O).map (fT rs E)≠[]:=fun z=>tne (List.map_eq_nil_iff.mp z);have hM:=(dP mne).1;generalize hMe:dN ((aB rs g ts O).map (fT rs E))=M at hmx hM ⊢;refine .inr ⟨A,?_⟩;have cg:aT (L2.sD (ac 5)) [none,some 6,some 5] (bt 0) (cZ (ae (ae (ac 2) (ac 0) aQ) (ac 1) pf)) (ac 0) [some (aF CL rs g),some (.lst (ts.map a8)),some (aD O),some (fW (ah ts) (bZ rs g ts O)),some (fE (aB rs g ts O) E),some (fE (aB rs g ts O) (fT rs E)),some (.int M),none,none,none]= .ok (.lst (((aB rs g ts O).filter fun v=>fT rs E v==M).map vD)):=by
   refine dk (xs:=aB rs g ts O) (c:=vD) (p:=fun v=>fT rs E v==M) (g:=vD) (by show jP (fE (aB rs g ts O) (fT rs E))=_;exact qC) (by omega) (fun v s=>⟨_,rfl,?_,fun _=>rfl⟩);have hg:aQ (fE (aB rs g ts O) (fT rs E)) (vD v)= .ok (.int (fT rs E v)):=dL s;show cZ (ae (ae (ac 2) (ac 0) aQ) (ac 1) pf) [some (vD v),some (.int M),some (fE (aB rs g ts O) (fT rs E))]=_;simp only[aR,hg]
  cases F:(aB rs g ts O).filter fun v=>fT rs E v==M with
  |nil=>
   rw[filter_eq_nil_iff]at F;obtain⟨v,s,ev⟩:=mem_map.mp hM;exact absurd (by simp[ev]) (F v s)
  |cons y rest=>
   have h0:y∈aB rs g ts O∧fT rs E y=M:=by
    have:y∈(aB rs g ts O).filter fun v=>fT rs E v==M:=by rw[F];exact mem_cons_self
    obtain⟨h1,h2⟩:=mem_filter.mp this;exact⟨h1,by simpa using h2⟩
   rw[F]at cg;have i0:aH (.lst ((y::rest).map vD)) (.int 0)= .ok (vD y):=bR (g:=vD) (i:=0) rfl;have tw:∀v∈ah ts,bj K CL Y [fW (ah ts) (bZ rs g ts O),fE (aB rs g ts O) E,vD v]= .ok (.lst (((bZ rs g ts O v).filter fun u=>E u.1+u.2==E v).map fun u=>vD u.1)):=fun v s=>oU s (B v s) (fun u hu=>B _ (uE C H v s u hu).2) (le_trans (rb C H v s) (by decide));have key:∃L,Chain (ah ts) (bZ rs g ts O) E (fT rs E) M L∧fG (jn K CL Y [some (aF CL rs g),some (.lst (ts.map a8)),some (aD O),none,none,none,none,none,none,none])= .ok (.lst (L.map vD)):=by
    have hv0:=T.sub y h0.1;unfold jn;have s3:aJ 3 (bJ aV (tq (bf (pC (ac 0) (pC (bf (pC (ac 0) (pC (ac 1) pN)) (gk K CL Y)) (pC (ac 2) pN))) (cv K CL Y)))) [some (aF CL rs g),some (.lst (ts.map a8)),some (aD O),none,none,none,none,none,none,none]= .nx [some (aF CL rs g),some (.lst (ts.map a8)),some (aD O),some (fW (ah ts) (bZ rs g ts O)),none,none,none,none,none,none]:=by simp only[aR,tq,hwy,hwo,fz1]
    have s4:aJ 4 (bJ aV (tq (bf (pC (ac 1) (pC (ac 3) (pC (bf (pC (ac 3) pN) (cC K CL Y)) pN))) (bn K CL Y)))) [some (aF CL rs g),some (.lst (ts.map a8)),some (aD O),some (fW (ah ts) (bZ rs g ts O)),none,none,none,none,none,none]= .nx [some (aF CL rs g),some (.lst (ts.map a8)),some (aD O),some (fW (ah ts) (bZ rs g ts O)),some (fE (aB rs g ts O) E),none,none,none,none,none]:=by simp only[aR,tq,G,hle,fz2]
    have s5:aJ 5 (bJ aV (tq (bf (pC (ac 0) (pC (ac 4) pN)) (cU K CL Y)))) [some (aF CL rs g),some (.lst (ts.map a8)),some (aD O),some (fW (ah ts) (bZ rs g ts O)),some (fE (aB rs g ts O) E),none,none,none,none,none]= .nx [some (aF CL rs g),some (.lst (ts.map a8)),some (aD O),some (fW (ah ts) (bZ rs g ts O)),some (fE (aB rs g ts O) E),some (fE (aB rs g ts O) (fT rs E)),none,none,none,none]:=by simp only[aR,tq,hlv,fz3]
    have s6:aJ 6 (bJ aV (fun ρ=>((ac 5) ρ).bind lZ)) [some (aF CL rs g),some (.lst (ts.map a8)),some (aD O),some (fW (ah ts) (bZ rs g ts O)),some (fE (aB rs g ts O) E),some (fE (aB rs g ts O) (fT rs E)),none,none,none,none]= .nx [some (aF CL rs g),some (.lst (ts.map a8)),some (aD O),some (fW (ah ts) (bZ rs g ts O)),some (fE (aB rs g ts O) E),some (fE (aB rs g ts O) (fT rs E)),some (.int M),none,none,none]:=by simp only[aR,hmx]
    have s7:aJ 7 (bJ aV (ae (aT (L2.sD (ac 5)) [none,some 6,some 5] (bt 0) (cZ (ae (ae (ac 2) (ac 0) aQ) (ac 1) pf)) (ac 0)) (kI 0) aH)) [some (aF CL rs g),some (.lst (ts.map a8)),some (aD O),some (fW (ah ts) (bZ rs g ts O)),some (fE (aB rs g ts O) E),some (fE (aB rs g ts O) (fT rs E)),some (.int M),none,none,none]= .nx [some (aF CL rs g),some (.lst (ts.map a8)),some (aD O),some (fW (ah ts) (bZ rs g ts O)),some (fE (aB rs g ts O) E),some (fE (aB rs g ts O) (fT rs E)),some (.int M),some (vD y),none,none]:=by simp only[aR,cg,i0]
    have hl1:bU 1 (.lst [vD y])=true:=lE (t:=[y]);have s8:aJ 8 (bJ aV (dM (pC (ac 7) pN))) [some (aF CL rs g),some (.lst (ts.map a8)),some (aD O),some (fW (ah ts) (bZ rs g ts O)),some (fE (aB rs g ts O) E),some (fE (aB rs g ts O) (fT rs E)),some (.int M),some (vD y),none,none]= .nx [some (aF CL rs g),some (.lst (ts.map a8)),some (aD O),some (fW (ah ts) (bZ rs g ts O)),some (fE (aB rs g ts O) E),some (fE (aB rs g ts O) (fT rs E)),some (.int M),some (vD y),some (.lst ([y].map vD)),none]:=by simp only[aR];rfl
    have s9:∀(v:Vt) (q:List Vt) (o9:Option D),v∈ah ts→aJ 9 (bJ aV (bf (pC (ac 3) (pC (ac 4) (pC (ac 7) pN))) (bj K CL Y))) [some (aF CL rs g),some (.lst (ts.map a8)),some (aD O),some (fW (ah ts) (bZ rs g ts O)),some (fE (aB rs g ts O) E),some (fE (aB rs g ts O) (fT rs E)),some (.int M),some (vD v),some (.lst (q.map vD)),o9]= .nx [some (aF CL rs g),some (.lst (ts.map a8)),some (aD O),some (fW (ah ts) (bZ rs g ts O)),some (fE (aB rs g ts O) E),some (fE (aB rs g ts O) (fT rs E)),some (.int M),some (vD v),some (.lst (q.map vD)),some (.lst (((bZ rs g ts O v).filter fun u=>E u.1+u.2==E v).map fun u=>vD u.1))]:=fun v q o9 s=>by simp only[aR,tw v s]
    rw[bQ,s3,aY,bQ,s4,aY,bQ,s5,aY,bQ,s6,aY,bQ,s7,aY,bQ,s8,aY,bQ,s9 y [y] none hv0,aY,bQ];have hI:∃ρ',bL (tR (ac 9)) (aC (aJ 7 (bJ aV (ae (ac 9) (kI 0) aH))) (aC (kg 8 (bJ aV (ac 7))) (aJ 9 (bJ aV (bf (pC (ac 3) (pC (ac 4) (pC (ac 7) pN))) (bj K CL Y)))))) 41 [some (aF CL rs g),some (.lst (ts.map a8)),some (aD O),some (fW (ah ts) (bZ rs g ts O)),some (fE (aB rs g ts O) E),some (fE (aB rs g ts O) (fT rs E)),some (.int M),some (vD y),some (.lst ([y].map vD)),some (.lst (((bZ rs g ts O y).filter fun u=>E u.1+u.2==E y).map fun u=>vD u.1))]= .nx ρ'∧(fun ρ:DS=>∃(v:Vt) (q:List Vt) (o9:Option D),ρ=[some (aF CL rs g),some (.lst (ts.map a8)),some (aD O),some (fW (ah ts) (bZ rs g ts O)),some (fE (aB rs g ts O) E),some (fE (aB rs g ts O) (fT rs E)),some (.int M),some (vD v),some (.lst (q.map vD)),o9]∧Walk (ah ts) (bZ rs g ts O) E y v q∧∀u∈bZ rs g ts O v,E u.1+u.2≠E v) ρ':=by
     refine fP (fun (n:Nat) (ρ:DS)=>∃(v:Vt) (q:List Vt),ρ=[some (aF CL rs g),some (.lst (ts.map a8)),some (aD O),some (fW (ah ts) (bZ rs g ts O)),some (fE (aB rs g ts O) E),some (fE (aB rs g ts O) (fT rs E)),some (.int M),some (vD v),some (.lst (q.map vD)),some (.lst (((bZ rs g ts O v).filter fun u=>E u.1+u.2==E v).map fun u=>vD u.1))]∧Walk (ah ts) (bZ rs g ts O) E y v q∧(ah ts).length≤n+q.length) _ (fun n ρ hZ194=>?_) 40 41 _ (by omega) ⟨y,[y],rfl,.one hv0,by omega⟩;obtain⟨v,q,e,w,hn⟩:=hZ194;subst e;have s:v∈ah ts:=w.sub v (mem_of_getElem? w.la);have lw:=bo w.nd w.sub;cases hq:(bZ rs g ts O v).filter fun u=>E u.1+u.2==E v with
     |nil=>
      rw[filter_eq_nil_iff]at hq;refine .inl ⟨by simp only[aR,map_nil,ky];rfl,v,q,_,rfl,w,fun u hu z=>hq u hu (by simp[z])⟩
     |cons x xs=>
      have hx:x∈(bZ rs g ts O v).filter fun u=>E u.1+u.2==E v:=by rw[hq];exact mem_cons_self
      obtain⟨hx1,hx2⟩:=mem_filter.mp hx;obtain⟨o1,o2⟩:=uE C H v s x hx1;have w2:=w.more hx1 o1 o2 (by simpa using hx2);have l2:=bo w2.nd w2.sub;rw[length_append,length_singleton]at l2;have i0:aH (.lst ((x::xs).map fun u=>vD u.1)) (.int 0)= .ok (vD x.1):=bR (g:=fun u:Vt×Int=>vD u.1) (i:=0) rfl;cases n with
      |zero=>omega
      |succ m=>
       refine .inr ⟨by simp only[aR,map_cons,ky];rfl,m,_,rfl,?_,x.1,q ++ [x.1],rfl,w2,by rw[length_append,length_singleton];omega⟩;have e7:aJ 7 (bJ aV (ae (ac 9) (kI 0) aH)) [some (aF CL rs g),some (.lst (ts.map a8)),some (aD O),some (fW (ah ts) (bZ rs g ts O)),some (fE (aB rs g ts O) E),some (fE (aB rs g ts O) (fT rs E)),some (.int M),some (vD v),some (.lst (q.map vD)),some (.lst ((x::xs).map fun u=>vD u.1))]= .nx [some (aF CL rs g),some (.lst (ts.map a8)),some (aD O),some (fW (ah ts) (bZ rs g ts O)),some (fE (aB rs g ts O) E),some (fE (aB rs g ts O) (fT rs E)),some (.int M),some (vD x.1),some (.lst (q.map vD)),some (.lst ((x::xs).map fun u=>vD u.1))]:=by simp only[aR,i0]
       have e8:kg 8 (bJ aV (ac 7)) [some (aF CL rs g),some (.lst (ts.map a8)),some (aD O),some (fW (ah ts) (bZ rs g ts O)),some (fE (aB rs g ts O) E),some (fE (aB rs g ts O) (fT rs E)),some (.int M),some (vD x.1),some (.lst (q.map vD)),some (.lst ((x::xs).map fun u=>vD u.1))]= .nx [some (aF CL rs g),some (.lst (ts.map a8)),some (aD O),some (fW (ah ts) (bZ rs g ts O)),some (fE (aB rs g ts O) E),some (fE (aB rs g ts O) (fT rs E)),some (.int M),some (vD x.1),some (.lst ((q ++ [x.1]).map vD)),some (.lst ((x::xs).map fun u=>vD u.1))]:=by
        rw[tM (l:=q.map vD) (d:=vD x.1) rfl (by simp only[aR]) (by rw[length_map];omega),map_append];rfl
       rw[bQ,e7,aY,bQ,e8,aY,s9 x.1 (q ++ [x.1]) _ o2]
    obtain⟨ρ',e,v,q,o9,eρ,w,ht⟩:=hI;rw[e,aY];subst eρ;refine⟨q.reverse,w.chain hvl ht h0.2,?_⟩;have lw:=bo w.nd w.sub;have hrv:bf (Dx (ac 8)) kJ [some (aF CL rs g),some (.lst (ts.map a8)),some (aD O),some (fW (ah ts) (bZ rs g ts O)),some (fE (aB rs g ts O) E),some (fE (aB rs g ts O) (fT rs E)),some (.int M),some (vD v),some (.lst (q.map vD)),o9]= .ok (.lst (q.reverse.map vD)):=by
     show kJ [.lst (q.map vD)]=_;unfold kJ;dsimp only;rw[if_pos (cI (by rw[length_map];omega)),List.map_reverse]
    rw[iZ,Bp,hrv,av,if_pos lE];rfl
   obtain⟨L,hL,e⟩:=key;refine⟨L,hL,?_⟩;unfold ij;refine(br rfl).trans ?_;rw[e0];exact e
end
set_option maxHeartbeats 4000000
section
variable{K:W.Frag}{CL:Addr}{Y:Ad}{rs:List Int}{g:Int}{ts:List Tr}{O:List (List Nat)}
noncomputable def lF:D:=.lst [.bl true,.bl true,.bl false,.bl false]
theorem qx {K:W.Frag}{C:Addr}{c:Value}{b:Bool}(h:W.kitOne K (.ref C) c=some b):ee K c (.xc C)= .ok (.bl b):=by
 unfold ee BM;dsimp only;rw[h]
theorem zV {i:Nat}{cs:List Addr}{F Fh:DS→Out}{ρ:DS}{c:Addr}{d:D}(h:F ρ= .exc c)(hc:cs.contains c=true)(hh:Fh (ρ.set i (some (.xc c)))= .rt d):jK i cs F Fh ρ= .rt d:=by
 unfold jK;rw[h];dsimp only;rw[if_pos hc,hh]
theorem zU {i:Nat}{cs:List Addr}{F Fh:DS→Out}{ρ ρ':DS}(h:F ρ= .nx ρ'):jK i cs F Fh ρ= .nx ρ':=by
 unfold jK;rw[h]
theorem Bd (Ki:Kit K Y)(C:Ctx rs g ts)(H:Ords rs.length ts O) :
  ((aB rs g ts O).length<(ah ts).length∧cu K CL Y [aF CL rs g,.lst (ts.map a8),aD O]= .ok (.tup [.non,lF]))∨
  (¬(aB rs g ts O).length<(ah ts).length∧∃L,Chain (ah ts) (bZ rs g ts O) (pe rs g ts O) (fT rs (pe rs g ts O)) (dN ((aB rs g ts O).map (fT rs (pe rs g ts O)))) L∧cu K CL Y [aF CL rs g,.lst (ts.map a8),aD O]= .ok (.tup [.lst (L.map vD),.lst []])):=by
 have e0:aK iS [aF CL rs g,.lst (ts.map a8),aD O]=[some (aF CL rs g),some (.lst (ts.map a8)),some (aD O),none,none,none]:=rfl;have y:bU 0 .non=true:=rfl;have j0:ee K (cV (.ref Y.ST)) (.xc Y.ST)= .ok (.bl true):=qx Ki.i0;have j1:ee K (cV (.ty "ValueError")) (.xc Y.ST)= .ok (.bl true):=qx Ki.i1;have j2:ee K (cV (.ref Y.BO)) (.xc Y.ST)= .ok (.bl false):=qx Ki.i2;have j3:ee K (cV (.ref Y.TS)) (.xc Y.ST)= .ok (.bl false):=qx Ki.i3;have hc:[Y.ST].contains Y.ST=true:=by simp
 rcases xq (K:=K) (CL:=CL) (Y:=Y) C H with ⟨h,e⟩|⟨h,L,hL,e⟩
 ·refine .inl ⟨h,?_⟩;unfold cu;refine(br rfl).trans ?_;rw[e0];unfold d8;rw[bQ,zV (c:=Y.ST) (d:=.tup [.non,lF]) (by simp only[aR,e]) hc (by simp only[aR,sy,j0,j1,j2,j3,y];rfl)];rfl
 ·refine .inr ⟨h,L,hL,?_⟩;unfold cu;refine(br rfl).trans ?_;rw[e0];unfold d8;rw[bQ,zU (ρ':=[some (aF CL rs g),some (.lst (ts.map a8)),some (aD O),some (.lst (L.map vD)),none,none]) (by simp only[aR,e,lE])];simp only[aR,sy]
  first|done|rfl
theorem tF {α:Type}{l:List α}(nd:l.Nodup){i j:Nat}{x:α}(h1:l[i]?=some x)(h2:l[j]?=some x):i=j:=(List.getElem?_inj (gz h1).1 nd).mp (h1.trans h2.symm)
theorem vC {α:Type}{l:List α}:((List.range l.length).map fun (i:Nat)=>D.int (i:Int))=l.zipIdx.map fun q:α×Nat=>D.int (q.2:Int):=by
 apply ext_getElem
 ·simp
 ·intro i h1 h2;simp
theorem qD (C:Ctx rs g ts){f:Vt→Int}:cJ K CL Y [.lst (ts.map a8),.lst ((dF ts f).map cR)]= .ok (dE (ah ts) f):=by
 have hn5:=C.ln.few;have ht5:=C.few;have h5:∀q∈ts.zipIdx,(aO q.1).length≤5:=fun q hq=>by
  have:=fN (C.good hq);omega
 have e0:aK f6 [.lst (ts.map a8),.lst ((dF ts f).map cR)]=[some (.lst (ts.map a8)),some (.lst ((dF ts f).map cR)),none,none,none,none]:=rfl;unfold cJ;refine(br rfl).trans ?_;rw[e0];unfold dR;simp only[aR,b7,dZ (show ts.length<1000000 by omega),vC];refine dz (fun pre ρ=>∃o3 o4 E,ρ=[some (.lst (ts.map a8)),some (.lst ((dF ts f).map cR)),some (dE (cL pre) f),o3,o4,E]) ⟨none,none,none,rfl⟩ (fun pre q post j ρ hZ195=>?_) (fun ρ' hZ196=>?_)
 ·obtain⟨o3,o4,E,e⟩:=hZ195;subst e;have hq:q∈ts.zipIdx:=by rw[j];simp
  have hsub:∀u∈pre,u∈ts.zipIdx:=fun u hu=>by rw[j];exact mem_append_left _ hu
  have hne:∀u∈pre,u.2≠q.2:=fun u hu=>by
   have pw:=rg (l:=ts);rw[j]at pw;exact(pairwise_append.mp pw).2.2 u hu q (mem_cons_self ..)
  have hpl:pre.length≤5:=by
   have:=congrArg List.length j;rw[length_zipIdx,length_append]at this;omega
  have hVl:(cL pre).length≤25:=by
   have:=lc (qs:=pre) fun u hu=>h5 u (hsub u hu);omega
  have hg:=C.good hq;have y2:aH (.lst (ts.map a8)) (.int (q.2:Int))= .ok (a8 q.1):=bR (mem_zip.mp hq);have y3:=jA (K:=K) (CL:=CL) (Y:=Y) hg (show rs.length≤1000 by omega);have hw5:=h5 q hq;have y4:aH (.lst ((dF ts f).map cR)) (.int (q.2:Int))= .ok (cR ((aO q.1).map fun s=>f (q.2,s))):=by
   refine bR (g:=cR) ?_;unfold dF;rw[getElem?_map];have:ts.zipIdx[q.2]?=some q:=by rw[List.getElem?_zipIdx,mem_zip.mp hq];simp
   rw[this];rfl
  refine⟨_,rfl,?_⟩;have e4:aJ 4 (bJ cw (bf (pC (ae (ac 0) (ac 3) aH) pN) (aS K CL Y))) [some (.lst (ts.map a8)),some (.lst ((dF ts f).map cR)),some (dE (cL pre) f),some (.int (q.2:Int)),o4,E]= .nx [some (.lst (ts.map a8)),some (.lst ((dF ts f).map cR)),some (dE (cL pre) f),some (.int (q.2:Int)),some (.lst (au (aO q.1))),E]:=by simp only[aR,y2,y3]
  show ∃ρ',aC _ _ [some (.lst (ts.map a8)),some (.lst ((dF ts f).map cR)),some (dE (cL pre) f),some (.int (q.2:Int)),o4,E]=_∧_;rw[bQ,e4,aY];have ln:bq [.lst (au (aO q.1))]= .ok (.int ((aO q.1).length:Int)):=b7;simp only[aR,ln,dZ (show (aO q.1).length<1000000 by omega),vC];refine mE (fun (A:List (Nat×Nat)) ρ=>∃E,ρ=[some (.lst (ts.map a8)),some (.lst ((dF ts f).map cR)),some (dE (cL pre ++ A.map fun z=>(q.2,z.1)) f),some (.int (q.2:Int)),some (.lst (au (aO q.1))),E]) ⟨E,by rw[map_nil,append_nil]⟩ (fun A z post2 B ρ hZ197=>?_) (fun ρ' hZ198=>?_)
  ·obtain⟨E,e⟩:=hZ197;subst e;have hz:z∈(aO q.1).zipIdx:=by rw[B];simp
   have hz':=mem_zip.mp hz;refine⟨_,rfl,?_⟩;have nv:(q.2,z.1)∉cL pre ++ A.map fun z=>(q.2,z.1):=fun hm=>by
    rcases mem_append.mp hm with h|h
    ·obtain⟨u,hu,e1,_⟩:=visQ_mem.mp h;exact hne u hu e1
    ·obtain⟨y,hy,e1⟩:=mem_map.mp h;have e2:y.1=z.1:=(Prod.mk.inj e1).2;have hyz:=mem_zip.mp (show y∈(aO q.1).zipIdx by rw[B];exact mem_append_left _ hy);have pw:=rg (l:=aO q.1);rw[B]at pw;have nyz:=(pairwise_append.mp pw).2.2 y hy z (mem_cons_self ..);rw[e2]at hyz;exact nyz (tF fO hyz hz')
   have hpl2:A.length≤5:=by
    have:=congrArg List.length B;rw[length_zipIdx,length_append]at this;omega
   have i1:aH (.lst (au (aO q.1))) (.int (z.2:Int))= .ok (.int (z.1:Int)):=u8 hz';have i2:aH (cR ((aO q.1).map fun s=>f (q.2,s))) (.int (z.2:Int))= .ok (.int (f (q.2,z.1))):=bR (g:=D.int) (by rw[getElem?_map,hz'];rfl);refine⟨_,mq (ks:=(cL pre ++ A.map fun z=>(q.2,z.1)).map gF) (l:=(cL pre ++ A.map fun z=>(q.2,z.1)).map fun v=>.int (f v)) (k:=gF (q.2,z.1)) (d:=.int (f (q.2,z.1))) (kd:=[.int (q.2:Int),.int (z.1:Int)]) rfl (by simp only[aR,y4,i2]) (by simp only[aR,i1]) (i9 (v:=(q.2,z.1))) (by rw[length_map,length_append,length_map];omega),some (.int (z.2:Int)),?_⟩;have ea:(cL pre ++ (A ++ [z]).map fun z=>(q.2,z.1))=(cL pre ++ A.map fun z=>(q.2,z.1)) ++ [(q.2,z.1)]:=by rw[map_append,append_assoc];rfl
   rw[mF (f:=fun x=>D.int (f x)) nv,ea];rfl
  ·obtain⟨E,e⟩:=hZ198;subst e;refine⟨some (.int (q.2:Int)),some (.lst (au (aO q.1))),E,?_⟩;have ev:cL (pre ++ [q])=cL pre ++ (aO q.1).zipIdx.map fun z=>(q.2,z.1):=by
    unfold cL;rw[flatMap_append];congr 1;rw[flatMap_cons,List.flatMap_nil,append_nil];apply ext_getElem
    ·simp
    ·intro i h1 h2;simp
   rw[ev]
 ·obtain⟨o3,o4,E,e⟩:=hZ196;subst e;simp only[aR];rfl
theorem zi {α:Type}:∀{l:List α} {a b:α},(a,b)∈l.zip l.tail→∃j,l[j]?=some a∧l[j+1]?=some b:=by
 intro l a b h;obtain⟨j,hj⟩:=List.getElem?_of_mem h;rw[List.getElem?_zip_eq_some]at hj;refine⟨j,hj.1,?_⟩;have:=hj.2;rw[List.getElem?_tail]at this;exact this
theorem qu {w:List Nat}(nd:w.Nodup)(hl:w.length≤1000){s j:Nat}(h:w[j]?=some s):fR (.lst (au w)) (.int (s:Int))= .ok (.int (j:Int)):=by
 obtain⟨i,h1,h2⟩:=EY hl (mem_of_getElem? h);rw[h2,tF nd h1 h]
theorem on (C:Ctx rs g ts){v:Vt}(hv:v∈ah ts):v.2<rs.length:=by
 obtain⟨t,ht,hs⟩:=mem_visits.mp hv;exact fY (C.tr t (mem_of_getElem? ht)) _ hs
theorem tS (C:Ctx rs g ts)(H:Ords rs.length ts O){E:Vt→Int}{a b:Vt}(ha:a∈ah ts)(hb:b∈ah ts){u:Vt×Int}(hu:u∈bZ rs g ts O b)(hua:u.1=a)(he:E a+u.2=E b) :
  cq K CL Y [.tup [.lst (rs.map D.int),.int g],.lst (ts.map a8),aD O,fE (ah ts) E,vD a,vD b]= .ok (.bl true):=by
 have hn5:=C.ln.few;have e0:aK ff [.tup [.lst (rs.map D.int),.int g],.lst (ts.map a8),aD O,fE (ah ts) E,vD a,vD b]=[some (.tup [.lst (rs.map D.int),.int g]),some (.lst (ts.map a8)),some (aD O),some (fE (ah ts) E),some (vD a),some (vD b),none,none,none]:=rfl;have ga:aQ (fE (ah ts) E) (vD a)= .ok (.int (E a)):=dL ha;have gb:aQ (fE (ah ts) E) (vD b)= .ok (.int (E b)):=dL hb;have ra:=qS (on C ha);have m0:aH (.tup [.lst (rs.map D.int),.int g]) (.int 0)= .ok (.lst (rs.map D.int)):=nu;have m1:aH (.tup [.lst (rs.map D.int),.int g]) (.int 1)= .ok (.int g):=rS;obtain⟨t,ht,hs⟩:=mem_visits.mp hb;have htr:=C.tr t (mem_of_getElem? ht);unfold cq;refine(br rfl).trans ?_;rw[e0];unfold c_;unfold bZ at hu
 rcases mem_append.mp hu with h|h
 ·obtain⟨x,hx,rfl⟩:=(t9 ht).mp h;subst hua;obtain⟨j,j1,j2⟩:=zi hx;have hl:(aO t).length≤1000:=by have:=fN htr;omega
  have y2:aH (.lst (ts.map a8)) (.int (b.1:Int))= .ok (a8 t):=bR ht;have y3:=jA (K:=K) (CL:=CL) (Y:=Y) htr (show rs.length≤1000 by omega);have x1:fR (.lst (au (aO t))) (.int (b.2:Int))= .ok (.int ((j+1:Nat):Int)):=qu fO hl j2;have x2:fR (.lst (au (aO t))) (.int (x:Int))= .ok (.int (j:Int)):=qu fO hl j1;have c1:(((j+1:Nat):Int)==(j:Int)+1)=true:=beq_iff_eq.mpr (by omega);have c2:(E b==E (b.1,x)+rs.getD x 0)=true:=by
   have:E (b.1,x)+rs.getD x 0=E b:=he;exact beq_iff_eq.mpr this.symm
  simp only[aR,ga,m0,iv0,CA,ra,y2,y3,x1,x2,c1,gb,c2]
 ·obtain⟨x,hx,rfl⟩:=mem_wO.mp h;subst hua;obtain⟨j,j1,j2⟩:=zi hx;have hbs:b.2<rs.length:=on C hb;have nd:=H.nd b.2;have hl:(O.getD b.2 []).length≤1000:=by have:=my H hbs;have:=C.few;omega
  have ne:x≠b.1:=fun z=>by
   rw[z]at j1;have:=tF nd j1 j2;omega
  have n1:((x:Int)==(b.1:Int))=false:=by rw[Ai];simpa using ne
  have y1:aH (aD O) (.int (b.2:Int))= .ok (.lst (au (O.getD b.2 []))):=bR (g:=fun o=>D.lst (au o)) (eQ (by rw[H.len];exact hbs));have x1:fR (.lst (au (O.getD b.2 []))) (.int (b.1:Int))= .ok (.int ((j+1:Nat):Int)):=qu nd hl j2;have x2:fR (.lst (au (O.getD b.2 []))) (.int (x:Int))= .ok (.int (j:Int)):=qu nd hl j1;have c1:(((j+1:Nat):Int)==(j:Int)+1)=true:=beq_iff_eq.mpr (by omega);have c2:(E b==E (x,b.2)+rs.getD b.2 0+g)=true:=by
   have:E (x,b.2)+(rs.getD b.2 0+g)=E b:=he;exact beq_iff_eq.mpr (by omega)
  simp only[aR,ga,m0,m1,iv0,CA,ra,n1,y1,x1,x2,c1,gb,c2]
theorem xH (C:Ctx rs g ts){E:Vt→Int}(hE:∀v∈ah ts,E v=jh ts v∨∃u∈bZ rs g ts O v,E v=E u.1+u.2)(hrd:∀v∈ah ts,jh ts v≤E v)(hwt:∀v∈ah ts,∀u∈bZ rs g ts O v,E u.1+u.2≤E v){v:Vt}(hv:v∈ah ts)(h:∀u∈bZ rs g ts O v,E u.1+u.2≠E v) :
  ∃t,ts[v.1]?=some t∧(aO t)[0]?=some v.2∧E v=t.2.2:=by
 obtain⟨t,ht,hs⟩:=mem_visits.mp hv;have htr:=C.tr t (mem_of_getElem? ht);have er:jh ts v=t.2.2:=by unfold jh;rw[ht]
 have e1:E v=t.2.2:=by
  rcases hE v hv with z|⟨u,hu,z⟩
  ·rw[z,er]
  ·exact absurd z.symm (h u hu)
 refine⟨t,ht,?_,e1⟩;obtain⟨j,hj⟩:=List.getElem?_of_mem hs;cases j with
 |zero=>exact hj
 |succ j=>
  exfalso;have hlt:=(gz hj).1;have hx:(aO t)[j]?=some (aO t)[j]:=iN (by omega);generalize (aO t)[j]=x at hx;have hz:(x,v.2)∈(aO t).zip (aO t).tail:=mem_of_getElem? (i:=j) (by rw[List.getElem?_zip_eq_some];exact⟨hx,by rw[List.getElem?_tail];exact hj⟩);have hu:((v.1,x),rs.getD x 0)∈bZ rs g ts O v:=by
   unfold bZ;exact mem_append_left _ ((t9 ht).mpr ⟨x,hz,rfl⟩)
  have hxv:(v.1,x)∈ah ts:=mem_visits.mpr ⟨t,ht,mem_of_getElem? hx⟩;have h1:=hwt v hv _ hu;have h2:=hrd _ hxv;have er2:jh ts (v.1,x)=t.2.2:=by unfold jh;dsimp only;rw[ht]
  have h3:=(qT C.ln (on C hxv)).1;dsimp only at h1 h3;omega
end
set_option maxHeartbeats 4000000
section
variable{K:W.Frag}{CL:Addr}{Y:Ad}{rs:List Int}{g:Int}{ts:List Tr}{O:List (List Nat)}
theorem t8 {l m:List Int}(hl:l≠[])(hm:m≠[])(h:∀x,x∈l↔x∈m):dN l=dN m:=by
 have a:=dP hl;have b:=dP hm;have:=a.2 _ ((h _).mpr b.1);have:=b.2 _ ((h _).mp a.1);omega
theorem xW {L:List Vt}{v:Vt}(h:L[L.length-1]?=some v):aH (.lst (L.map vD)) (.int (-1))= .ok (vD v):=by
 rcases List.eq_nil_or_concat L with e|⟨r0,m0,e⟩
 ·rw[e]at h;cases h
 ·rw[List.concat_eq_append]at e;subst e;rw[length_append,length_singleton,Nat.add_sub_cancel,getElem?_append_right (le_refl _),sub_self]at h;have h':m0=v:=by simpa using h
  subst h';rw[map_append];exact nr (xl _ _)
theorem zh {i:Int}:cA K CL Y [.int i]= .ok (.bl true):=by
 unfold cA;refine(br rfl).trans ?_;have e0:aK gW [D.int i]=[some (.int i)]:=rfl;rw[e0];unfold eG;have e1:ee K (cV (.ty "int")) (.int i)= .ok (.bl true):=by unfold ee BM;dsimp only;rw[show cV (.ty "int")=Value.type "int" from rfl,kG]
 have e2:ee K (cV (.ty "bool")) (.int i)= .ok (.bl false):=by unfold ee BM;dsimp only;rw[show cV (.ty "bool")=Value.type "bool" from rfl,CI]
 simp only[aR,e1,e2]
theorem FB {l:List D}:ee K (cV (.ty "list")) (.lst l)= .ok (.bl true):=by unfold ee BM;dsimp only;rw[show cV (.ty "list")=Value.type "list" from rfl,kG]
theorem FC {v:Vt}:ee K (cV (.ty "tuple")) (vD v)= .ok (.bl true):=by unfold vD ee BM;dsimp only;rw[show cV (.ty "tuple")=Value.type "tuple" from rfl,kG]
theorem Ao {vs:List Vt}{f:Vt→Int}{v:Vt}(h:v∈vs):nN (vD v) (fE vs f)= .ok (.bl false):=by
 have e:=qZ (f:=fun v=>D.int (f v)) h;unfold nN vD fE;dsimp only;rw[i9];dsimp only;rw[e]
structure EOk (rs:List Int)(g:Int)(ts:List Tr)(O:List (List Nat))(E:Vt→Int):Prop where
 tight:∀v∈ah ts,E v=jh ts v∨∃u∈bZ rs g ts O v,E v=E u.1+u.2
 rd:∀v∈ah ts,jh ts v≤E v
 wt:∀v∈ah ts,∀u∈bZ rs g ts O v,E u.1+u.2≤E v
theorem yS (C:Ctx rs g ts)(H:Ords rs.length ts O){E:Vt→Int}(P:EOk rs g ts O E){L:List Vt}(hL:Chain (ah ts) (bZ rs g ts O) E (fT rs E) (dN ((ah ts).map (fT rs E))) L) :
  dl K CL Y [.tup [.lst (rs.map D.int),.int g],.lst (ts.map a8),aD O,.lst ((dF ts E).map cR),.lst (L.map vD)]= .ok (.bl true):=by
 have hn5:=C.ln.few;have hll:=hL.len;obtain⟨v,hv0,hvt⟩:=hL.fst;obtain⟨w,hw0,hwM⟩:=hL.lst;have hl1:0<L.length:=(gz hv0).1;have hvv:=hL.sub v (mem_of_getElem? hv0);have hww:=hL.sub w (mem_of_getElem? hw0);have e0:aK eK [.tup [.lst (rs.map D.int),.int g],.lst (ts.map a8),aD O,.lst ((dF ts E).map cR),.lst (L.map vD)]=[some (.tup [.lst (rs.map D.int),.int g]),some (.lst (ts.map a8)),some (aD O),some (.lst ((dF ts E).map cR)),some (.lst (L.map vD)),none,none,none,none,none]:=rfl;have hen:=qD (K:=K) (CL:=CL) (Y:=Y) C (f:=E);have fz:rZ (dE (ah ts) E)= .ok (fE (ah ts) E):=rfl;have m0:aH (.tup [.lst (rs.map D.int),.int g]) (.int 0)= .ok (.lst (rs.map D.int)):=nu;have lt1:¬((L.length:Nat):Int)<1:=by omega
 unfold dl;refine(br rfl).trans ?_;rw[e0];unfold eD;simp only[aR,tq,hen,fz,FB,b7,decide_eq_false lt1];refine dz (fun pre ρ=>∃o6,ρ=[some (.tup [.lst (rs.map D.int),.int g]),some (.lst (ts.map a8)),some (aD O),some (.lst ((dF ts E).map cR)),some (.lst (L.map vD)),some (fE (ah ts) E),o6,none,none,none]) ⟨none,rfl⟩ (fun pre x post exs ρ hZ199=>?_) (fun ρ' hZ200=>?_)
 ·obtain⟨o6,e⟩:=hZ199;subst e;have hx:x∈ah ts:=hL.sub x (by rw[exs];simp);have l2:bq [vD x]= .ok (.int 2):=rfl;refine⟨_,rfl,_,?_,some (vD x),rfl⟩;simp only[aR,FC,l2,Ao hx,iv0,CA,zh]
 ·obtain⟨o6,e⟩:=hZ200;subst e;obtain⟨t,ht,hw,he⟩:=xH (O:=O) C P.tight P.rd P.wt hvv hvt;have htr:=C.tr t (mem_of_getElem? ht);have i0:aH (.lst (L.map vD)) (.int 0)= .ok (vD v):=bR (g:=vD) (i:=0) hv0;have y2:aH (.lst (ts.map a8)) (.int (v.1:Int))= .ok (a8 t):=bR ht;have y3:=jA (K:=K) (CL:=CL) (Y:=Y) htr (show rs.length≤1000 by omega);have y4:aH (.lst (au (aO t))) (.int 0)= .ok (.int (v.2:Int)):=u8 (i:=0) hw;have y5:aH (a8 t) (.int 2)= .ok (.int t.2.2):=uW;have gv:aQ (fE (ah ts) E) (vD v)= .ok (.int t.2.2):=by rw[←he];exact dL hvv
  have er:=mr (a:=1) (b:=(L.length:Int)) (by omega) (by omega) (by omega) (by omega);have er':me 1 ((L.length:Int)-1).toNat=(List.range (L.length-1)).map fun (i:Nat)=>D.int (1+(i:Int)):=by
   rw[show ((L.length:Int)-1).toNat=L.length-1 by omega];rfl
  rw[er']at er;simp only[aR,i0,iv0,CA,y2,y3,y4,y5,gv,b7,er];refine dz (fun pre ρ=>∃o8,ρ=[some (.tup [.lst (rs.map D.int),.int g]),some (.lst (ts.map a8)),some (aD O),some (.lst ((dF ts E).map cR)),some (.lst (L.map vD)),some (fE (ah ts) E),o6,some (vD v),o8,none]) ⟨none,rfl⟩ (fun pre i post exs ρ hZ201=>?_) (fun ρ' hZ202=>?_)
  ·obtain⟨o8,e⟩:=hZ201;subst e;have hi:i<L.length-1:=mem_range.mp (by rw[exs];simp);have ha:L[i]?=some L[i]:=iN (by omega);have hb:L[i+1]?=some L[i+1]:=iN (by omega);generalize L[i]=a at ha;generalize L[i+1]=b at hb;obtain⟨u,hu,hua,hue⟩:=hL.nxt i a b ha hb;have fo:=tS (K:=K) (CL:=CL) (Y:=Y) C H (hL.sub a (mem_of_getElem? ha)) (hL.sub b (mem_of_getElem? hb)) hu hua hue;have x1:aH (.lst (L.map vD)) (.int (1+(i:Int)-1))= .ok (vD a):=by
    rw[show 1+(i:Int)-1=(i:Int) by omega];exact bR ha
   have x2:aH (.lst (L.map vD)) (.int (1+(i:Int)))= .ok (vD b):=by
    rw[show 1+(i:Int)=((i+1:Nat):Int) by omega];exact bR hb
   refine⟨_,rfl,_,?_,some (.int (1+(i:Int))),rfl⟩;simp only[aR,x1,x2,fo]
  ·obtain⟨o8,e⟩:=hZ202;subst e;have vne:=uD C;obtain⟨a,l,el⟩:∃a l,(ah ts).map (fT rs E)=a::l:=by
    cases hq:ah ts with
    |nil=>exact absurd hq vne
    |cons a l=>exact⟨_,_,rfl⟩
   have cg:aT (L2.sD (ac 5)) [none,some 5,some 0] (bt 0) yes (ae (ae (ac 1) (ac 0) aQ) (ae (ae (ac 2) (kI 0) aH) (ae (ac 0) (kI 1) aH) aH) aU) [some (.tup [.lst (rs.map D.int),.int g]),some (.lst (ts.map a8)),some (aD O),some (.lst ((dF ts E).map cR)),some (.lst (L.map vD)),some (fE (ah ts) E),o6,some (vD v),o8,none]= .ok (.lst ((a::l).map D.int)):=by
    rw[bM (xs:=ah ts) (c:=vD) (g:=fun v=>D.int (fT rs E v)) (by show jP (fE (ah ts) E)=_;exact qC) (by have:=lg C;omega) (fun x hx=>⟨_,rfl,?_⟩)]
    ·rw[←el,map_map];rfl
    ·have gx:aQ (fE (ah ts) E) (vD x)= .ok (.int (E x)):=dL hx;show ae (ae (ac 1) (ac 0) aQ) (ae (ae (ac 2) (kI 0) aH) (ae (ac 0) (kI 1) aH) aH) aU [some (vD x),some (fE (ah ts) E),some (.tup [.lst (rs.map D.int),.int g])]=_;simp only[aR,gx,m0,CA,qS (on C hx)];rfl
   have gw:aQ (fE (ah ts) E) (vD w)= .ok (.int (E w)):=dL hww;have rw':=qS (on C hww);rw[el]at hwM;have cM:(E w+rs.getD w.2 0==dN (a::l))=true:=beq_iff_eq.mpr hwM;simp only[aR,cg,sk,xW hw0,gw,m0,CA,rw',cM]
end
set_option maxHeartbeats 4000000
section
variable{K:W.Frag}{CL:Addr}{Y:Ad}
noncomputable abbrev lR (CL:Addr)(ns rs:List Int)(g:Int)(ts:List Tr)(O:List (List Nat))(o6 o7 o8:Option D):DS:=[some (.scr ns),some (.tup [.lst (rs.map D.int),.int g]),some (.lst (ts.map a8)),some (aD O),some (.lst [.lst (ts.map a8),aD O]),some (aF CL rs g),o6,o7,o8]
theorem E5 {α:Type}{P:List α→Prop}(h:∀a b c d e f,P [a,b,c,d,e,f]):∀us:List α,us.length=6→P us
 | [a,b,c,d,e,f],_=>h a b c d e f
theorem AI {ts:List Tr}{O:List (List Nat)}:a_ 20 (.lst [.lst (ts.map a8),aD O])=true:=by
 have p1:a_ 19 (.lst (ts.map a8))=true:=qN (n:=18) fun t _=>by
  unfold a8 a_ plL;rw[gn];unfold plL;rw[gn];unfold plL;rw[gn];rfl
 have p2:a_ 19 (aD O)=true:=qN (n:=18) fun r _=>qN (n:=17) fun _ _=>gn;unfold a_ plL;rw[show 20-1=19 from rfl,p1];unfold plL;rw[p2];rfl
theorem x6 {ns:List Int}(Ki:Kit K Y)(hns:ns.length≤63):yb K CL Y [.scr ns]= .ok (.bl true):=by
 obtain⟨rs,g,GL,el⟩:=wo (K:=K) (CL:=CL) (Y:=Y) (ns:=ns) (base:=0) (by omega) (by omega);have h5:=GL.few;have h1:=GL.one;obtain⟨ts,tl,tg,et⟩:=sX (K:=K) (CL:=CL) (Y:=Y) (ns:=ns) (base:=20) (most:=5) (n:=rs.length) (by omega) (by omega) h1 h5 (by omega) (by omega);have db:=eP (ns:=ns) (k:=20) (many:=5) (by omega);have C:Ctx rs g ts:=⟨GL,tg,by omega,by omega⟩;obtain⟨O,H,eo⟩:=sx (K:=K) (CL:=CL) (Y:=Y) (ns:=ns) (rs:=rs) (base:=100) (g:=g) (ts:=ts) (by omega) (by omega) C.tr (by omega) (by omega);have hOl:=H.len;have hne:=mx (AI (ts:=ts) (O:=O));have m0:aH (.tup [.lst (rs.map D.int),.int g]) (.int 0)= .ok (.lst (rs.map D.int)):=nu;have m1:aH (.tup [.lst (rs.map D.int),.int g]) (.int 1)= .ok (.int g):=rS;have h0':aH (.lst [.lst (ts.map a8),aD O]) (.int 0)= .ok (.lst (ts.map a8)):=uS;have h1':aH (.lst [.lst (ts.map a8),aD O]) (.int 1)= .ok (aD O):=uT;unfold yb;refine(br rfl).trans ?_;have e0:aK uI [D.scr ns]=[some (.scr ns),none,none,none,none,none,none,none,none]:=rfl;rw[e0];unfold uG;refine j9 [some (.scr ns),some (.tup [.lst (rs.map D.int),.int g]),none,none,none,none,none,none,none] (by simp only[aR,el]) ?_;refine j9 [some (.scr ns),some (.tup [.lst (rs.map D.int),.int g]),some (.lst (ts.map a8)),none,none,none,none,none,none] (by simp only[aR,m0,b7,et]) ?_;refine j9 [some (.scr ns),some (.tup [.lst (rs.map D.int),.int g]),some (.lst (ts.map a8)),some (aD O),none,none,none,none,none] (by simp only[aR,m0,m1,eo]) ?_;have cg:aT (sL (ac 3)) [none] (bt 0) yes (c1 (ac 0) cE) [some (.scr ns),some (.tup [.lst (rs.map D.int),.int g]),some (.lst (ts.map a8)),some (aD O),none,none,none,none,none]= .ok (aD O):=
  bM (xs:=O) (c:=fun o=>D.lst (au o)) (g:=fun o=>D.lst (au o)) rfl (by omega) (fun r hr=>⟨_,rfl,rfl⟩)
 have ls:cE [.lst (ts.map a8)]= .ok (.lst (ts.map a8)):=rfl;refine j9 [some (.scr ns),some (.tup [.lst (rs.map D.int),.int g]),some (.lst (ts.map a8)),some (aD O),some (.lst [.lst (ts.map a8),aD O]),none,none,none,none] (by simp only[aR,cg,ls]) ?_;refine j9 (lR CL ns rs g ts O none none none) (by simp only[aR,m0,m1,Ah (K:=K) (CL:=CL) (Y:=Y) GL]) ?_;have er2:sN [.int 2]= .ok ((List.range 2).map fun (i:Nat)=>D.int (i:Int)):=dZ (n:=2) (by omega);have told:=Bd (K:=K) (CL:=CL) (Y:=Y) Ki C H
 rcases oH (K:=K) (CL:=CL) (Y:=Y) C H with ⟨hn,r,elt⟩|⟨T,hT,elt⟩
 ·have w:(aB rs g ts O).length<(ah ts).length:=by
   apply Classical.byContradiction;intro z;unfold x9 at hn;rw[if_neg z]at hn;cases hn
  obtain⟨_,etd⟩:=told.resolve_right fun z=>z.1 w;refine j9 (lR CL ns rs g ts O (some (.tup [.str (Str.ofString "ring"),.lst (r.map vD)])) none none) (by simp only[aR,h0',h1',elt]) ?_;have em:qH (.tup [.non,lF]) (.tup [.non,.lst [.bl true,.bl true,.bl false,.bl false]])= .ok (.bl false):=mx (d:=.tup [.non,lF]) (by unfold lF;decide +kernel);have t0:aH (.tup [.str (Str.ofString "ring"),.lst (r.map vD)]) (.int 0)= .ok (.str (Str.ofString "ring")):=nu;simp only[aR,er2];refine dz (fun pre ρ=>∃o7 o8,ρ=lR CL ns rs g ts O (some (.tup [.str (Str.ofString "ring"),.lst (r.map vD)])) o7 o8) ⟨none,none,rfl⟩ (fun pre E post exs ρ hZ203=>?_) (fun ρ' hZ204=>?_)
  ·obtain⟨o7,o8,e⟩:=hZ203;subst e;refine⟨_,rfl,lR CL ns rs g ts O (some (.tup [.str (Str.ofString "ring"),.lst (r.map vD)])) (some (.int (E:Int))) (some (.tup [.non,lF])),?_,_,_,rfl⟩;simp only[aR,h0',h1',etd,hne,t0,em]
  ·obtain⟨o7,o8,e⟩:=hZ204;subst e;simp only[aR]
 ·have w:¬(aB rs g ts O).length<(ah ts).length:=fun z=>by
   unfold x9 at hT;rw[if_pos z]at hT;cases hT
  obtain⟨_,L,hL,etd⟩:=told.resolve_left fun z=>w z.1;have eT:T=dF ts (pe rs g ts O):=by
   unfold x9 at hT;rw[if_neg w]at hT;exact(Option.some.inj hT).symm
  subst eT;obtain⟨Tn,hf⟩:=qY (O:=O) C;have y:=qp bz w Tn.nd Tn.sub;have P:EOk rs g ts O (pe rs g ts O):=⟨fun v s=>wm Tn (y v s),fun v s=>CK Tn (y v s),fun v s u hu=>CM Tn (y v s) hu⟩;have vne:=uD C;have eM:dN ((aB rs g ts O).map (fT rs (pe rs g ts O)))=dN ((ah ts).map (fT rs (pe rs g ts O))):=by
   refine t8 (fun z=>vne ?_) (fun z=>vne (List.map_eq_nil_iff.mp z)) fun x=>?_
   ·have z':=List.map_eq_nil_iff.mp z;rw[z']at w;exact List.length_eq_zero_iff.mp (by simpa using w)
   ·constructor
    ·intro h;obtain⟨v,s,e⟩:=mem_map.mp h;exact mem_map.mpr ⟨v,Tn.sub v s,e⟩
    ·intro h;obtain⟨v,s,e⟩:=mem_map.mp h;exact mem_map.mpr ⟨v,y v s,e⟩
  rw[eM]at hL;have hrt:=yS (K:=K) (CL:=CL) (Y:=Y) C H P hL;refine j9 (lR CL ns rs g ts O (some (.tup [.str (Str.ofString "table"),.lst ((dF ts (pe rs g ts O)).map cR)])) none none) (by simp only[aR,h0',h1',elt]) ?_;have t0:aH (.tup [.str (Str.ofString "table"),.lst ((dF ts (pe rs g ts O)).map cR)]) (.int 0)= .ok (.str (Str.ofString "table")):=nu;have t1:aH (.tup [.str (Str.ofString "table"),.lst ((dF ts (pe rs g ts O)).map cR)]) (.int 1)= .ok (.lst ((dF ts (pe rs g ts O)).map cR)):=rS;have f0:aH (.tup [.lst (L.map vD),.lst []]) (.int 0)= .ok (.lst (L.map vD)):=nu;have f1:aH (.tup [.lst (L.map vD),.lst []]) (.int 1)= .ok (.lst []):=rS;have en0:qH (.lst []) (.lst [])= .ok (.bl false):=mx (by decide +kernel);have es:(Str.ofString "table"==Str.ofString "ring")=false:=by decide +kernel
  have hll:=hL.len;simp only[aR,er2];refine dz (fun pre ρ=>∃o7 o8,ρ=lR CL ns rs g ts O (some (.tup [.str (Str.ofString "table"),.lst ((dF ts (pe rs g ts O)).map cR)])) o7 o8) ⟨none,none,rfl⟩ (fun pre E post exs ρ hZ205=>?_) (fun ρ' hZ206=>?_)
  ·obtain⟨o7,o8,e⟩:=hZ205;subst e;have ap:mU 8 1 (xk 8 0 (tE 8) (kI 0)) (bJ dm (cS (pC (kI 9) (pC (kI 9) pN)))) (lR CL ns rs g ts O (some (.tup [.str (Str.ofString "table"),.lst ((dF ts (pe rs g ts O)).map cR)])) (some (.int (E:Int))) (some (.tup [.lst (L.map vD),.lst []])))= .nx (lR CL ns rs g ts O (some (.tup [.str (Str.ofString "table"),.lst ((dF ts (pe rs g ts O)).map cR)])) (some (.int (E:Int))) (some (.tup [.lst (L.map vD ++ [vD (9,9)]),.lst []]))):=by
    refine(uQ (n:=1) (p:=[0]) (d:=vD (9,9)) (rows:=L.map vD) (t:=.tup [.lst (L.map vD),.lst []]) rfl (by simp only[aR];rfl) rfl rfl rfl (by rw[length_map];omega)).trans ?_;rfl
   refine⟨_,rfl,lR CL ns rs g ts O (some (.tup [.str (Str.ofString "table"),.lst ((dF ts (pe rs g ts O)).map cR)])) (some (.int (E:Int))) (some (.tup [.lst (L.map vD ++ [vD (9,9)]),.lst []])),?_,_,_,rfl⟩;simp only[aR,h0',h1',etd,hne,t0,es,f1,en0,t1,f0,hrt,ap]
  ·obtain⟨o7,o8,e⟩:=hZ206;subst e;simp only[aR]
end
set_option maxHeartbeats 4000000
theorem BV {l:W.OpenLaw}{w:World}{K:W.Frag}{h:Heap}{mg:Str→Option Value}{fa CL HE ST BO TS:Addr}(X:K.In h)(G:h.Ns mainGlobals mg)(hfa:mg "law" =some (.ref fa)){t0 t1 t2 t3 t4:Tok}
  (aCL:W.nsIn K mainGlobals "Line" =some (some (.ref CL)))
  (g1:FT K "check_line" iD)
  (g2:FT K "_law_drawn" iB)
  (g3:FT K "_law_whole" iC)
  (g4:FT K "_law_line_by" dA)
  (g5:FT K "_law_trains_by" dQ)
  (g6:FT K "_law_way" fL)
  (g7:FT K "_law_users" eY)
  (g8:FT K "_law_orders_by" bi)
  (g9:FT K "check_train" gu)
  (g10:FT K "way" yX)
  (g11:FT K "ways" qV)
  (g12:FT K "check_orders" dB)
  (g13:FT K "waits_of" j8)
  (g14:FT K "held_by" jG)
  (g15:FT K "freed" mH)
  (g16:FT K "in_turn" lK)
  (g17:FT K "ring_of" jH)
  (g18:FT K "least_enters" dC)
  (g19:FT K "row_of" kZ)
  (g20:FT K "table_of" iE)
  (g21:FT K "least_table" gy)
  (g22:FT K "whole_turn" iF)
  (g23:FT K "leaves_of" jk)
  (g24:FT K "tight_waits" d6)
  (g25:FT K "chain" mG)
  (g26:FT K "_law_told" jj)
  (g27:FT K "_law_enters" gr)
  (g28:FT K "_law_follows" fK)
  (g29:FT K "_law_right" eX)
  (g30:FT K "law" l7)
  (g31:FM K CL "__init__" "Line.__init__" ut)
  (g32:FM K CL "runs" "Line.runs" uu)
  (g33:FM K CL "clear" "Line.clear" qU)
  (pg:W.plainGet K CL Str.empty=true)
  (hd:W.hasDictIn K CL=true)
  (po:W.plainOver K CL=true)
  (sa:W.findIn K (.ref CL) "__setattr__" =some (some (.builtin "object.__setattr__")))
  (mk:W.makesIn K CL=true)
  (kc:W.keepIn K (.ref CL)=true)
  (nM:W.findIn K (.ref CL) "minutes" =some none)
  (nG:W.findIn K (.ref CL) "gap" =some none)
  (z0:W.nsIn K mainGlobals "len" =some none)
  (z1:W.nsIn K mainGlobals "list" =some none)
  (z2:W.nsIn K mainGlobals "range" =some none)
  (z3:W.nsIn K mainGlobals "min" =some none)
  (z4:W.nsIn K mainGlobals "max" =some none)
  (z5:W.nsIn K mainGlobals "tuple" =some none)
  (z6:W.nsIn K mainGlobals "sorted" =some none)
  (z7:W.nsIn K mainGlobals "enumerate" =some none)
  (z8:W.nsIn K mainGlobals "zip" =some none)
  (z9:W.nsIn K mainGlobals "isinstance" =some none)
  (z10:W.nsIn K mainGlobals "int" =some none)
  (z11:W.nsIn K mainGlobals "bool" =some none)
  (z12:W.nsIn K mainGlobals "ValueError" =some none)
  (z13:W.nsIn K mainGlobals "reversed" =some none)
  (w0:W.nsIn K mainGlobals "MOST_STRETCHES" =some (some (.int 5 t0)))
  (w1:W.nsIn K mainGlobals "MOST_RUN" =some (some (.int 20 t1)))
  (w2:W.nsIn K mainGlobals "MOST_CLEAR" =some (some (.int 5 t2)))
  (w3:W.nsIn K mainGlobals "MOST_TRAINS" =some (some (.int 5 t3)))
  (w4:W.nsIn K mainGlobals "MOST_READY" =some (some (.int 60 t4)))
  (aHE:W.nsIn K mainGlobals "HaltError" =some (some (.ref HE)))
  (aST:W.nsIn K mainGlobals "Sticks" =some (some (.ref ST)))
  (aBO:W.nsIn K mainGlobals "BadOrders" =some (some (.ref BO)))
  (aTS:W.nsIn K mainGlobals "TooSoon" =some (some (.ref TS)))
  (eST:ExIn K ST)
  (gaST:W.findIn K (.ref ST) "__getattribute__" =some (some (.builtin "BaseException.__getattribute__")))
  (ghST:W.findIn K (.ref ST) "__getattr__" =some none)
  (haST:W.findIn K (.ref ST) "__class__" =some (some (.builtin "object.__class__")))
  (hmST:W.mroIn K ST (.type "object")=some true)
  (hbST:W.mroIn K ST (.type "BaseException")=some true)
  (rHST:W.mroIn K ST (.ref HE)=some true)
  (rBH:W.mroIn K HE (.type "BaseException")=some true)
  (sp:W.specialIn K (.builtin "object.__class__") "__get__" =some (some (.builtin "getset_descriptor.__get__")))
  (tk:W.takesIn K (.builtin "object.__class__")=some true)
  (hcHE:(W.clsIn K HE).isSome=true)
  (htHE:W.typeIn K (.ref HE)=some (.type "type"))
  (hcST:(W.clsIn K ST).isSome=true)
  (htST:W.typeIn K (.ref ST)=some (.type "type"))
  (hcBO:(W.clsIn K BO).isSome=true)
  (htBO:W.typeIn K (.ref BO)=some (.type "type"))
  (hcTS:(W.clsIn K TS).isSome=true)
  (htTS:W.typeIn K (.ref TS)=some (.type "type"))
  (rVST:W.mroIn K ST (.type "ValueError")=some true)
  (rSTBO:W.mroIn K ST (.ref BO)=some false)
  (nSTBO:ST≠BO)
  (rSTTS:W.mroIn K ST (.ref TS)=some false)
  (nSTTS:ST≠TS) :
  ∃fd:FuncData,(∀(s:Shared) (v:Value),BindsTo s fd ⟨[v],[]⟩ [("script",v)])∧∀base:Heap,K.In base→base.Ns mainGlobals mg→FnOk l.prog w K mg base (CXF l.prog w) 7 fa fd ["script"] (vE K):=by
 obtain⟨f,e,m,t,c,k,d⟩:=g30;cases hfa.symm.trans (W.mg_of X G e)
 let Y:Ad:=⟨HE,ST,BO,TS⟩
 have T:Txt K mg CL Y:={mgL:=W.mg_of X G aCL,cl:=⟨pg,hd,po,sa⟩,nM:=nM,nG:=nG,b_len:=W.mg_none_of X G z0,b_list:=W.mg_none_of X G z1,b_range:=W.mg_none_of X G z2,b_min:=W.mg_none_of X G z3,b_max:=W.mg_none_of X G z4,b_tuple:=W.mg_none_of X G z5,b_sorted:=W.mg_none_of X G z6,b_enumerate:=W.mg_none_of X G z7,b_zip:=W.mg_none_of X G z8,b_isinstance:=W.mg_none_of X G z9,b_int:=W.mg_none_of X G z10,b_bool:=W.mg_none_of X G z11,b_ValueError:=W.mg_none_of X G z12,b_reversed:=W.mg_none_of X G z13,mS:=⟨_,W.mg_of X G w0⟩,mR:=⟨_,W.mg_of X G w1⟩,mC:=⟨_,W.mg_of X G w2⟩,mT:=⟨_,W.mg_of X G w3⟩,mY:=⟨_,W.mg_of X G w4⟩,gHE:=W.mg_of X G aHE,xST:=⟨W.mg_of X G aST,eST⟩,kST:=⟨gaST,ghST,haST,sp,tk,hmST,hbST,hcST⟩,gST:=W.mg_of X G aST,gBO:=W.mg_of X G aBO,gTS:=W.mg_of X G aTS,hs:=fun c hc=>(mem_cons.mp hc).elim (fun e=>by subst e;exact⟨Ab rBH hcHE htHE rHST,⟨gaST,ghST,haST,sp,tk,hmST,hbST,hcST⟩⟩) fun hc=>absurd hc (by simp)};obtain⟨f31,a31,F31⟩:=g31;obtain⟨d31,e31⟩:=F31.mk1;obtain⟨f32,a32,F32⟩:=g32;obtain⟨d32,e32⟩:=F32.mk1;obtain⟨f33,a33,F33⟩:=g33;obtain⟨d33,e33⟩:=F33.mk1;refine⟨W.fnOf "law" "law" (ig l7) (cN l7) (aj l7) .none .none .none (.str m t) none (.ref c) .none,fun s v=>.of_eq rfl,fun base _ _=>?_⟩;have C_runs:CalM l.prog w K mg base CL "runs" 1 (jc CL):=⟨T.cl,f32,_,⟨a32,F32.fn,F32.kp⟩,Aw e32 T,e32.binds fun _ _ _ _ _ _=>len1 fun _=>rfl⟩;have C_clear:CalM l.prog w K mg base CL "clear" 1 (j5 CL):=⟨T.cl,f33,_,⟨a33,F33.fn,F33.kp⟩,yg e33 T,e33.binds fun _ _ _ _ _ _=>len1 fun _=>rfl⟩;have C_check_line:=hZ (P:=l.prog) (w:=w) (base:=base) T (k7 X G g1 fun _ _ _ _ _ _=>len2 fun _ _=>rfl) ;have C_Line:CalI l.prog w K mg base "Line" CL 2 ["self","runs","clear"] (jQ K CL Y):=⟨ya,T.mgL,f31,_,⟨mk,a31,F31.fn,kc⟩,Au e31 T C_check_line,e31.binds fun _ _ _ _ _ _=>nF fun _ _ _=>rfl⟩;have C__law_drawn:=aI (P:=l.prog) (w:=w) (base:=base) T (k7 X G g2 fun _ _ _ _ _ _=>nF fun _ _ _=>rfl) ;have C__law_whole:=eO (P:=l.prog) (w:=w) (base:=base) T (k7 X G g3 fun _ _ _ _ _ _=>len1 fun _=>rfl) ;have C__law_line_by:=fm (P:=l.prog) (w:=w) (base:=base) T (k7 X G g4 fun _ _ _ _ _ _=>len2 fun _ _=>rfl) C__law_drawn;have C__law_trains_by:=dH (P:=l.prog) (w:=w) (base:=base) T (k7 X G g5 fun _ _ _ _ _ _=>E4 fun _ _ _ _=>rfl) C__law_drawn;have C__law_way:=bE (P:=l.prog) (w:=w) (base:=base) T (k7 X G g6 fun _ _ _ _ _ _=>len1 fun _=>rfl) ;have C__law_users:=hX (P:=l.prog) (w:=w) (base:=base) T (k7 X G g7 fun _ _ _ _ _ _=>len2 fun _ _=>rfl) C__law_way;have C__law_orders_by:=dG (P:=l.prog) (w:=w) (base:=base) T (k7 X G g8 fun _ _ _ _ _ _=>Eb fun _ _ _ _ _=>rfl) C__law_drawn C__law_users C__law_way;have C_check_train:=f_ (P:=l.prog) (w:=w) (base:=base) T (k7 X G g9 fun _ _ _ _ _ _=>len2 fun _ _=>rfl)  C_runs;have C_way:=xo (P:=l.prog) (w:=w) (base:=base) T (k7 X G g10 fun _ _ _ _ _ _=>len2 fun _ _=>rfl) C_check_train;have C_ways:=mX (P:=l.prog) (w:=w) (base:=base) T (k7 X G g11 fun _ _ _ _ _ _=>len2 fun _ _=>rfl) C_way;have C_check_orders:=fq (P:=l.prog) (w:=w) (base:=base) T (k7 X G g12 fun _ _ _ _ _ _=>nF fun _ _ _=>rfl) ;have C_waits_of:=fu (P:=l.prog) (w:=w) (base:=base) T (k7 X G g13 fun _ _ _ _ _ _=>nF fun _ _ _=>rfl) C_check_orders C_runs C_clear;have C_held_by:=gC (P:=l.prog) (w:=w) (base:=base) T (k7 X G g14 fun _ _ _ _ _ _=>nF fun _ _ _=>rfl) ;have C_freed:=ml (P:=l.prog) (w:=w) (base:=base) T (k7 X G g15 fun _ _ _ _ _ _=>len2 fun _ _=>rfl) C_held_by;have C_in_turn:=gE (P:=l.prog) (w:=w) (base:=base) T (k7 X G g16 fun _ _ _ _ _ _=>len1 fun _=>rfl) C_freed;have C_ring_of:=lq (P:=l.prog) (w:=w) (base:=base) T (k7 X G g17 fun _ _ _ _ _ _=>len2 fun _ _=>rfl) C_held_by;have C_least_enters:=cm (P:=l.prog) (w:=w) (base:=base) T (k7 X G g18 fun _ _ _ _ _ _=>nF fun _ _ _=>rfl) ;have C_row_of:=mW (P:=l.prog) (w:=w) (base:=base) T (k7 X G g19 fun _ _ _ _ _ _=>nF fun _ _ _=>rfl) ;have C_table_of:=jV (P:=l.prog) (w:=w) (base:=base) T (k7 X G g20 fun _ _ _ _ _ _=>len2 fun _ _=>rfl) C_row_of;have C_least_table:=gc (P:=l.prog) (w:=w) (base:=base) T (k7 X G g21 fun _ _ _ _ _ _=>nF fun _ _ _=>rfl) C_in_turn C_least_enters C_ring_of C_table_of C_waits_of C_ways;have C_whole_turn:=h_ (P:=l.prog) (w:=w) (base:=base) T (k7 X G g22 fun _ _ _ _ _ _=>len1 fun _=>rfl) C_in_turn;have C_leaves_of:=iV (P:=l.prog) (w:=w) (base:=base) T (k7 X G g23 fun _ _ _ _ _ _=>len2 fun _ _=>rfl)  C_runs;have C_tight_waits:=dY (P:=l.prog) (w:=w) (base:=base) T (k7 X G g24 fun _ _ _ _ _ _=>nF fun _ _ _=>rfl) ;have C_chain:=qc (P:=l.prog) (w:=w) (base:=base) T (k7 X G g25 fun _ _ _ _ _ _=>nF fun _ _ _=>rfl) C_least_enters C_leaves_of C_tight_waits C_waits_of C_ways C_whole_turn;have C__law_told:=iU (P:=l.prog) (w:=w) (base:=base) T (k7 X G g26 fun _ _ _ _ _ _=>nF fun _ _ _=>rfl) C_chain;have C__law_enters:=f9 (P:=l.prog) (w:=w) (base:=base) T (k7 X G g27 fun _ _ _ _ _ _=>len2 fun _ _=>rfl) C__law_way;have C__law_follows:=fk (P:=l.prog) (w:=w) (base:=base) T (k7 X G g28 fun _ _ _ _ _ _=>E5 fun _ _ _ _ _ _=>rfl) C__law_way;have C__law_right:=hV (P:=l.prog) (w:=w) (base:=base) T (k7 X G g29 fun _ _ _ _ _ _=>Eb fun _ _ _ _ _=>rfl) C__law_enters C__law_follows C__law_way C__law_whole;exact Av (DJ (P:=l.prog) (w:=w) (base:=base) T (xL (st:=l7) k d (qA k)) C__law_line_by C__law_orders_by C__law_right C__law_told C__law_trains_by C_least_table C_Line) fun ns hns=>K06.x6 (Y:=Y) ⟨kG,(CJ (by decide +kernel) rVST),(u_ nSTBO hcBO htBO rSTBO),(u_ nSTTS hcTS htTS rSTTS)⟩ hns
noncomputable def kc (x y:Str)(t:Nat)(l n f:Int)(r:Nat)(w m:Int):Obj:=⟨.type "code",none,.fields #[.str x t,.str y (t+1),.str "/claim/cut.py" (t+2),.int l 0,.int n 0,.int 0 0,.int 0 0,.int f 0,.ref r,.bool true,.int w 0,.ref (r+1),.none,.ref (r+2),.ref (r+3),.ref (r+4),.int m 0,.int l 0,.str "/claim/cut.py" (m.toNat+1)],#[]⟩
noncomputable def kn (x y:Str)(t:Nat)(l n f:Int)(r:Nat)(w m:Int):Obj:=⟨.type "code",none,.fields #[.str x t,.str y (t+1),.str "/claim/cut.py" (t+2),.int l 0,.int n 0,.int 0 0,.int 0 0,.int f 0,.ref r,.bool true,.int w 0,.ref (r+1),.none,.none,.none,.ref (r+2),.int m 0,.int l 0,.str "/claim/cut.py" (m.toNat+1)],#[]⟩
noncomputable def kd (P:Params)(l:List (Str×Nat×Value))(n:Nat):Obj:=⟨.type "dict",none,.dict (l.map fun e=>⟨PyData.keyHash P e.1,.str e.1 e.2.1,e.2.2⟩).toArray n,#[]⟩
noncomputable def D4 (t:List (Str×Nat×Value)):List (Str×Nat×Value):=("__name__",165,.str "law_haltline_k06_whole_chains" 496)::("__doc__",166,.none)::("__package__",167,.none)::("__loader__",168,.builtin "__main__.__loader__#opaque")::("__spec__",169,.none)::("__annotations__",170,.ref 6)::("__builtins__",171,.ref 4)::t
noncomputable def D5 (t:List (Str×Nat×Value)):List (Str×Nat×Value):=("__file__",173,.str "/claim/cut.py" 172)::("__cached__",174,.none)::("HaltError",206,.ref 24)::("BadLine",222,.ref 37)::("BadTrains",238,.ref 49)::("BadOrders",254,.ref 61)::("Sticks",270,.ref 73)::t
noncomputable def D6 (t:List (Str×Nat×Value)):List (Str×Nat×Value):=("TooSoon",286,.ref 85)::("MOST_STRETCHES",290,.int 5 289)::("MOST_RUN",292,.int 20 291)::("MOST_CLEAR",294,.int 5 293)::("MOST_TRAINS",296,.int 5 295)::("MOST_READY",298,.int 60 297)::("Line",343,.ref 118)::t
noncomputable def D7 (t:List (Str×Nat×Value)):List (Str×Nat×Value):=("check_line",352,.ref 129)::("way",362,.ref 136)::("check_train",373,.ref 143)::("ways",379,.ref 148)::("waits_of",399,.ref 155)::("check_orders",405,.ref 160)::("in_turn",414,.ref 167)::t
noncomputable def D8 (t:List (Str×Nat×Value)):List (Str×Nat×Value):=("freed",420,.ref 172)::("held_by",426,.ref 177)::("ring_of",432,.ref 182)::("least_table",446,.ref 189)::("chain",452,.ref 194)::("whole_turn",460,.ref 201)::("least_enters",466,.ref 206)::t
noncomputable def D9 (t:List (Str×Nat×Value)):List (Str×Nat×Value):=("tight_waits",472,.ref 211)::("leaves_of",483,.ref 218)::("table_of",489,.ref 223)::("row_of",495,.ref 228)::("_law_drawn",508,.ref 235)::("_law_whole",515,.ref 242)::("_law_row",524,.ref 249)::t
noncomputable def D_ (t:List (Str×Nat×Value)):List (Str×Nat×Value):=("_law_rows",533,.ref 256)::("_law_line_by",539,.ref 261)::("_law_trains_by",553,.ref 268)::("_law_way",559,.ref 273)::("_law_users",565,.ref 278)::("_law_orders_by",571,.ref 283)::("_law_told",583,.ref 290)::t
noncomputable def Ea (t:List (Str×Nat×Value)):List (Str×Nat×Value):=("_law_enters",595,.ref 297)::("_law_follows",610,.ref 304)::("_law_right",616,.ref 309)::("law",622,.ref 314)::t
noncomputable def Bs (P:Params) :Obj×Obj×Obj×Obj×Obj×Obj×Obj×Obj:=(kd P (D4 (D5 (D6 (D7 (D8 (D9 (D_ (Ea [])))))))) 53,kd P (("__module__",196,.str "haltline.errors" 187)::("__firstlineno__",200,.int 2 199)::("__static_attributes__",201,.ref 22)::("__weakref__",203,.ref 25)::("__doc__",204,.none)::[]) 3,⟨.type "type",none,.cls ⟨"HaltError",[.type "ValueError"],[.ref 24,.type "ValueError",.type "Exception",.type "BaseException",.type "object"],23,"HaltError",true,[],[.ref 37,.ref 49,.ref 61,.ref 73,.ref 85],false,none,false⟩,#[some (.ref 15),none,some (.str "HaltError" 189),some (.str "HaltError" 197),some (.builtin "ValueError.__new__"),some (.bool true)]⟩,kd P (("__module__",214,.str "haltline.errors" 187)::("__firstlineno__",218,.int 4 217)::("__static_attributes__",219,.ref 35)::("__doc__",220,.none)::[]) 2,⟨.type "type",none,.cls ⟨"BadLine",[.ref 24],[.ref 37,.ref 24,.type "ValueError",.type "Exception",.type "BaseException",.type "object"],36,"BadLine",true,[],[],false,none,false⟩,#[some (.ref 28),none,some (.str "BadLine" 207),some (.str "BadLine" 215),some (.builtin "ValueError.__new__"),some (.bool true)]⟩,kd P (("__module__",230,.str "haltline.errors" 187)::("__firstlineno__",234,.int 6 233)::("__static_attributes__",235,.ref 47)::("__doc__",236,.none)::[]) 2,⟨.type "type",none,.cls ⟨"BadTrains",[.ref 24],[.ref 49,.ref 24,.type "ValueError",.type "Exception",.type "BaseException",.type "object"],48,"BadTrains",true,[],[],false,none,false⟩,#[some (.ref 40),none,some (.str "BadTrains" 223),some (.str "BadTrains" 231),some (.builtin "ValueError.__new__"),some (.bool true)]⟩,kd P (("__module__",246,.str "haltline.errors" 187)::("__firstlineno__",250,.int 8 249)::("__static_attributes__",251,.ref 59)::("__doc__",252,.none)::[]) 2)
noncomputable def Bt (P:Params) :Obj×Obj×Obj×Obj×Obj×Obj×Obj×Obj:=(⟨.type "type",none,.cls ⟨"BadOrders",[.ref 24],[.ref 61,.ref 24,.type "ValueError",.type "Exception",.type "BaseException",.type "object"],60,"BadOrders",true,[],[],false,none,false⟩,#[some (.ref 52),none,some (.str "BadOrders" 239),some (.str "BadOrders" 247),some (.builtin "ValueError.__new__"),some (.bool true)]⟩,kd P (("__module__",262,.str "haltline.errors" 187)::("__firstlineno__",266,.int 10 265)::("__static_attributes__",267,.ref 71)::("__doc__",268,.none)::[]) 2,⟨.type "type",none,.cls ⟨"Sticks",[.ref 24],[.ref 73,.ref 24,.type "ValueError",.type "Exception",.type "BaseException",.type "object"],72,"Sticks",true,[],[],false,none,false⟩,#[some (.ref 64),none,some (.str "Sticks" 255),some (.str "Sticks" 263),some (.builtin "ValueError.__new__"),some (.bool true)]⟩,kd P (("__module__",278,.str "haltline.errors" 187)::("__firstlineno__",282,.int 12 281)::("__static_attributes__",283,.ref 83)::("__doc__",284,.none)::[]) 2,⟨.type "type",none,.cls ⟨"TooSoon",[.ref 24],[.ref 85,.ref 24,.type "ValueError",.type "Exception",.type "BaseException",.type "object"],84,"TooSoon",true,[],[],false,none,false⟩,#[some (.ref 76),none,some (.str "TooSoon" 271),some (.str "TooSoon" 279),some (.builtin "ValueError.__new__"),some (.bool true)]⟩,kc "__init__" "Line.__init__" 311 22 3 3 95 181 317,kf "__init__" "Line.__init__" (jz (top 13) 0) "haltline.line" 287 100,kc "runs" "Line.runs" 320 27 1 3 102 181 324)
noncomputable def Bu (P:Params) :Obj×Obj×Obj×Obj×Obj×Obj×Obj×Obj:=(kf "runs" "Line.runs" (jz (top 13) 1) "haltline.line" 287 107,kc "clear" "Line.clear" 327 30 1 3 109 181 331,kf "clear" "Line.clear" (jz (top 13) 2) "haltline.line" 287 114,kd P (("__module__",306,.str "haltline.line" 287)::("__firstlineno__",310,.int 20 309)::("__init__",319,.ref 101)::("runs",326,.ref 108)::("clear",333,.ref 115)::("__static_attributes__",336,.ref 116)::("__dict__",338,.ref 119)::("__weakref__",340,.ref 120)::("__doc__",341,.none)::[]) 4,⟨.type "type",none,.cls ⟨"Line",[.type "object"],[.ref 118,.type "object"],117,"Line",true,[],[],false,none,false⟩,#[none,none,some (.str "Line" 299),some (.str "Line" 307),some (.builtin "object.__new__"),some (.bool true)]⟩,kc "check_line" "check_line" 344 32 2 3 123 181 350,kf "check_line" "check_line" (top 14) "haltline.line" 287 128,kc "way" "way" 353 40 2 3 130 181 360)
noncomputable def Bv (P:Params) :Obj×Obj×Obj×Obj×Obj×Obj×Obj×Obj:=(kf "way" "way" (top 15) "haltline.line" 287 135,kc "check_train" "check_train" 363 47 2 3 137 181 371,kf "check_train" "check_train" (top 16) "haltline.line" 287 142,kn "ways" "ways" 374 59 2 3 144 181 377,kf "ways" "ways" (top 17) "haltline.line" 287 147,kc "waits_of" "waits_of" 382 64 3 3 149 181 397,kf "waits_of" "waits_of" (top 19) "haltline.waits" 380 154,kn "check_orders" "check_orders" 400 78 3 3 156 181 403)
noncomputable def Bw (P:Params) :Obj×Obj×Obj×Obj×Obj×Obj×Obj×Obj:=(kf "check_orders" "check_orders" (top 20) "haltline.waits" 380 159,kc "in_turn" "in_turn" 406 85 1 3 161 181 412,kf "in_turn" "in_turn" (top 21) "haltline.waits" 380 166,kn "freed" "freed" 415 92 2 3 168 181 418,kf "freed" "freed" (top 22) "haltline.waits" 380 171,kn "held_by" "held_by" 421 94 3 3 173 181 424,kf "held_by" "held_by" (top 23) "haltline.waits" 380 176,kn "ring_of" "ring_of" 427 96 2 3 178 181 430)
noncomputable def Bx (P:Params) :Obj×Obj×Obj×Obj×Obj×Obj×Obj×Obj:=(kf "ring_of" "ring_of" (top 24) "haltline.waits" 380 181,kc "least_table" "least_table" 435 104 3 3 183 181 444,kf "least_table" "least_table" (top 26) "haltline.times" 433 188,kn "chain" "chain" 447 111 3 3 190 181 450,kf "chain" "chain" (top 27) "haltline.times" 433 193,kc "whole_turn" "whole_turn" 453 124 1 3 195 181 458,kf "whole_turn" "whole_turn" (top 28) "haltline.times" 433 200,kn "least_enters" "least_enters" 461 129 3 3 202 181 464)
noncomputable def kk6 (P:Params) :Obj×Obj×Obj×Obj×Obj×Obj×Obj×Obj:=(kf "least_enters" "least_enters" (top 29) "haltline.times" 433 205,kn "tight_waits" "tight_waits" 467 135 3 3 207 181 470,kf "tight_waits" "tight_waits" (top 30) "haltline.times" 433 210,kc "leaves_of" "leaves_of" 473 137 2 3 212 181 481,kf "leaves_of" "leaves_of" (top 31) "haltline.times" 433 217,kn "table_of" "table_of" 484 143 2 3 219 181 487,kf "table_of" "table_of" (top 32) "haltline.times" 433 222,kn "row_of" "row_of" 490 145 3 3 224 181 493)
noncomputable def By (P:Params) :Obj×Obj×Obj×Obj×Obj×Obj×Obj×Obj:=(kf "row_of" "row_of" (top 33) "haltline.times" 433 227,kc "_law_drawn" "_law_drawn" 498 148 3 3 229 181 506,kf "_law_drawn" "_law_drawn" (top 35) "law_haltline_k06_whole_chains" 496 234,kc "_law_whole" "_law_whole" 509 155 1 3 236 181 513,kf "_law_whole" "_law_whole" (top 36) "law_haltline_k06_whole_chains" 496 241,kn "_law_line_by" "_law_line_by" 534 171 2 3 257 181 537,kf "_law_line_by" "_law_line_by" (top 39) "law_haltline_k06_whole_chains" 496 260,kc "_law_trains_by" "_law_trains_by" 540 175 4 3 262 181 551)
noncomputable def Bz (P:Params) :Obj×Obj×Obj×Obj×Obj×Obj×Obj×Obj:=(kf "_law_trains_by" "_law_trains_by" (top 40) "law_haltline_k06_whole_chains" 496 267,kn "_law_way" "_law_way" 554 185 1 3 269 181 557,kf "_law_way" "_law_way" (top 41) "law_haltline_k06_whole_chains" 496 272,kn "_law_users" "_law_users" 560 189 2 3 274 181 563,kf "_law_users" "_law_users" (top 42) "law_haltline_k06_whole_chains" 496 277,kn "_law_orders_by" "_law_orders_by" 566 191 5 3 279 181 569,kf "_law_orders_by" "_law_orders_by" (top 43) "law_haltline_k06_whole_chains" 496 282,kc "_law_told" "_law_told" 572 206 3 3 284 181 581)
noncomputable def BA (P:Params) :Obj×Obj×Obj×Obj×Obj×Obj×Obj×Obj:=(kf "_law_told" "_law_told" (top 44) "law_haltline_k06_whole_chains" 496 289,kc "_law_enters" "_law_enters" 584 213 2 3 291 181 593,kf "_law_enters" "_law_enters" (top 45) "law_haltline_k06_whole_chains" 496 296,kc "_law_follows" "_law_follows" 596 220 6 3 298 181 608,kf "_law_follows" "_law_follows" (top 46) "law_haltline_k06_whole_chains" 496 303,kn "_law_right" "_law_right" 611 229 5 3 305 181 614,kf "_law_right" "_law_right" (top 47) "law_haltline_k06_whole_chains" 496 308,kn "law" "law" 617 246 1 3 310 181 620)
noncomputable def E3 (P:Params) :Obj:=kf "law" "law" (top 48) "law_haltline_k06_whole_chains" 496 313
noncomputable def KK (P:Params):W.Frag:=
 (nat_lit 3,(Bs P).1) ::
 (nat_lit 23,(Bs P).2.1) ::
 (nat_lit 24,(Bs P).2.2.1) ::
 (nat_lit 36,(Bs P).2.2.2.1) ::
 (nat_lit 37,(Bs P).2.2.2.2.1) ::
 (nat_lit 48,(Bs P).2.2.2.2.2.1) ::
 (nat_lit 49,(Bs P).2.2.2.2.2.2.1) ::
 (nat_lit 60,(Bs P).2.2.2.2.2.2.2) ::
 (nat_lit 61,(Bt P).1) ::
 (nat_lit 72,(Bt P).2.1) ::
 (nat_lit 73,(Bt P).2.2.1) ::
 (nat_lit 84,(Bt P).2.2.2.1) ::
 (nat_lit 85,(Bt P).2.2.2.2.1) ::
 (nat_lit 100,(Bt P).2.2.2.2.2.1) ::
 (nat_lit 101,(Bt P).2.2.2.2.2.2.1) ::
 (nat_lit 107,(Bt P).2.2.2.2.2.2.2) ::
 (nat_lit 108,(Bu P).1) ::
 (nat_lit 114,(Bu P).2.1) ::
 (nat_lit 115,(Bu P).2.2.1) ::
 (nat_lit 117,(Bu P).2.2.2.1) ::
 (nat_lit 118,(Bu P).2.2.2.2.1) ::
 (nat_lit 128,(Bu P).2.2.2.2.2.1) ::
 (nat_lit 129,(Bu P).2.2.2.2.2.2.1) ::
 (nat_lit 135,(Bu P).2.2.2.2.2.2.2) ::
 (nat_lit 136,(Bv P).1) ::
 (nat_lit 142,(Bv P).2.1) ::
 (nat_lit 143,(Bv P).2.2.1) ::
 (nat_lit 147,(Bv P).2.2.2.1) ::
 (nat_lit 148,(Bv P).2.2.2.2.1) ::
 (nat_lit 154,(Bv P).2.2.2.2.2.1) ::
 (nat_lit 155,(Bv P).2.2.2.2.2.2.1) ::
 (nat_lit 159,(Bv P).2.2.2.2.2.2.2) ::
 (nat_lit 160,(Bw P).1) ::
 (nat_lit 166,(Bw P).2.1) ::
 (nat_lit 167,(Bw P).2.2.1) ::
 (nat_lit 171,(Bw P).2.2.2.1) ::
 (nat_lit 172,(Bw P).2.2.2.2.1) ::
 (nat_lit 176,(Bw P).2.2.2.2.2.1) ::
 (nat_lit 177,(Bw P).2.2.2.2.2.2.1) ::
 (nat_lit 181,(Bw P).2.2.2.2.2.2.2) ::
 (nat_lit 182,(Bx P).1) ::
 (nat_lit 188,(Bx P).2.1) ::
 (nat_lit 189,(Bx P).2.2.1) ::
 (nat_lit 193,(Bx P).2.2.2.1) ::
 (nat_lit 194,(Bx P).2.2.2.2.1) ::
 (nat_lit 200,(Bx P).2.2.2.2.2.1) ::
 (nat_lit 201,(Bx P).2.2.2.2.2.2.1) ::
 (nat_lit 205,(Bx P).2.2.2.2.2.2.2) ::
 (nat_lit 206,(kk6 P).1) ::
 (nat_lit 210,(kk6 P).2.1) ::
 (nat_lit 211,(kk6 P).2.2.1) ::
 (nat_lit 217,(kk6 P).2.2.2.1) ::
 (nat_lit 218,(kk6 P).2.2.2.2.1) ::
 (nat_lit 222,(kk6 P).2.2.2.2.2.1) ::
 (nat_lit 223,(kk6 P).2.2.2.2.2.2.1) ::
 (nat_lit 227,(kk6 P).2.2.2.2.2.2.2) ::
 (nat_lit 228,(By P).1) ::
 (nat_lit 234,(By P).2.1) ::
 (nat_lit 235,(By P).2.2.1) ::
 (nat_lit 241,(By P).2.2.2.1) ::
 (nat_lit 242,(By P).2.2.2.2.1) ::
 (nat_lit 260,(By P).2.2.2.2.2.1) ::
 (nat_lit 261,(By P).2.2.2.2.2.2.1) ::
 (nat_lit 267,(By P).2.2.2.2.2.2.2) ::
 (nat_lit 268,(Bz P).1) ::
 (nat_lit 272,(Bz P).2.1) ::
 (nat_lit 273,(Bz P).2.2.1) ::
 (nat_lit 277,(Bz P).2.2.2.1) ::
 (nat_lit 278,(Bz P).2.2.2.2.1) ::
 (nat_lit 282,(Bz P).2.2.2.2.2.1) ::
 (nat_lit 283,(Bz P).2.2.2.2.2.2.1) ::
 (nat_lit 289,(Bz P).2.2.2.2.2.2.2) ::
 (nat_lit 290,(BA P).1) ::
 (nat_lit 296,(BA P).2.1) ::
 (nat_lit 297,(BA P).2.2.1) ::
 (nat_lit 303,(BA P).2.2.2.1) ::
 (nat_lit 304,(BA P).2.2.2.2.1) ::
 (nat_lit 308,(BA P).2.2.2.2.2.1) ::
 (nat_lit 309,(BA P).2.2.2.2.2.2.1) ::
 (nat_lit 313,(BA P).2.2.2.2.2.2.2) ::
 (nat_lit 314,(E3 P)) ::
 []
end K06
def PySem.W.Fast.tw5110548499006730795 := 0
def PySem.W.Fast.tw9793936747007405645 := 0
def PySem.W.Fast.tw601348777256137076 := 0
def PySem.W.Fast.tw2669986914792558544 := 0
def PySem.W.Fast.tw15535587559150203849 := 0
def PySem.W.Fast.tw10779534186483815266 := 0
def PySem.W.Fast.tw3420175883328053224 := 0
def PySem.W.Fast.tw3109729177271930812 := 0
def PySem.W.Fast.tw48917480580981475 := 0
def PySem.W.Fast.tw2854610201093084042 := 0
def PySem.W.Fast.tw9612957769046762598 := 0
def PySem.W.Fast.tw4701773385660744772 := 0
def PySem.W.Fast.tw11669880169419143691 := 0
def PySem.W.Fast.tw17238356255169466013 := 0
def PySem.W.Fast.tw8011177174101890537 := 0
def PySem.W.Fast.tw17820946102600917486 := 0
def PySem.W.Fast.tw9468171507241394849 := 0
def PySem.W.Fast.tw1820969345068603625 := 0
def PySem.W.Fast.tw14991925391175372063 := 0
def PySem.W.Fast.tw4536661733041027805 := 0
def PySem.W.Fast.tw15694085021682875281 := 0
open PySem PySem.W PyProof.Rows
set_option maxRecDepth 100000 in
set_option maxHeartbeats 0 in
theorem PySem.Challenge.cw_haltline_k06_whole_chains_holds : PySem.Challenge.rw_haltline_k06_whole_chains.Holds := by
 w_on;o_law;(o_head (kHook K06.KK (3::23::24::36::37::48::49::60::61::72::73::84::85::100::101::107::108::114::115::117::118::128::129::135::136::142::143::147::148::154::155::159::160::166::167::171::172::176::177::181::182::188::189::193::194::200::201::205::206::210::211::217::218::222::223::227::228::234::235::241::242::260::261::267::268::272::273::277::278::282::283::289::290::296::297::303::304::308::309::313::314::[]) (fun _=>by kernel_rfl)));(case hw=>w_witness2)
 k_fill
 refine L2.x7 7 (l:=PySem.Challenge.rw_haltline_k06_whole_chains) ⟨rfl,by decide,by decide⟩ rfl rfl (fun w h Y=>PySem.W.kIn_of Y) ?F
 case F=>
  intro w mg fa h KX G hmg
  refine' K06.BV KX G hmg ?_ ?_ ?_ ?_ ?_ ?_ ?_ ?_ ?_ ?_ ?_ ?_ ?_ ?_ ?_ ?_ ?_ ?_ ?_ ?_ ?_ ?_ ?_ ?_ ?_ ?_ ?_ ?_ ?_ ?_ ?_ ?_ ?_ ?_ ?_ ?_ ?_ ?_ ?_ ?_ ?_ ?_ ?_ ?_ ?_ ?_ ?_ ?_ ?_ ?_ ?_ ?_ ?_ ?_ ?_ ?_ ?_ ?_ ?_ ?_ ?_ ?_ ?_ ?_ ?_ ?_ ?_ ?_ ?_ ?_ ?_ ?_ ?_ ?_ ?_ ?_ ?_ ?_ ?_ ?_ ?_ ?_ ?_ ?_ ?_ ?_ ?_ ?_
  all_goals first|k_is|exact⟨_,by k_is,_,_,_,by k_is,by k_is⟩|exact⟨_,_,_,_,_,_,_,_,_,_,_,_,_,_,_,_,by k_is,by kernel_rfl,by k_is,by kernel_rfl⟩|rfl|k_exc|decide|skip
#print axioms PySem.Challenge.cw_haltline_k06_whole_chains_holds
