import PyProof.Rows.All
import Wide.All
import OpenK.AllK
import Wide.FinOn
import Lean
import PyProof.EqAt
import PyProof.EqKinds
import PyProof.TupleCall
import PySem.Syntax
import PyProof.Rows.ZipGen
import PyProof.EnumMake
import PyProof.EnumFor
import PyProof.Rows.EnumRows
import PyProof.DictValues
import KE.KSortTup
import PyProof.Rows.SetFrom
import PyProof.WalksMore
import PyProof.FactsAll.set
import PyProof.ForAny
import PyProof.CollectWalk
import PyProof.ListRange
import PyProof.Rows.SortShell
import PySem.Challenge.RW_lamprota_k04_books_put_otherwise
set_option Elab.async false
set_option linter.all false
set_option maxRecDepth 100000
namespace L2
open PySem PySem.Spec PyProof.Rows
noncomputable abbrev Key:=Sum Int Str
noncomputable def keyIs:Key→Value→Bool
 | .inl k,v=>Value.isInt k v
 | .inr x,v=>Value.isStrOf x v
noncomputable def keyH (w:World):Key→Int
 | .inl k=>hashInt k
 | .inr x=>hashStr w x
theorem keyIs_shape:∀{k:Key} {v:Value},keyIs k v=true→(∃i t,k=Sum.inl i∧v=Value.int i t)∨(∃x t,k=Sum.inr x∧v=Value.str x t)
 | .inl i,v,h=>by
  obtain⟨t,e⟩:=Value.isInt_shape (k:=i) (v:=v) h
  exact .inl ⟨i,t,rfl,e⟩
 | .inr x,v,h=>by
  obtain⟨t,e⟩:=Value.isStrOf_shape (x:=x) (v:=v) h
  exact .inr ⟨x,t,rfl,e⟩
theorem keyIs_int (i:Int) (t:Tok):keyIs (.inl i) (.int i t)=true:=by simp[keyIs,Value.isInt]
theorem keyIs_str (x:Str) (t:Tok):keyIs (.inr x) (.str x t)=true:=by simp[keyIs,Value.isStrOf]
theorem key_ll (a b:Int):decide ((Sum.inl a:Key)=Sum.inl b)=(a==b):=by
 by_cases e:a=b
 ·subst e;simp
 ·have h:¬(Sum.inl a:Key)=Sum.inl b:=fun q=>e (Sum.inl.inj q)
  rw[decide_eq_false h]
  exact(beq_eq_false_iff_ne.mpr e).symm
theorem key_rr (a b:Str):decide ((Sum.inr a:Key)=Sum.inr b)=decide (a=b):=by
 by_cases e:a=b
 ·subst e;simp
 ·have h:¬(Sum.inr a:Key)=Sum.inr b:=fun q=>e (Sum.inr.inj q)
  rw[decide_eq_false h,decide_eq_false e]
theorem key_lr (a:Int) (b:Str):decide ((Sum.inl a:Key)=Sum.inr b)=false:=decide_eq_false (fun q=>nomatch q)
theorem key_rl (a:Str) (b:Int):decide ((Sum.inr a:Key)=Sum.inl b)=false:=decide_eq_false (fun q=>nomatch q)
noncomputable def mixKind (prog:Program) (w:World):PySem.KeyKind prog w Key where
 is:=keyIs
 hash:=keyH w
 inj:=fun v a b ha hb=>by
  rcases keyIs_shape ha with⟨i,t,rfl,rfl⟩ | ⟨x,t,rfl,rfl⟩
  ·rcases keyIs_shape hb with⟨j,u,rfl,e⟩ | ⟨y,u,rfl,e⟩
   ·injection e with e1 _;rw[e1]
   ·exact nomatch e
  ·rcases keyIs_shape hb with⟨j,u,rfl,e⟩ | ⟨y,u,rfl,e⟩
   ·exact nomatch e
   ·injection e with e1 _;rw[e1]
 byValue:=fun k v h=>by
  rcases keyIs_shape h with⟨i,t,rfl,rfl⟩ | ⟨x,t,rfl,rfl⟩<;>rfl
 pyHash:=fun hv h=>by
  rcases keyIs_shape hv with⟨i,t,rfl,rfl⟩ | ⟨x,t,rfl,rfl⟩
  ·exact wpAny_pyHash_int h
  ·exact wpAny_pyHash_str h
 eqBool:=fun hu hv h=>by
  rcases keyIs_shape hu with⟨i,t,rfl,rfl⟩ | ⟨x,t,rfl,rfl⟩
  ·rcases keyIs_shape hv with⟨j,u,rfl,rfl⟩ | ⟨y,u,rfl,rfl⟩
   ·rw[key_ll]at h;exact wpAny_eqBool_int h
   ·rw[key_lr]at h;exact SeqAt.EqAt.int_str i t y u _ _ _ _ h
  ·rcases keyIs_shape hv with⟨j,u,rfl,rfl⟩ | ⟨y,u,rfl,rfl⟩
   ·rw[key_rl]at h;exact SeqAt.EqAt.str_int x t j u _ _ _ _ h
   ·rw[key_rr]at h;exact wpAny_eqBool_str h
 «strs»:=fun k x t v h=>by
  rcases keyIs_shape h with⟨i,u,rfl,e⟩ | ⟨y,u,rfl,e⟩
  ·exact nomatch e
  ·injection e with e1 _
   subst e1
   cases v<;>rfl
theorem mixKind_int (prog:Program) (w:World) (i:Int) (t:Tok):(mixKind prog w).is (.inl i) (.int i t)=true:=keyIs_int i t
theorem mixKind_str (prog:Program) (w:World) (x:Str) (t:Tok):(mixKind prog w).is (.inr x) (.str x t)=true:=keyIs_str x t
end L2
namespace L2
open PySem PySem.Spec PyProof.Rows
inductive V where
 | non | bl (b:Bool) | int (i:Int) | str (x:Str) | byt (b:Array UInt8) | flt (b:UInt64) | ref (a:Addr) | ty (n:String)
 deriving DecidableEq
noncomputable def RelV:V→Value→Prop
 | .non,u=>u=Value.none
 | .bl b,u=>u=Value.bool b
 | .int i,u=>∃t,u=Value.int i t
 | .str x,u=>∃t,u=Value.str x t
 | .byt b,u=>∃t,u=Value.bytes b t
 | .flt b,u=>∃t,u=Value.float b t
 | .ref a,u=>u=Value.ref a
 | .ty n,u=>u=Value.type n
noncomputable abbrev Vals:List V→List Value→Prop:=Paired RelV
theorem Vals.length {xs:List V} {us:List Value} (r:Vals xs us):xs.length=us.length:=Paired.length r
theorem Vals.get:∀{xs:List V} {us:List Value} {i:Nat} {x:V},Vals xs us→xs[i]? = some x→∃u,us[i]? = some u∧RelV x u
 | _,_,_,_,.nil,e=>by simp at e
 | _,_,0,_,.cons r _,e=>by simp at e;subst e;exact⟨_,rfl,r⟩
 | _,_,i+1,x,.cons _ t,e=>by
  obtain⟨u,h1,h2⟩:=Vals.get (i:=i) (x:=x) t (by simpa using e)
  exact⟨u,by simpa using h1,h2⟩
theorem Vals.set {x:V} {u:Value} (r:RelV x u):∀{xs:List V} {us:List Value} (i:Nat),Vals xs us→Vals (xs.set i x) (us.set i u)
 | _,_,_,.nil=>.nil
 | _,_,0,.cons _ t=>.cons r t
 | _,_,i+1,.cons q t=>.cons q (Vals.set r i t)
theorem Vals.append:∀{xs ys:List V} {us ws:List Value},Vals xs us→Vals ys ws→Vals (xs++ys) (us++ws)
 | _,_,_,_,.nil,s=>s
 | _,_,_,_,.cons r t,s=>.cons r (Vals.append t s)
theorem Vals.take:∀{xs:List V} {us:List Value} (n:Nat),Vals xs us→Vals (xs.take n) (us.take n)
 | _,_,0,_=>.nil
 | _,_,_+1,.nil=>.nil
 | _,_,n+1,.cons r t=>.cons r (Vals.take n t)
theorem Vals.drop:∀{xs:List V} {us:List Value} (n:Nat),Vals xs us→Vals (xs.drop n) (us.drop n)
 | _,_,0,r=>r
 | _,_,_+1,.nil=>.nil
 | _,_,n+1,.cons _ t=>Vals.drop n t
noncomputable def RelO:Option V→Option Value→Prop
 | some v,some u=>RelV v u
 | none,none=>True
 | _,_=>False
noncomputable def KV {κ:Type}:List (κ×V)→List (κ×Value)→Prop:=Paired fun(p:κ×V) (q:κ×Value)=>p.1=q.1∧RelV p.2 q.2
noncomputable def kV:Key→V
 | .inl i=>.int i
 | .inr x=>.str x
inductive HO where
 /-- a list -/
 | lst (xs:List V)
 /-- a tuple (never changes) -/
 | tup (xs:List V)
 /-- a dict whose keys are ints and texts;one whose keys are tuples of ints and texts (the empty one is both) -/
 | dK (kvs:List (Key×V)) | dT (kvs:List (List Key×V))
 /-- a set of ints: its members,its size -/
 | set (S:Int→Bool) (n:Nat)
 /-- an instance of the class at C,its dict at dx,its attributes -/
 | ins (C dx:Addr) (fs:List (Str×V))
 /-- the dict of the instance at x -/
 | own (x:Addr)
 /-- the dict of an exception -/
 | xd (fs:List (Str×V))
 /-- a bound method,f of x -/
 | met (f x:Addr)
 /-- a range object lo,lo+1,.. below hi -/
 | rng (lo hi:Int)
 /-- a thing that is known to the object (the script;a dict while a loop walks it): read,never written while it is so -/
 | frz (o:Obj) (u:HO)
 /-- a code object's table -/
 | tbl (ps:Array Value)
 /-- any other thing,by what is true of its one object (a def of one's own: SetO a S n:=HO.ext fun h=>..) -/
 | ext (φ:Heap→Prop)
noncomputable abbrev Hp:=Addr→Option HO
noncomputable def upd (H:Hp) (a:Addr) (o:HO):Hp:=fun b=>if b=a then some o else H b
theorem upd_same {H:Hp} {a:Addr} {o:HO}:upd H a o a=some o:=by unfold upd;rw[if_pos rfl]
theorem upd_ne {H:Hp} {a b:Addr} {o:HO} (h:b≠a):upd H a o b=H b:=by unfold upd;rw[if_neg h]
theorem upd_upd {H:Hp} {a:Addr} {o u:HO}:upd (upd H a o) a u=upd H a u:=by
 funext b;unfold upd;split<;>rfl
theorem ne_of {H:Hp} {a b:Addr} {o u:HO} (h:H a=some o) (h':H b=some u) (d:o≠u):a≠b:=by
 intro e;subst e;rw[h]at h';exact d (Option.some.inj h')
theorem ne_of_none {H:Hp} {a b:Addr} {o:HO} (h:H a=some o) (h':H b=none):a≠b:=by
 intro e;subst e;rw[h]at h';cases h'
noncomputable def IsTupD (h:Heap) (a:Addr) (items:Array Value):Prop:=∃o,h.get? a=some o∧o.cls=.type "tuple"∧o.dict=none∧∃n,o.data=.seq items n
theorem IsTupD.tup {h:Heap} {a:Addr} {items:Array Value} (x:IsTupD h a items):IsTup h a items:=let ⟨o,e,c,_,d⟩:=x;⟨o,e,c,d⟩
theorem IsTupD.new (h:Heap) (items:Array Value):IsTupD (h.push {cls:=.type "tuple",data:=.seq items}) h.objs.size items:=⟨_,Heap.get?_push_size _ rfl,rfl,rfl,_,rfl⟩
section
variable (P : Program) (w : World)
noncomputable def ObjOk (H:Hp) (h:Heap) (a:Addr):HO→Prop
 | .lst xs=>xs.length≤sizeLine∧∃(its:List Value) (n:Nat),Vals xs its∧h.get? a=some {cls:=.type "list",data:=.seq its.toArray n}
 | .tup xs=>xs.length≤sizeLine∧∃its:List Value,Vals xs its∧IsTupD h a its.toArray
 | .dK kvs=>kvs.length≤sizeLine∧(a==sysModules)=false∧∃vs,KV kvs vs∧h.DictOf (mixKind P w) a vs
 | .dT kvs=>kvs.length≤sizeLine∧(a==sysModules)=false∧∃xs:List (List Key×Addr×Value),
   Paired (fun(p:List Key×V) (q:List Key×Addr×Value)=>p.1=q.1∧H q.2.1=some (.tup (p.1.map kV))∧RelV p.2 q.2.2) kvs xs ∧
   ∃o es ep,h.get? a=some o∧o.ExactDict∧o.data=.dict es ep∧es.toList=xs.map (entryOfKey (tupleKind (mixKind P w)))∧(xs.map (·.1)).Nodup
 | .set S n=>h.SetOf (intKind P w) a S n
 | .ins C dx fs=>H dx=some (.own a)∧fs.length≤1000∧dx≠a∧h.get? a=some (PySem.W.instObj C dx) ∧
   ∃mA,h.Ns1 dx mA∧(∀f,RelO (fs.lookup f) (mA f))∧PySem.Within mA (fs.map (·.1))
 | .own _=>∃o,h.get? a=some o
 | .xd fs=>∃mA,h.Ns1 a mA∧∀f,RelO (fs.lookup f) (mA f)
 | .rng lo hi=>∃t u v,h.get? a=some {cls:=.type "range",data:=.fields #[.int lo t,.int hi u,.int 1 v]}
 | .frz o u=>h.get? a=some o∧ObjOk H h a u
 | .tbl ps=>h.get? a=some {cls:=.none,data:=.fields ps}
 | .met f x=>h.get? a=some (PySem.W.methodObj (.ref f) (.ref x))
 | .ext φ=>φ h∧(∃o,h.get? a=some o)∧∀h1 h2:Heap,φ h1→(∀o,h1.get? a=some o→h2.get? a=some o)→φ h2
noncomputable def HOk (H:Hp) (h:Heap):Prop:=∀a o,H a=some o→ObjOk P w H h a o
end
section
variable {P : Program} {w : World} {H H' : Hp} {h h' : Heap} {a : Addr} {o : HO}
theorem ObjOk.lt (x:ObjOk P w H h a o):a<h.objs.size:=by
 cases o with
 | lst xs=>obtain⟨_,_,_,_,e⟩:=x;exact Heap.lt_size e
 | tup xs=>obtain⟨_,_,_,p⟩:=x;exact p.tup.lt
 | dK kvs=>obtain⟨_,_,_,_,o,_,_,e,_⟩:=x;exact Heap.lt_size e
 | dT kvs=>obtain⟨_,_,_,_,o,_,_,e,_⟩:=x;exact Heap.lt_size e
 | set S n=>obtain⟨o,_,_,_,e,_⟩:=x;exact Heap.lt_size e
 | ins C dx fs=>obtain⟨_,_,_,e,_⟩:=x;exact Heap.lt_size e
 | own y=>obtain⟨_,e⟩:=x;exact Heap.lt_size e
 | xd fs=>obtain⟨_,⟨_,_,_,e,_⟩,_⟩:=x;exact Heap.lt_size e
 | rng lo hi=>obtain⟨_,_,_,e⟩:=x;exact Heap.lt_size e
 | frz ob u=>obtain⟨e,_⟩:=x;exact Heap.lt_size e
 | tbl ps=>exact Heap.lt_size (show h.get? a=some _ from x)
 | met f y=>exact Heap.lt_size (show h.get? a=some _ from x)
 | ext φ=>obtain⟨_,⟨_,e⟩,_⟩:=x;exact Heap.lt_size e
theorem Paired.mapP {α β:Type} {F G:α→β→Prop}:∀{l₁:List α} {l₂:List β},Paired F l₁ l₂→(∀a b,F a b→G a b)→Paired G l₁ l₂
 | _,_,.nil,_=>.nil
 | _,_,.cons r t,f=>.cons (f _ _ r) (Paired.mapP t f)
theorem ObjOk.stay (x:ObjOk P w H h a o) (k:∀b u,(b=a∨H b=some (.own a))→h.get? b=some u→h'.get? b=some u)
  (ho:∀b,H b=some (.own a)→H' b=some (.own a)) (ht:∀b xs,H b=some (.tup xs)→H' b=some (.tup xs)):ObjOk P w H' h' a o:=by
 induction o with
 | lst xs=>obtain⟨z,its,n,r,e⟩:=x;exact⟨z,its,n,r,k _ _ (.inl rfl) e⟩
 | tup xs=>obtain⟨z,its,r,ob,e,c⟩:=x;exact⟨z,its,r,ob,k _ _ (.inl rfl) e,c⟩
 | dK kvs=>obtain⟨z,y,vs,r,ob,es,ep,e,c⟩:=x;exact⟨z,y,vs,r,ob,es,ep,k _ _ (.inl rfl) e,c⟩
 | dT kvs =>
  obtain⟨z,y,xs,r,ob,es,ep,e,c⟩:=x
  exact⟨z,y,xs,Paired.mapP r fun p q z=>⟨z.1,ht _ _ z.2.1,z.2.2⟩,ob,es,ep,k _ _ (.inl rfl) e,c⟩
 | set S n=>obtain⟨ob,es,ep,t,e,c⟩:=x;exact⟨ob,es,ep,t,k _ _ (.inl rfl) e,c⟩
 | ins C dx fs =>
  obtain⟨d,z,ne,e,mA,⟨od,es,ep,e2,c⟩,r⟩:=x
  exact⟨ho _ d,z,ne,k _ _ (.inl rfl) e,mA,⟨od,es,ep,k _ _ (.inr d) e2,c⟩,r⟩
 | own y=>obtain⟨ob,e⟩:=x;exact⟨ob,k _ _ (.inl rfl) e⟩
 | xd fs=>obtain⟨mA,⟨od,es,ep,e,c⟩,r⟩:=x;exact⟨mA,⟨od,es,ep,k _ _ (.inl rfl) e,c⟩,r⟩
 | rng lo hi=>obtain⟨t,u,v,e⟩:=x;exact⟨t,u,v,k _ _ (.inl rfl) e⟩
 | frz ob u ih=>obtain⟨e,q⟩:=x;exact⟨k _ _ (.inl rfl) e,ih q⟩
 | tbl ps =>
  have e:h.get? a=some {cls:=.none,data:=.fields ps}:=x
  show h'.get? a=some {cls:=.none,data:=.fields ps}
  exact k a _ (.inl rfl) e
 | met f y =>
  have e:h.get? a=some (PySem.W.methodObj (.ref f) (.ref y)):=x
  show h'.get? a=some (PySem.W.methodObj (.ref f) (.ref y))
  exact k a _ (.inl rfl) e
 | ext φ=>obtain⟨p,⟨o,e⟩,st⟩:=x;exact⟨st _ _ p fun o q=>k _ _ (.inl rfl) q,⟨o,k _ _ (.inl rfl) e⟩,st⟩
theorem HOk.lt (x:HOk P w H h) (e:H a=some o):a<h.objs.size:=(x a o e).lt
theorem HOk.fresh (x:HOk P w H h) (e:h.objs.size≤a):H a=none:=by
 cases q:H a with
 | none=>rfl
 | some u=>exact absurd (Nat.lt_of_lt_of_le (x.lt q) e) (Nat.lt_irrefl _)
theorem HOk.kept (x:HOk P w H h) (k:∀b u,h.get? b=some u→h'.get? b=some u):HOk P w H h':=fun a o e =>
 (x a o e).stay (fun b u _ q=>k b u q) (fun _ q=>q) fun _ _ q=>q
theorem HOk.laid (x:HOk P w H h) (k:∀b u,h.get? b=some u→h'.get? b=some u) (hp:h.objs.size≤a) (new:ObjOk P w (upd H a o) h' a o):HOk P w (upd H a o) h':=fun b u e=>by
 have hn:=x.fresh hp
 by_cases hb:b=a
 ·subst hb;rw[upd_same]at e;cases e;exact new
 ·rw[upd_ne hb]at e
  exact(x b u e).stay (fun c v _ q=>k c v q) (fun c q=>by rw[upd_ne (ne_of_none q hn)];exact q) fun c xs q=>by rw[upd_ne (ne_of_none q hn)];exact q
end
noncomputable def Rd (H:Hp) (a:Addr) (u:HO):Prop:=H a=some u∨∃o,H a=some (.frz o u)
theorem Rd.ok {P:Program} {w:World} {H:Hp} {h:Heap} {a:Addr} {u:HO} (r:Rd H a u) (x:HOk P w H h):ObjOk P w H h a u:=by
 rcases r with r | ⟨o,r⟩
 ·exact x a u r
 ·obtain⟨_,q⟩:=x a _ r
  exact q
noncomputable def Mut:Option HO→Prop
 | some (.lst _)=>True
 | some (.dK _)=>True
 | some (.dT _)=>True
 | some (.set _ _)=>True
 | some (.ins _ _ _)=>True
 | some (.ext _)=>True
 | _=>False
section
variable {P : Program} {w : World} {H : Hp} {h h' : Heap} {x e : Addr} {o' : HO}
theorem HOk.write (ok:HOk P w H h) (mu:Mut (H x)) (he:e=x∨H e=some (.own x)) (k:∀b u,b≠e→h.get? b=some u→h'.get? b=some u) (heo:∃u,h'.get? e=some u)
  (new:ObjOk P w (upd H x o') h' x o'):HOk P w (upd H x o') h':=fun b u q=>by
 have nown:∀c y,H c=some (.own y)→c≠x:=fun c y r z=>by subst z;rw[r]at mu;exact mu
 have ntup:∀c xs,H c=some (.tup xs)→c≠x:=fun c xs r z=>by subst z;rw[r]at mu;exact mu
 by_cases hb:b=x
 ·subst hb;rw[upd_same]at q;cases q;exact new
 ·rw[upd_ne hb]at q
  by_cases hbe:b=e
  ·have q':H b=some (.own x):=by
    rcases he with z | z
    ·exact absurd (hbe.trans z) hb
    ·rw[hbe];exact z
   rw[q]at q';cases q'
   obtain⟨v,hv⟩:=heo
   exact⟨v,by rw[hbe];exact hv⟩
  ·refine(ok b u q).stay (fun c v hc r=>k c v ?_ r) (fun c r=>by rw[upd_ne (nown c b r)];exact r) fun c xs r=>by rw[upd_ne (ntup c xs r)];exact r
   rcases hc with rfl | hc
   ·exact hbe
   ·rintro rfl
    rcases he with z | z
    ·exact nown c b hc z
    ·rw[hc]at z;cases z;exact hb rfl
end
structure Un (fs ex:List Addr) (H H':Hp) (h h':Heap):Prop where
 keep:∀b o,h.get? b=some o→H b=none→b∉fs→b∉ex→h'.get? b=some o
 slot:∀b o,h.get? b=some o→H b=none→b∈fs→b∉ex→∃sl,h'.get? b=some {o with slots:=sl}
 free:∀b o,h.get? b=some o→H b=none→b∉ex→H' b=none
 there:∀b o,h.get? b=some o→b∉ex→∃o',h'.get? b=some o'
 tups:∀b xs,H b=some (.tup xs)→H' b=some (.tup xs)
 frzs:∀b o u,H b=some (.frz o u)→H' b=some (.frz o u)
 tbls:∀b ps,H b=some (.tbl ps)→∃more,H' b=some (.tbl (ps++more))
section
variable {fs fs' ex ex' : List Addr} {H H1 H2 : Hp} {h h1 h2 h' : Heap} {a x e : Addr} {o : HO}
theorem Un.any (u:Un fs ex H H1 h h1) {b:Addr} {ob:Obj} (q:h.get? b=some ob) (n:H b=none) (hx:b∉ex):∃sl,h1.get? b=some {ob with slots:=sl}:=by
 by_cases hb:b∈fs
 ·exact u.slot b ob q n hb hx
 ·exact⟨ob.slots,u.keep b ob q n hb hx⟩
theorem Un.kept (k:∀b u,h.get? b=some u→h'.get? b=some u):Un fs ex H H h h' :=
 ⟨fun b ob q _ _ _=>k b ob q,fun b ob q _ _ _=>⟨ob.slots,k b ob q⟩,fun _ _ _ n _=>n,fun b ob q _=>⟨ob,k b ob q⟩,fun _ _ q=>q,fun _ _ _ q=>q,fun _ ps q=>⟨#[],by rw[q];simp⟩⟩
theorem Un.refl:Un fs ex H H h h:=Un.kept fun _ _ q=>q
theorem Un.laid (k:∀b u,h.get? b=some u→h'.get? b=some u) (hp:h.objs.size≤a) (hn:H a=none):Un fs ex H (upd H a o) h h' where
 keep:=fun b u q _ _ _=>k b u q
 slot:=fun b u q _ _ _=>⟨u.slots,k b u q⟩
 free:=fun b u q n _=>by rw[upd_ne (Nat.ne_of_lt (Nat.lt_of_lt_of_le (Heap.lt_size q) hp))];exact n
 there:=fun b u q _=>⟨u,k b u q⟩
 tups:=fun b xs q=>by rw[upd_ne (ne_of_none q hn)];exact q
 frzs:=fun b u xs q=>by rw[upd_ne (ne_of_none q hn)];exact q
 tbls:=fun b ps q=>⟨#[],by rw[upd_ne (ne_of_none q hn),q];simp⟩
theorem Un.write (mu:Mut (H x)) (he:e=x∨H e=some (.own x)) (k:∀b u,b≠e→h.get? b=some u→h'.get? b=some u) (heo:∃u,h'.get? e=some u):Un fs ex H (upd H x o) h h':=by
 have hx:∀b,H b=none→b≠x:=fun b n z=>by subst z;rw[n]at mu;exact mu
 have hb:∀b,H b=none→b≠e:=fun b n z=>by
  subst z
  rcases he with r | r
  ·exact hx b n r
  ·rw[n]at r;cases r
 have hm:∀b u,H b=some u→¬Mut (some u)→b≠x:=fun b u q nm z=>by subst z;rw[q]at mu;exact nm mu
 refine⟨fun b u q n _ _=>k b u (hb b n) q,fun b u q n _ _=>⟨u.slots,k b u (hb b n) q⟩,fun b u q n _=>by rw[upd_ne (hx b n)];exact n,fun b u q _=>?_,
  fun b xs q=>by rw[upd_ne (hm b _ q fun z=>z)];exact q,fun b u xs q=>by rw[upd_ne (hm b _ q fun z=>z)];exact q,fun b ps q=>⟨#[],by rw[upd_ne (hm b _ q fun z=>z),q];simp⟩⟩
 by_cases hbe:b=e
 ·subst hbe;exact heo
 ·exact⟨u,k b u hbe q⟩
end
noncomputable def trk (h:Heap) (H:Hp):List Addr:=(List.range h.objs.size).filter fun a=>(H a).isSome
noncomputable def hidT (h:Heap) (H:Hp):Heap:=PySem.W.hideAll h (trk h H)
theorem hidT_size (h:Heap) (H:Hp):(hidT h H).objs.size=h.objs.size:=PySem.W.hideAll_size _ _
theorem hidT_get {h:Heap} {H:Hp} {b:Addr} {o:Obj} (e:h.get? b=some o) (n:H b=none):(hidT h H).get? b=some o :=
 PySem.W.hideAll_get _ e fun hm=>by
  have q:(H b).isSome=true:=(List.mem_filter.mp hm).2
  rw[n]at q;simp at q
theorem of_hidT {h:Heap} {H:Hp} {b:Addr} {o:Obj} (e:(hidT h H).get? b=some o):h.get? b=some o∧H b=none:=by
 have e':h.get? b=some o:=PySem.W.of_hideAll (trk h H) e
 refine⟨e',?_⟩
 cases q:H b with
 | none=>rfl
 | some x =>
  have hm:b∈trk h H:=List.mem_filter.mpr ⟨List.mem_range.mpr (Heap.lt_size e'),by simp[q]⟩
  have z:(hidT h H).get? b=none:=PySem.W.hideAll_none (trk h H) hm
  rw[z]at e;cases e
noncomputable def allNews (g h:Heap) (L:Addr):List (Addr×Obj):=(List.range h.objs.size).filterMap fun a=>if a=L∨(g.get? a).isSome=true then none else(h.get? a).map fun o=>(a,o)
noncomputable def rest (g h:Heap) (L d:Addr):List (Addr×Obj):=(allNews g h L).filter fun p=>decide (p.1≠d)
end L2
namespace L2
open PySem PySem.Spec PyProof.Rows
structure Mod (K:PySem.W.Frag) (mg:Str→Option Value) (base:Heap):Prop where
 kin:K.In base
 glob:base.Ns mainGlobals mg
 blt:∃mb,base.Ns builtinsNs mb∧∀x:Str,x≠"__name__"→mb x=bootBuiltins x
 nolimit:base.NoLimit
structure Cx where
 prog:Program
 w:World
 K:PySem.W.Frag
 mg:Str→Option Value
 base:Heap
 A:Around
 N:List Str
 s₀:Shared
 H₀:Hp
 env:Env
 outer:List Env
 stack:List Env
 ex:List Addr
 fn:Str→Bool
 calm:Bool
 pn:List (Addr×Obj)
 xe:Value→Shared→Prop
noncomputable def frs (l:List Env):List Addr:=l.filterMap (·.frame)
noncomputable abbrev Cx.fs (X:Cx):List Addr:=frs X.outer
noncomputable def Vis (sc:Scope) (x:Str):Prop:=sc.names.lookup x=some .local∨sc.names.lookup x=some .cell∨sc.names.lookup x=some .free
noncomputable def Loc (sc:Scope) (x:Str):Prop:=sc.names.lookup x=some .local∨sc.names.lookup x=some .cell
noncomputable def Look (env:Env) (h:Heap) (m:Str→Option Value) (x:Str) (u:Value):Prop :=
 (env.kindOf x=some .local∧m x=some u)∨((env.kindOf x=some .cell∨env.kindOf x=some .free)∧∃c,env.cells.lookup x=some c∧h.IsCell c (some u))
structure Cx.Ok (X:Cx):Prop where
 mod:Mod X.K X.mg X.base
 kind:X.env.scope.kind=.function
 glob:X.env.globals=mainGlobals
 blt:X.env.builtins=builtinsNs
 above:X.s₀.heap.objs.size≤X.env.locals
 inj:∀x y c,X.env.cells.lookup x=some c→X.env.cells.lookup y=some c→x=y
 has:∀x,(X.env.kindOf x=some .cell∨X.env.kindOf x=some .free)→∃c,X.env.cells.lookup x=some c
 cab:∀x c,X.fn x=true→X.env.cells.lookup x=some c→X.s₀.heap.objs.size≤c
 hd:X.calm=true→X.A.handled=none
 frames:X.A.frames=some X.stack
 stk:X.stack=X.outer∨(X.stack=X.env::X.outer∧X.env.frame=some X.env.locals)
 exf:∀b∈X.ex,b≠X.env.locals∧∀x c,X.env.cells.lookup x=some c→c≠b
 bs:∀b o,X.base.get? b=some o→X.s₀.heap.get? b=some o∧X.H₀ b=none
 bsz:X.base.objs.size≤X.s₀.heap.objs.size
 noex:∀b o,X.base.get? b=some o→b∉X.ex
 exfs:∀b∈X.ex,b∉X.fs
 funs:X.s₀.heap.FunFrames X.base X.outer
 frf:∀b∈X.fs,X.H₀ b=none
structure Inv (X:Cx) (pins:List (Addr×Obj)) (σ:List (Option V)) (H:Hp) (s:Shared):Prop where
 ok:X.Ok
 os:s.os=X.s₀.os
 bare:AllBare s.gens
 base:Un X.fs X.ex X.H₀ H X.s₀.heap s.heap
 loc:∃m,s.heap.Ns X.env.locals m∧∀(i:Nat) (x:Str) (v:V),X.N[i]? = some x→σ[i]? = some (some v)→Vis X.env.scope x→∃u,RelV v u∧Look X.env s.heap m x u
 cell:∀x c,X.env.cells.lookup x=some c→∃v,s.heap.IsCell c v
 free:H X.env.locals=none
 freeC:∀x c,X.env.cells.lookup x=some c→H c=none
 pin:∀p∈X.pn++pins,s.heap.get? p.1=some p.2∧H p.1=none∧p.1≠X.env.locals∧p.1∉X.fs∧∀v,p.2.data≠.cell v
 hok:HOk X.prog X.w H s.heap
 len:σ.length=X.N.length
section
variable {X : Cx} {pins : List (Addr × Obj)} {σ : List (Option V)} {H H' : Hp} {s : Shared} {h' : Heap}
theorem Cx.Ok.nofr (ok:X.Ok) {b:Addr} {o:Obj} (e:X.base.get? b=some o):b∉X.fs:=fun hb=>by
 have:=(ok.funs.mem hb).1
 rw[e]at this;cases this
theorem Inv.bs (I:Inv X pins σ H s):∀b o,X.base.get? b=some o→s.heap.get? b=some o∧H b=none:=fun b o e =>
 ⟨I.base.keep b o (I.ok.bs b o e).1 (I.ok.bs b o e).2 (I.ok.nofr e) (I.ok.noex b o e),I.base.free b o (I.ok.bs b o e).1 (I.ok.bs b o e).2 (I.ok.noex b o e)⟩
theorem Inv.bk (I:Inv X pins σ H s):∀b o,X.base.get? b=some o→s.heap.get? b=some o:=fun b o e=>(I.bs b o e).1
theorem Inv.mod (I:Inv X pins σ H s):Mod X.K X.mg X.base:=I.ok.mod
theorem Inv.kIn (I:Inv X pins σ H s):X.K.In s.heap:=I.ok.mod.kin.keeps I.bk
theorem Inv.fr (I:Inv X pins σ H s):∃m,Fr X.base X.env.locals s.heap m :=
 let ⟨m,hn,_⟩:=I.loc
 ⟨m,hn,I.bk,Nat.le_trans I.ok.bsz I.ok.above⟩
theorem Inv.lt (I:Inv X pins σ H s):X.env.locals<s.heap.objs.size:=let ⟨_,hn,_⟩:=I.loc;hn.lt
theorem Inv.sz (I:Inv X pins σ H s):X.s₀.heap.objs.size≤s.heap.objs.size:=Nat.le_trans I.ok.above (Nat.le_of_lt I.lt)
theorem Inv.nofs (I:Inv X pins σ H s) {a:Addr} (h:s.heap.objs.size≤a):a∉X.fs:=fun hb=>by
 obtain⟨_,o,ho,_⟩:=I.ok.funs.mem hb
 exact absurd (Nat.lt_of_lt_of_le (Heap.lt_size ho) (Nat.le_trans I.sz h)) (Nat.lt_irrefl _)
theorem Inv.cne (I:Inv X pins σ H s):∀x c,X.env.cells.lookup x=some c→c≠X.env.locals:=fun x c e z=>by
 obtain⟨v,o,ho,hd⟩:=I.cell x c e
 obtain⟨m,⟨o',es,ep,ho',hd',_⟩,_⟩:=I.loc
 rw[z,ho']at ho;cases ho;rw[hd']at hd;cases hd
theorem Inv.funs (I:Inv X pins σ H s):s.heap.FunFrames X.base X.outer:=by
 have all:∀(l:List Env),(∀b∈frs l,b∈X.fs)→X.s₀.heap.FunFrames X.base l→s.heap.FunFrames X.base l:=by
  intro l
  induction l with
  | nil=>intro _ _;trivial
  | cons env r ih =>
   intro hs hl
   obtain⟨hk,⟨L,o,hf,hn,ho,hd⟩,hr⟩:=hl
   have hL:L∈X.fs:=hs L (by unfold frs;rw[List.filterMap_cons,hf];exact List.mem_cons_self)
   obtain⟨sl,e⟩:=I.base.slot L o ho (I.ok.frf L hL) hL fun z=>I.ok.exfs L z hL
   exact⟨hk,⟨L,_,hf,hn,e,hd⟩,ih (fun b hb=>hs b (by unfold frs;rw[List.filterMap_cons,hf];exact List.mem_cons_of_mem _ hb)) hr⟩
 exact all X.outer (fun _ hb=>hb) I.ok.funs
theorem Inv.stack (I:Inv X pins σ H s):s.heap.FunFrames X.base X.stack:=by
 rcases I.ok.stk with e | ⟨e,hf⟩
 ·rw[e];exact I.funs
 ·rw[e]
  obtain⟨m,hn,_⟩:=I.loc
  refine .cons (by rw[I.ok.kind];decide) hf hn ?_ I.funs
  exact Heap.get?_none_of_le (Nat.le_trans I.ok.bsz I.ok.above)
theorem Inv.stkSub (I:Inv X pins σ H s):∀b∈frs X.stack,b∈X.env.locals::X.fs:=fun b hb=>by
 rcases I.ok.stk with e | ⟨e,hf⟩
 ·rw[e]at hb;exact List.mem_cons_of_mem _ hb
 ·rw[e]at hb
  unfold frs at hb
  rw[List.filterMap_cons,hf]at hb
  exact hb
theorem Inv.stkFree (I:Inv X pins σ H s):∀b∈frs X.stack,H b=none:=fun b hb=>by
 rcases List.mem_cons.mp (I.stkSub b hb)with e | hb
 ·rw[e];exact I.free
 ·obtain⟨_,o,ho,_⟩:=I.ok.funs.mem hb
  exact I.base.free b o ho (I.ok.frf b hb) fun z=>I.ok.exfs b z hb
theorem Inv.step {g':Array GenState} {t':Nat} {d':Drawn} {ch:List Addr} (I:Inv X pins σ H s)
  (hch:∀b∈ch,(b∈X.ex∨X.s₀.heap.objs.size≤b)∧b≠X.env.locals∧(∀x c,X.env.cells.lookup x=some c→c≠b)∧∀p∈X.pn++pins,p.1≠b)
  (keep:∀b o,b≠X.env.locals→b∉X.fs→b∉ch→s.heap.get? b=some o→H b=none→h'.get? b=some o)
  (slot:∀b o,b≠X.env.locals→b∈X.fs→b∉ch→s.heap.get? b=some o→H b=none→∃sl,h'.get? b=some {o with slots:=sl}) (free:∀b o,b∉ch→s.heap.get? b=some o→H b=none→H' b=none)
  (there:∀b o,b∉ch→s.heap.get? b=some o→∃o',h'.get? b=some o')
  (tups:∀b xs,H b=some (.tup xs)→H' b=some (.tup xs)) (frzs:∀b o u,H b=some (.frz o u)→H' b=some (.frz o u)) (tbls:∀b ps,H b=some (.tbl ps)→∃more,H' b=some (.tbl (ps++more)))
  (ns:∀m,s.heap.Ns X.env.locals m→h'.Ns X.env.locals m) (hok:HOk X.prog X.w H' h') (hg:AllBare g') :
  Inv X pins σ H' {s with heap:=h',gens:=g',drawn:=d',toks:=t'}:=by
 have neL:∀b o,X.s₀.heap.get? b=some o→b≠X.env.locals:=fun b o e=>Nat.ne_of_lt (Nat.lt_of_lt_of_le (Heap.lt_size e) I.ok.above)
 have neC:∀b o,X.s₀.heap.get? b=some o→b∉X.ex→b∉ch:=fun b o e hx hb=>by
  rcases(hch b hb).1 with z | z
  ·exact hx z
  ·exact absurd (Nat.lt_of_lt_of_le (Heap.lt_size e) z) (Nat.lt_irrefl _)
 have cellK:∀x c,X.env.cells.lookup x=some c→∀v,s.heap.IsCell c v→h'.IsCell c v:=fun x c e v ⟨o,ho,hd⟩=>by
  have nch:c∉ch:=fun z=>(hch c z).2.2.1 x c e rfl
  by_cases hc:c∈X.fs
  ·obtain⟨sl,q⟩:=slot c o (I.cne x c e) hc nch ho (I.freeC x c e)
   exact⟨_,q,hd⟩
  ·exact⟨o,keep c o (I.cne x c e) hc nch ho (I.freeC x c e),hd⟩
 refine⟨I.ok,I.os,hg,⟨fun b o e n hb hx=>?_,fun b o e n hb hx=>?_,fun b o e n hx=>?_,fun b o e hx=>?_,fun b xs e=>tups b xs (I.base.tups b xs e),fun b o xs e=>frzs b o xs (I.base.frzs b o xs e),fun b ps e=>?_⟩,?_,fun x c e=>?_,?_,fun x c e=>?_,fun p hp=>?_,hok,I.len⟩
 ·exact keep b o (neL b o e) hb (neC b o e hx) (I.base.keep b o e n hb hx) (I.base.free b o e n hx)
 ·obtain⟨sl,e1⟩:=I.base.slot b o e n hb hx
  obtain⟨sl',e2⟩:=slot b _ (neL b o e) hb (neC b o e hx) e1 (I.base.free b o e n hx)
  exact⟨sl',e2⟩
 ·obtain⟨o',e1⟩:=I.base.there b o e hx
  exact free b o' (neC b o e hx) e1 (I.base.free b o e n hx)
 ·obtain⟨o',e1⟩:=I.base.there b o e hx
  exact there b o' (neC b o e hx) e1
 ·obtain⟨m1,e1⟩:=I.base.tbls b ps e
  obtain⟨m2,e2⟩:=tbls b _ e1
  exact⟨m1++m2,by rw[e2,Array.append_assoc]⟩
 ·obtain⟨m,hn,hl⟩:=I.loc
  refine⟨m,ns m hn,fun i x v e1 e2 e3=>?_⟩
  obtain⟨u,r,l⟩:=hl i x v e1 e2 e3
  refine⟨u,r,?_⟩
  rcases l with l | ⟨k,c,e,z⟩
  ·exact .inl l
  ·exact .inr ⟨k,c,e,cellK x c e _ z⟩
 ·obtain⟨v,z⟩:=I.cell x c e
  exact⟨v,cellK x c e v z⟩
 ·obtain⟨m,⟨o,_,_,ho,_⟩,_⟩:=I.loc
  exact free _ o (fun z=>(hch _ z).2.1 rfl) ho I.free
 ·obtain⟨v,o,ho,hd⟩:=I.cell x c e
  exact free c o (fun z=>(hch c z).2.2.1 x c e rfl) ho (I.freeC x c e)
 ·obtain⟨e,n,ne,nf,d⟩:=I.pin p hp
  have nch:p.1∉ch:=fun z=>(hch p.1 z).2.2.2 p hp rfl
  exact⟨keep p.1 p.2 ne nf nch e n,free p.1 p.2 nch e n,ne,nf,d⟩
theorem Inv.un {t':Nat} (I:Inv X pins σ H s) (u:Un X.fs [] H H' s.heap h') (hok:HOk X.prog X.w H' h'):Inv X pins σ H' {s with heap:=h',toks:=t'}:=by
 obtain⟨m,⟨o,es,ep,ho,r⟩,_⟩:=id I.loc
 obtain⟨sl,hL⟩:=u.any ho I.free (by simp)
 exact I.step (g':=s.gens) (d':=s.drawn) (ch:=[]) (fun _ z=>nomatch z) (fun b o _ hb _ e n=>u.keep b o e n hb (by simp)) (fun b o _ hb _ e n=>u.slot b o e n hb (by simp)) (fun b o _ e n=>u.free b o e n (by simp)) (fun b o _ e=>u.there b o e (by simp)) u.tups u.frzs u.tbls (fun m' hm=>by
  obtain⟨o',es',ep',ho',r'⟩:=hm
  rw[ho]at ho';cases ho'
  exact⟨_,es',ep',hL,r'⟩) hok I.bare
theorem Inv.call {g':Array GenState} {t':Nat} {d':Drawn} {ch:List Addr} (I:Inv X pins σ H s) (u:Un (frs X.stack) ch H H' s.heap h') (hok:HOk X.prog X.w H' h') (hg:AllBare g')
  (hch:∀b∈ch,(b∈X.ex∨X.s₀.heap.objs.size≤b)∧b≠X.env.locals∧(∀x c,X.env.cells.lookup x=some c→c≠b)∧∀p∈X.pn++pins,p.1≠b) :
  Inv X pins σ H' {s with heap:=h',gens:=g',drawn:=d',toks:=t'}:=by
 obtain⟨m,⟨o,es,ep,ho,r⟩,_⟩:=id I.loc
 obtain⟨sl,hL⟩:=u.any ho I.free fun z=>(hch _ z).2.1 rfl
 exact I.step (ch:=ch) hch (fun b o hL hb hc e n=>u.keep b o e n (fun z=>(List.mem_cons.mp (I.stkSub b z)).elim hL hb) hc) (fun b o _ _ hc e n=>u.any e n hc) (fun b o hc e n=>u.free b o e n hc) (fun b o hc e=>u.there b o e hc) u.tups u.frzs u.tbls (fun m' hm=>by
  obtain⟨o',es',ep',ho',r'⟩:=hm
  rw[ho]at ho';cases ho'
  exact⟨_,es',ep',hL,r'⟩) hok hg
theorem Inv.turned {t':Nat} {it:Addr} (I:Inv X pins σ H s) (k:∀b o,b≠it→s.heap.get? b=some o→h'.get? b=some o) (hn:H it=none) (hL:it≠X.env.locals)
  (h1:it∈X.ex∨X.s₀.heap.objs.size≤it) (h2:∀x c,X.env.cells.lookup x=some c→c≠it) (h3:∀p∈X.pn++pins,p.1≠it):Inv X pins σ H {s with heap:=h',toks:=t'}:=by
 have nit:∀b u,H b=some u→b≠it:=fun b u e z=>by rw[z,hn]at e;cases e
 refine I.step (g':=s.gens) (d':=s.drawn) (ch:=[it]) (fun b hb=>?_) (fun b o _ _ hc e _=>k b o (fun z=>hc (by simp[z])) e) (fun b o _ _ hc e _=>⟨o.slots,k b o (fun z=>hc (by simp[z])) e⟩) (fun _ _ _ _ n=>n)
  (fun b o hc e=>⟨o,k b o (fun z=>hc (by simp[z])) e⟩) (fun _ _ e=>e) (fun _ _ _ e=>e) (fun b ps e=>⟨#[],by rw[e];simp⟩) (fun m hm=>?_) (fun b u e=>?_) I.bare
 ·have e:b=it:=by simpa using hb
  subst e
  exact⟨h1,hL,h2,h3⟩
 ·obtain⟨o,es,ep,ho,r⟩:=hm
  exact⟨o,es,ep,k _ o (Ne.symm hL) ho,r⟩
 ·refine(I.hok b u e).stay (fun c v hc q=>k c v ?_ q) (fun _ q=>q) fun _ _ q=>q
  rcases hc with z | z
  ·rw[z];exact nit b u e
  ·exact nit c _ z
theorem Inv.tok (I:Inv X pins σ H s) (t:Nat):Inv X pins σ H {s with toks:=t}:=I.un (h':=s.heap) (t':=t) Un.refl I.hok
theorem Inv.kept {t':Nat} (I:Inv X pins σ H s) (k:∀b u,s.heap.get? b=some u→h'.get? b=some u):Inv X pins σ H {s with heap:=h',toks:=t'}:=I.un (Un.kept k) (I.hok.kept k)
theorem Inv.laid {a:Addr} {o:HO} {t':Nat} (I:Inv X pins σ H s) (k:∀b u,s.heap.get? b=some u→h'.get? b=some u) (hp:s.heap.objs.size≤a) (new:ObjOk X.prog X.w (upd H a o) h' a o) :
  Inv X pins σ (upd H a o) {s with heap:=h',toks:=t'}:=I.un (Un.laid k hp (I.hok.fresh hp)) (I.hok.laid k hp new)
theorem Inv.write {x e:Addr} {o:HO} {t':Nat} (I:Inv X pins σ H s) (mu:Mut (H x)) (he:e=x∨H e=some (.own x)) (k:∀b u,b≠e→s.heap.get? b=some u→h'.get? b=some u) (heo:∃u,h'.get? e=some u)
  (new:ObjOk X.prog X.w (upd H x o) h' x o):Inv X pins σ (upd H x o) {s with heap:=h',toks:=t'}:=I.un (Un.write mu he k heo) (I.hok.write mu he k heo new)
theorem Inv.weak {σ':List (Option V)} (I:Inv X pins σ H s) (hl:σ'.length=σ.length) (w:∀(i:Nat) v,σ'[i]? = some (some v)→σ[i]? = some (some v)):Inv X pins σ' H s :=
 ⟨I.ok,I.os,I.bare,I.base,let ⟨m,hn,hl'⟩:=I.loc;⟨m,hn,fun i x v e1 e2 e3=>hl' i x v e1 (w i v e2) e3⟩,I.cell,I.free,I.freeC,I.pin,I.hok,hl.trans I.len⟩
theorem Inv.pins_of {pins':List (Addr×Obj)} (I:Inv X pins σ H s) (h:∀p∈pins',s.heap.get? p.1=some p.2∧H p.1=none∧p.1≠X.env.locals∧p.1∉X.fs∧∀v,p.2.data≠.cell v):Inv X pins' σ H s :=
 ⟨I.ok,I.os,I.bare,I.base,I.loc,I.cell,I.free,I.freeC,fun p hp=>(List.mem_append.mp hp).elim (fun z=>I.pin p (List.mem_append_left _ z)) (h p),I.hok,I.len⟩
theorem nodup_ix {N:List Str} (hN:N.Nodup) {i j:Nat} {x:Str} (a:N[i]? = some x) (b:N[j]? = some x):i=j:=by
 obtain⟨h1,e1⟩:=List.getElem?_eq_some_iff.mp a
 obtain⟨h2,e2⟩:=List.getElem?_eq_some_iff.mp b
 exact(List.getElem_inj hN).mp (e1.trans e2.symm)
theorem store_ok2 {M:Model} {A:Around} {E:Value→Shared→Prop} {i:Nat} {x:Str} {v:V} {u:Value} {Q:Unit→Shared→Prop} (I:Inv X pins σ H s) (hN:X.N.Nodup) (hi:X.N[i]? = some x) (hx:Loc X.env.scope x) (r:RelV v u)
  (h:∀s',Inv X pins (σ.set i (some v)) H s'→(∃a,Heap.SameBut a s.heap s'.heap∧(a=X.env.locals∨X.env.cells.lookup x=some a))→Q () s') (hf:X.fn x=true∨X.env.scope.names.lookup x=some .local:=by first | exact .inl rfl | exact .inr rfl | assumption):wpAny M A (storeName X.env x u) Q E s:=by
 obtain⟨m,hn,hl⟩:=id I.loc
 have hcls:(X.env.scope.kind==.class || (X.env.scope.kind==.module&&X.env.locals != X.env.globals))=false:=by rw[I.ok.kind];rfl
 have hiσ:i<σ.length:=by rw[I.len];exact(List.getElem?_eq_some_iff.mp hi).1
 have cne:=I.cne
 have tracked:∀{a:Addr} {h':Heap},(∃o,s.heap.get? a=some o∧H a=none)→Heap.SameBut a s.heap h'→HOk X.prog X.w H h':=fun {a h'} ha hs b ob e=>by
  obtain⟨_,_,hfree⟩:=ha
  refine(I.hok b ob e).stay (fun c w' hc q=>(hs.2 c ?_).trans q) (fun _ q=>q) fun _ _ q=>q
  rintro rfl
  rcases hc with rfl | hc
  ·rw[hfree]at e;cases e
  ·rw[hfree]at hc;cases hc
 rcases hx with hk | hk
 ·refine wpAny_storeName_local hk hn (fun h' hn' hs=>?_) hcls
  obtain⟨oL,_,_,hoL,_⟩:=id hn
  refine h _ ⟨I.ok,I.os,I.bare,⟨fun b o e n hb hx=>?_,fun b o e n hb hx=>?_,I.base.free,fun b o e hx=>?_,I.base.tups,I.base.frzs,I.base.tbls⟩,⟨_,hn',fun j y v' e1 e2 e3=>?_⟩,fun y c e=>?_,I.free,I.freeC,fun p hp=>?_,tracked ⟨oL,hoL,I.free⟩ hs,by simpa using I.len⟩ ⟨_,hs,.inl rfl⟩
  ·exact(hs.2 b (Nat.ne_of_lt (Nat.lt_of_lt_of_le (Heap.lt_size e) I.ok.above))).trans (I.base.keep b o e n hb hx)
  ·obtain⟨sl,e1⟩:=I.base.slot b o e n hb hx
   exact⟨sl,(hs.2 b (Nat.ne_of_lt (Nat.lt_of_lt_of_le (Heap.lt_size e) I.ok.above))).trans e1⟩
  ·obtain⟨o',e1⟩:=I.base.there b o e hx
   exact⟨o',(hs.2 b (Nat.ne_of_lt (Nat.lt_of_lt_of_le (Heap.lt_size e) I.ok.above))).trans e1⟩
  ·by_cases hj:j=i
   ·subst hj
    rw[hi]at e1;cases e1
    rw[List.getElem?_set_self hiσ]at e2
    cases e2
    exact⟨u,r,.inl ⟨hk,by simp⟩⟩
   ·rw[List.getElem?_set_ne (Ne.symm hj)]at e2
    obtain⟨u',r',q⟩:=hl j y v' e1 e2 e3
    refine⟨u',r',?_⟩
    rcases q with⟨k,e⟩ | ⟨k,c,e,z⟩
    ·refine .inl ⟨k,?_⟩
     have:y≠x:=fun e=>hj (nodup_ix hN e1 (e ▸ hi))
     simp[this,e]
    ·exact .inr ⟨k,c,e,z.sameBut hs (cne y c e)⟩
  ·obtain⟨w',z⟩:=I.cell y c e
   exact⟨w',z.sameBut hs (cne y c e)⟩
  ·obtain⟨e,n,ne,nf,d⟩:=I.pin p hp
   exact⟨(hs.2 p.1 ne).trans e,n,ne,nf,d⟩
 ·have hfn:X.fn x=true:=by
   rcases hf with z | z
   ·exact z
   ·rw[z]at hk;cases hk
  obtain⟨c,hc⟩:=I.ok.has x (.inl hk)
  obtain⟨w',z⟩:=I.cell x c hc
  refine wpAny_storeName_cell I.ok.kind hk hc z (fun h' hc' hs=>?_)
  obtain⟨oc,hoc,hocd⟩:=id z
  refine h {s with heap:=h'} ⟨I.ok,I.os,I.bare,⟨fun b o e n hb hx=>?_,fun b o e n hb hx=>?_,I.base.free,fun b o e hx=>?_,I.base.tups,I.base.frzs,I.base.tbls⟩,⟨m,hn.sameBut hs (Ne.symm (cne x c hc)),fun j y v' e1 e2 e3=>?_⟩,fun y c' e=>?_,I.free,I.freeC,fun p hp=>?_,tracked ⟨oc,hoc,I.freeC x c hc⟩ hs,by simpa using I.len⟩ ⟨c,hs,.inr hc⟩
  ·exact(hs.2 b (Nat.ne_of_lt (Nat.lt_of_lt_of_le (Heap.lt_size e) (I.ok.cab x c hfn hc)))).trans (I.base.keep b o e n hb hx)
  ·obtain⟨sl,e1⟩:=I.base.slot b o e n hb hx
   exact⟨sl,(hs.2 b (Nat.ne_of_lt (Nat.lt_of_lt_of_le (Heap.lt_size e) (I.ok.cab x c hfn hc)))).trans e1⟩
  ·obtain⟨o',e1⟩:=I.base.there b o e hx
   exact⟨o',(hs.2 b (Nat.ne_of_lt (Nat.lt_of_lt_of_le (Heap.lt_size e) (I.ok.cab x c hfn hc)))).trans e1⟩
  ·by_cases hj:j=i
   ·subst hj
    rw[hi]at e1;cases e1
    rw[List.getElem?_set_self hiσ]at e2
    cases e2
    exact⟨u,r,.inr ⟨.inl hk,c,hc,hc'⟩⟩
   ·rw[List.getElem?_set_ne (Ne.symm hj)]at e2
    obtain⟨u',r',q⟩:=hl j y v' e1 e2 e3
    refine⟨u',r',?_⟩
    rcases q with q | ⟨k,c',e,z'⟩
    ·exact .inl q
    ·refine .inr ⟨k,c',e,z'.sameBut hs ?_⟩
     rintro rfl
     exact hj (nodup_ix hN e1 (I.ok.inj _ _ _ e hc ▸ hi))
  ·by_cases hcc:c'=c
   ·subst hcc;exact⟨_,hc'⟩
   ·obtain⟨w2,z2⟩:=I.cell y c' e
    exact⟨w2,z2.sameBut hs hcc⟩
  ·obtain⟨e,n,ne,nf,d⟩:=I.pin p hp
   refine⟨(hs.2 p.1 ?_).trans e,n,ne,nf,d⟩
   intro q
   rw[q,hoc]at e
   have q':oc=p.2:=Option.some.inj e
   exact d w' (by rw[←q'];exact hocd)
theorem store_ok {M:Model} {A:Around} {E:Value→Shared→Prop} {i:Nat} {x:Str} {v:V} {u:Value} {Q:Unit→Shared→Prop} (I:Inv X pins σ H s) (hN:X.N.Nodup) (hi:X.N[i]? = some x) (hx:Loc X.env.scope x) (r:RelV v u)
  (h:∀s',Inv X pins (σ.set i (some v)) H s'→Q () s') (hf:X.fn x=true∨X.env.scope.names.lookup x=some .local:=by first | exact .inl rfl | exact .inr rfl | assumption):wpAny M A (storeName X.env x u) Q E s :=
 store_ok2 I hN hi hx r (fun s' I' _=>h s' I') hf
theorem Inv.call' {s':Shared} {ch:List Addr} (I:Inv X pins σ H s) (ho:s'.os=s.os) (u:Un (frs X.stack) ch H H' s.heap s'.heap) (hok:HOk X.prog X.w H' s'.heap) (hg:AllBare s'.gens)
  (hch:∀b∈ch,(b∈X.ex∨X.s₀.heap.objs.size≤b)∧b≠X.env.locals∧(∀x c,X.env.cells.lookup x=some c→c≠b)∧∀p∈X.pn++pins,p.1≠b):Inv X pins σ H' s':=by
 obtain⟨h',g',d',t',o'⟩:=s'
 have e:o'=s.os:=ho
 subst e
 exact I.call (g':=g') (t':=t') (d':=d') u hok hg hch
end
noncomputable abbrev XK:=Value→Option Addr→Hp→Prop
noncomputable abbrev St:=List (Option V)
noncomputable abbrev VK:=V→Hp→Prop
noncomputable abbrev TE:=St→Hp→VK→Prop
noncomputable abbrev TT:=St→Hp→(Bool→Hp→Prop)→Prop
noncomputable abbrev TA:=St→Hp→(List V→Hp→Prop)→Prop
structure Ends where
 nx:St→Hp→Prop
 rt:VK
 bk:St→Hp→Prop:=fun _ _=>False
 ct:St→Hp→Prop:=fun _ _=>False
noncomputable abbrev TS:=Ends→St→Hp→Prop
noncomputable def EP (X:Cx) (pins:List (Addr×Obj)) (σ:St) (Q:VK) (u:Value) (s':Shared):Prop:=∃v H',Inv X pins σ H' s'∧RelV v u∧Q v H'
noncomputable def TP (X:Cx) (pins:List (Addr×Obj)) (σ:St) (Q:Bool→Hp→Prop) (b:Bool) (s':Shared):Prop:=∃H',Inv X pins σ H' s'∧Q b H'
noncomputable def AP (X:Cx) (pins:List (Addr×Obj)) (σ:St) (Q:List V→Hp→Prop) (us:List Value) (s':Shared):Prop:=∃vs H',Inv X pins σ H' s'∧Vals vs us∧Q vs H'
noncomputable def SP (X:Cx) (pins:List (Addr×Obj)) (D:Ends) (f:Flow) (s':Shared):Prop :=
 match f with
 | .next=>∃σ' H',Inv X pins σ' H' s'∧D.nx σ' H'
 | .brk=>∃σ' H',Inv X pins σ' H' s'∧D.bk σ' H'
 | .cont=>∃σ' H',Inv X pins σ' H' s'∧D.ct σ' H'
 | .ret u=>∃v σ' H',Inv X pins σ' H' s'∧RelV v u∧D.rt v H'
noncomputable def PE (X:Cx) (e:Expr) (t:TE):Prop :=
 ∀(pins:List (Addr×Obj)) (s:Shared) (σ:St) (H:Hp) (Q:VK),Inv X pins σ H s→t σ H Q→wpAny (model X.prog X.w) X.A (eval e X.env) (EP X pins σ Q) X.xe s
noncomputable def PT (X:Cx) (e:Expr) (t:TT):Prop :=
 ∀(pins:List (Addr×Obj)) (s:Shared) (σ:St) (H:Hp) (Q:Bool→Hp→Prop),Inv X pins σ H s→t σ H Q→wpAny (model X.prog X.w) X.A (isTrue e X.env (eval e X.env)) (TP X pins σ Q) X.xe s
noncomputable def PW (X:Cx) (e:Expr) (t:TT):Prop :=
 ∀(whole:Sem Value) (pins:List (Addr×Obj)) (s:Shared) (σ:St) (H:Hp) (Q:Bool→Hp→Prop),Inv X pins σ H s→t σ H Q→wpAny (model X.prog X.w) X.A (isTrue e X.env whole) (TP X pins σ Q) X.xe s
theorem PW.pt {X:Cx} {e:Expr} {t:TT} (h:PW X e t):PT X e t:=h _
noncomputable def PA (X:Cx) (es:List Expr) (t:TA):Prop :=
 ∀(pos:Pos) (pins:List (Addr×Obj)) (s:Shared) (σ:St) (H:Hp) (Q:List V→Hp→Prop),Inv X pins σ H s→t σ H Q→wpAny (model X.prog X.w) X.A (spliced (backTo pos (starEach es X.env))) (AP X pins σ Q) X.xe s
noncomputable def PS (X:Cx) (st:Stmt) (t:TS):Prop :=
 ∀(pins:List (Addr×Obj)) (s:Shared) (σ:St) (H:Hp) (D:Ends),Inv X pins σ H s→t D σ H→wpAny (model X.prog X.w) X.A (exec st X.env) (SP X pins D) X.xe s
noncomputable def PSs (X:Cx) (st:List Stmt) (t:TS):Prop :=
 ∀(pins:List (Addr×Obj)) (s:Shared) (σ:St) (H:Hp) (D:Ends),Inv X pins σ H s→t D σ H→wpAny (model X.prog X.w) X.A (execs st X.env) (SP X pins D) X.xe s
theorem thn {α:Type} {t:Sem α} {Q Q':α→Shared→Prop} {M:Model} {A:Around} {E:Value→Shared→Prop} {s:Shared} (h:wpAny M A t Q E s) (hQ:∀a s,Q a s→Q' a s):wpAny M A t Q' E s:=wpAny_mono h hQ fun _ _ x=>x
end L2
namespace L2
open PySem PySem.Spec PyProof.Rows
section
variable {X : Cx}
theorem bin {a b:Expr} {ta tb:TE} (ha:PE X a ta) (hb:PE X b tb) {pins:List (Addr×Obj)} {s:Shared} {σ:St} {H:Hp} {R:V→V→Hp→Prop} (I:Inv X pins σ H s) (h:ta σ H fun x H1=>tb σ H1 fun y H2=>R x y H2)
  {α:Type} {Q:α→Shared→Prop} {f:Value→Value→Sem α}
  (hf:∀v u s2 x y H2,Inv X pins σ H2 s2→RelV x v→RelV y u→R x y H2→wpAny (model X.prog X.w) X.A (f v u) Q X.xe s2) :
  wpAny (model X.prog X.w) X.A (eval a X.env) (fun v s₁=>wpAny (model X.prog X.w) X.A (eval b X.env) (fun u s₂=>wpAny (model X.prog X.w) X.A (f v u) Q X.xe s₂) X.xe s₁) X.xe s:=by
 refine thn (ha pins s σ H _ I h) fun v s1 ⟨x,H1,I1,r1,q1⟩=>?_
 refine thn (hb pins s1 σ H1 _ I1 q1) fun u s2 ⟨y,H2,I2,r2,q2⟩=>?_
 exact hf v u s2 x y H2 I2 r1 r2 q2
noncomputable def tVar (i:Nat):TE:=fun σ H Q=>∃v,σ[i]? = some (some v)∧Q v H
noncomputable def tC (v:V):TE:=fun _ H Q=>Q v H
theorem pe_var {i:Nat} {x:Str} {pos:Pos} (hN:X.N[i]? = some x) (hv:Vis X.env.scope x) (hd:(x==("__debug__":Str))=false:=by decide) (hcd:(x==("__classdict__":Str))=false:=by decide):PE X (.Name x pos) (tVar i):=by
 intro pins s σ H Q I h
 obtain⟨v,e,h⟩:=h
 obtain⟨m,hn,hl⟩:=I.loc
 obtain⟨u,r,l⟩:=hl i x v hN e hv
 have fin:EP X pins σ Q u s:=⟨v,H,I,r,h⟩
 rcases l with⟨hk,hm⟩ | ⟨hk,c,hc,hcell⟩
 ·exact wpAny_Name (wpAny_loadName_local I.ok.kind hk hn hm fin) hd
 ·rcases hk with hk | hk
  ·exact wpAny_Name (wpAny_loadName_cell I.ok.kind hk hc hcell fin) hd
  ·exact wpAny_Name (wpAny_loadName_free I.ok.kind hk hc hcell fin hcd) hd
theorem pe_int {i j pos}:PE X (.Constant (.int i) j pos) (tC (.int i)):=fun _ _ _ H _ I h=>wpAny_Constant_int ⟨.int i,H,I.tok _,⟨_,rfl⟩,h⟩
theorem pe_bl {b j pos}:PE X (.Constant (.bool b) j pos) (tC (.bl b)):=fun _ _ _ H _ I h=>Constant_bool ⟨.bl b,H,I,rfl,h⟩
noncomputable def Gl (X:Cx) (x:Str):Prop:=X.env.kindOf x=some .globalImplicit
theorem ld_glob {E:Value→Shared→Prop} {pins:List (Addr×Obj)} {s:Shared} {σ:St} {H:Hp} {x:Str} {u:Value} {pos:Pos} {Q:Value→Shared→Prop} (I:Inv X pins σ H s) (hg:Gl X x) (hm:X.mg x=some u) (h:Q u s)
  (hd:(x==("__debug__":Str))=false:=by decide):wpAny (model X.prog X.w) X.A (eval (.Name x pos) X.env) Q E s :=
 Calls.Name_function_global I.ok.kind hg (Calls.loadGlobal_global (by rw[I.ok.glob];exact I.mod.glob.keeps I.bk) hm h) hd
theorem ld_blt {E:Value→Shared→Prop} {pins:List (Addr×Obj)} {s:Shared} {σ:St} {H:Hp} {x:Str} {u:Value} {pos:Pos} {Q:Value→Shared→Prop} (I:Inv X pins σ H s) (hg:Gl X x) (hm:X.mg x=none) (hv:bootBuiltins x=some u) (h:Q u s)
  (hn:x≠"__name__":=by decide) (hd:(x==("__debug__":Str))=false:=by decide):wpAny (model X.prog X.w) X.A (eval (.Name x pos) X.env) Q E s:=by
 obtain⟨mb,h1,h2⟩:=I.mod.blt
 exact Calls.Name_function_global I.ok.kind hg (Calls.loadGlobal_builtin (by rw[I.ok.glob];exact I.mod.glob.keeps I.bk) hm (by rw[I.ok.blt];exact h1.keeps I.bk) ((h2 x hn).trans hv) h) hd
theorem pe_bltn {x:Str} {v:V} {u:Value} {pos:Pos} (hg:Gl X x) (hm:X.mg x=none) (hv:bootBuiltins x=some u) (r:RelV v u) (hn:x≠"__name__":=by decide) (hd:(x==("__debug__":Str))=false:=by decide):PE X (.Name x pos) (tC v) :=
 fun _ _ _ H _ I h=>ld_blt I hg hm hv ⟨v,H,I,r,h⟩ hn hd
variable {a b : Expr} {ta tb : TE} {pos : Pos}
variable {tA tB' : TT} {rest : List Expr}
noncomputable def tOr (t u:TT):TT:=fun σ H Q=>t σ H fun c H1=>if c=true then Q true H1 else u σ H1 Q
noncomputable def tNot (t:TT):TT:=fun σ H Q=>t σ H fun c H1=>Q (!c) H1
theorem pw_or1 (ha:PT X a tA):PW X (.BoolOp .Or [a] pos) tA:=by
 intro wh pins s σ H Q I h
 refine isTrue_or (thn (ha pins s σ H Q I h) fun c s1 e=>?_)
 cases c with
 | false=>exact isTrue_or_nil e
 | true=>exact e
theorem pw_or (ha:PT X a tA) (hb:PW X (.BoolOp .Or (b::rest) pos) tB'):PW X (.BoolOp .Or (a::b::rest) pos) (tOr tA tB'):=by
 intro wh pins s σ H Q I h
 refine isTrue_or (thn (ha pins s σ H _ I h) fun c s1 ⟨H1,I1,q1⟩=>?_)
 cases c with
 | true=>exact⟨H1,I1,q1⟩
 | false=>exact hb wh pins s1 σ H1 Q I1 q1
theorem pt_not (ha:PT X a tA):PT X (.UnaryOp .Not a pos) (tNot tA):=by
 intro pins s σ H Q I h
 exact isTrue_not (ha pins s σ H (fun c H1=>Q (!c) H1) I h)
noncomputable def tAndV (ta tb:TE):TE:=fun σ H Q=>ta σ H fun x H1=>∃c,x=.bl c∧if c=true then tb σ H1 Q else Q (.bl false) H1
noncomputable def tNotV (ta:TE):TE:=fun σ H Q=>ta σ H fun x H1=>∃c,x=.bl c∧Q (.bl (!c)) H1
theorem pe_one {op} {t:TE} (h:PE X a t):PE X (.BoolOp op [a] pos) t:=fun pins s σ H Q I hw=>BoolOp_one (h pins s σ H Q I hw)
theorem pe_and (ha:PE X a ta) (hb:PE X (.BoolOp .And (b::rest) pos) tb):PE X (.BoolOp .And (a::b::rest) pos) (tAndV ta tb):=by
 intro pins s σ H Q I h
 refine BoolOp_and (thn (ha pins s σ H _ I h) fun v s1 ⟨x,H1,I1,r1,q1⟩=>?_)
 obtain⟨c,rfl,q1⟩:=q1
 cases r1
 refine wpAny_truthy_bool ?_
 cases c with
 | true=>exact hb pins s1 σ H1 Q I1 q1
 | false=>exact⟨.bl false,H1,I1,rfl,q1⟩
theorem pe_not (ha:PE X a ta):PE X (.UnaryOp .Not a pos) (tNotV ta):=by
 intro pins s σ H Q I h
 refine UnaryOp_ (thn (ha pins s σ H _ I h) fun v s1 ⟨x,H1,I1,r1,q1⟩=>?_)
 obtain⟨c,rfl,q1⟩:=q1
 cases r1
 exact not_of (wpAny_truthy_bool ⟨.bl (!c),H1,I1,rfl,q1⟩)
end
end L2
namespace L2
open PySem PySem.Spec PyProof.Rows
noncomputable def SqL (K:PySem.W.Frag) (H:Hp) (a:Addr) (xs:List V):Prop :=
 Rd H a (.lst xs) ∨
  ∃(o:Obj) (its:Array Value) (n:Nat),K.lookup a=some o∧o.cls=.type "list"∧o.dict=none∧o.data=.seq its n∧its.size≤sizeLine∧Vals xs its.toList
noncomputable def SqT (K:PySem.W.Frag) (H:Hp) (a:Addr) (xs:List V):Prop :=
 Rd H a (.tup xs) ∨
  ∃(o:Obj) (its:Array Value) (n:Nat),K.lookup a=some o∧o.cls=.type "tuple"∧o.data=.seq its n∧its.size≤sizeLine∧Vals xs its.toList∧o.dict=none
noncomputable def absV:Value→Option V
 | .none=>some .non
 | .bool b=>some (.bl b)
 | .int i _=>some (.int i)
 | .str x _=>some (.str x)
 | .bytes b _=>some (.byt b)
 | .float b _=>some (.flt b)
 | .ref a=>some (.ref a)
 | .type n=>some (.ty n)
 | _=>none
theorem RelV.abs {x:V} {u:Value} (r:RelV x u):absV u=some x:=by
 cases x with
 | non=>cases r;rfl
 | bl _=>cases r;rfl
 | int _=>obtain⟨t,rfl⟩:=r;rfl
 | str _=>obtain⟨t,rfl⟩:=r;rfl
 | byt _=>obtain⟨t,rfl⟩:=r;rfl
 | flt _=>obtain⟨t,rfl⟩:=r;rfl
 | ref _=>cases r;rfl
 | ty _=>cases r;rfl
theorem RelV.inj {x y:V} {u:Value} (r:RelV x u) (q:RelV y u):x=y:=Option.some.inj (r.abs.symm.trans q.abs)
theorem Vals.inj:∀{xs ys:List V} {us:List Value},Vals xs us→Vals ys us→xs=ys
 | _,_,_,.nil,.nil=>rfl
 | _,_,_,.cons r t,.cons r' t'=>by rw[r.inj r',Vals.inj t t']
section
variable {X : Cx} {pins : List (Addr × Obj)} {σ : St} {H : Hp} {s : Shared} {a : Addr} {xs ys : List V}
theorem SqL.of {K:PySem.W.Frag} (h:H a=some (.lst xs)):SqL K H a xs:=.inl (.inl h)
theorem SqT.of {K:PySem.W.Frag} (h:H a=some (.tup xs)):SqT K H a xs:=.inl (.inl h)
theorem Inv.list (I:Inv X pins σ H s) (h:SqL X.K H a xs):∃its:List Value,Vals xs its∧PlainL s.heap a its.toArray∧xs.length≤sizeLine:=by
 rcases h with h | ⟨o,its,n,hk,hc,hd,hs,hz,r⟩
 ·obtain⟨z,its,n,r,e⟩:=h.ok I.hok
  exact⟨its,r,⟨_,n,e,rfl,rfl,rfl⟩,z⟩
 ·refine⟨its.toList,r,⟨o,n,I.kIn a o hk,hc,hd,by simpa using hs⟩,?_⟩
  have e:=r.length
  simp only[Array.length_toList]at e
  lia
theorem Inv.tuple (I:Inv X pins σ H s) (h:SqT X.K H a xs):∃its:List Value,Vals xs its∧IsTup s.heap a its.toArray∧xs.length≤sizeLine:=by
 rcases h with h | ⟨o,its,n,hk,hc,hs,hz,r,_⟩
 ·obtain⟨z,its,r,p⟩:=h.ok I.hok
  exact⟨its,r,p.tup,z⟩
 ·refine⟨its.toList,r,⟨o,I.kIn a o hk,hc,n,by simpa using hs⟩,?_⟩
  have e:=r.length
  simp only[Array.length_toList]at e
  lia
theorem Inv.list_inj (I:Inv X pins σ H s) (h:SqL X.K H a xs) (h':SqL X.K H a ys):xs=ys:=by
 obtain⟨its,r,⟨o,n,e,_,_,d⟩,_⟩:=I.list h
 obtain⟨its',r',⟨o',n',e',_,_,d'⟩,_⟩:=I.list h'
 rw[e]at e';cases e'
 rw[d]at d'
 injection d' with d1 _
 have:its=its':=by simpa using congrArg Array.toList d1
 subst this
 exact r.inj r'
theorem Inv.tuple_inj (I:Inv X pins σ H s) (h:SqT X.K H a xs) (h':SqT X.K H a ys):xs=ys:=by
 obtain⟨its,r,⟨o,e,_,n,d⟩,_⟩:=I.tuple h
 obtain⟨its',r',⟨o',e',_,n',d'⟩,_⟩:=I.tuple h'
 rw[e]at e';cases e'
 rw[d]at d'
 injection d' with d1 _
 have:its=its':=by simpa using congrArg Array.toList d1
 subst this
 exact r.inj r'
end
noncomputable abbrev Cx.wish (X:Cx) (E:Value→Shared→Prop):Cx:={X with xe:=E}
noncomputable abbrev Cx.nox (X:Cx):Cx:=X.wish fun _ _=>False
theorem Cx.Ok.wish {X:Cx} (ok:X.Ok) (E:Value→Shared→Prop):(X.wish E).Ok :=
 ⟨ok.mod,ok.kind,ok.glob,ok.blt,ok.above,ok.inj,ok.has,ok.cab,ok.hd,ok.frames,ok.stk,ok.exf,ok.bs,ok.bsz,ok.noex,ok.exfs,ok.funs,ok.frf⟩
theorem Cx.Ok.unwish {X:Cx} {E:Value→Shared→Prop} (ok:(X.wish E).Ok):X.Ok :=
 ⟨ok.mod,ok.kind,ok.glob,ok.blt,ok.above,ok.inj,ok.has,ok.cab,ok.hd,ok.frames,ok.stk,ok.exf,ok.bs,ok.bsz,ok.noex,ok.exfs,ok.funs,ok.frf⟩
section
variable {X : Cx} {pins : List (Addr × Obj)} {σ : St} {H : Hp} {s : Shared} {E : Value → Shared → Prop}
theorem Inv.wish (I:Inv X pins σ H s) (E:Value→Shared→Prop):Inv (X.wish E) pins σ H s:=⟨I.ok.wish E,I.os,I.bare,I.base,I.loc,I.cell,I.free,I.freeC,I.pin,I.hok,I.len⟩
theorem Inv.unwish (I:Inv (X.wish E) pins σ H s):Inv X pins σ H s:=⟨I.ok.unwish,I.os,I.bare,I.base,I.loc,I.cell,I.free,I.freeC,I.pin,I.hok,I.len⟩
theorem SP.unwish {D:Ends} {f:Flow} {s':Shared} (h:SP (X.wish E) pins D f s'):SP X pins D f s':=by
 cases f with
 | next=>obtain⟨σ',H',I,q⟩:=h;exact⟨σ',H',I.unwish,q⟩
 | brk=>obtain⟨σ',H',I,q⟩:=h;exact⟨σ',H',I.unwish,q⟩
 | cont=>obtain⟨σ',H',I,q⟩:=h;exact⟨σ',H',I.unwish,q⟩
 | ret u=>obtain⟨v,σ',H',I,r,q⟩:=h;exact⟨v,σ',H',I.unwish,r,q⟩
theorem PSs.nox {st:List Stmt} {t:TS} (h:PSs X.nox st t):PSs X st t:=fun pins s σ H D I hw =>
 wpAny_mono (h pins s σ H D (I.wish _) hw) (fun _ _ q=>q.unwish) fun _ _ z=>False.elim z
end
section
variable {X : Cx} {st : Stmt} {rest : List Stmt} {t u : TS} {e : Expr} {te : TE} {pos : Pos}
noncomputable def tNext:TS:=fun D σ H=>D.nx σ H
noncomputable def tSeq (t u:TS):TS:=fun D σ H=>t {D with nx:=u D} σ H
theorem pss_nil:PSs X [] tNext:=fun _ _ σ H _ I h=>wpAny_execs_nil ⟨σ,H,I,h⟩
theorem pss_cons (h1:PS X st t) (h2:PSs X rest u):PSs X (st::rest) (tSeq t u):=by
 intro pins s σ H D I h
 refine wpAny_execs_cons (thn (h1 pins s σ H {D with nx:=u D} I h) fun f s1 q=>?_)
 cases f with
 | next =>
  obtain⟨σ',H',I',q⟩:=q
  exact h2 pins s1 σ' H' D I' q
 | ret v=>exact q
 | brk=>exact q
 | cont=>exact q
theorem Inv.quiet {pins:List (Addr×Obj)} {σ:St} {H:Hp} {s:Shared} (I:Inv X pins σ H s):interactive X.env=false:=by simp[interactive,I.ok.kind]
noncomputable def tDrop (te:TE):TS:=fun D σ H=>te σ H fun _ H1=>D.nx σ H1
theorem ps_expr (he:PE X e te) (hs:swapsWith e none pos.line X.env=pure false:=by rfl):PS X (.Expr e pos) (tDrop te):=by
 intro pins s σ H D I h
 exact wpAny_Expr_any (thn (he pins s σ H _ I h) fun v s1 ⟨x,H1,I1,r1,q1⟩=>⟨σ,H1,I1,q1⟩) I.quiet hs
noncomputable def tRet (te:TE):TS:=fun D σ H=>te σ H D.rt
theorem ps_ret (he:PE X e te):PS X (.Return (some e) pos) (tRet te):=by
 intro pins s σ H D I h
 exact wpAny_Return_some (thn (he pins s σ H _ I h) fun v s1 ⟨x,H1,I1,r1,q1⟩=>⟨x,σ,H1,I1,r1,q1⟩)
noncomputable def tIfS (c:TT) (t u:TS):TS:=fun D σ H=>c σ H fun b H1=>if b=true then t D σ H1 else u D σ H1
theorem ps_if {c:Expr} {a b:List Stmt} {tc:TT} (hc:PT X c tc) (ha:PSs X a t) (hb:PSs X b u):PS X (.If c a b pos) (tIfS tc t u):=by
 intro pins s σ H D I h
 refine wpAny_If (thn (hc pins s σ H _ I h) fun d s1 ⟨H1,I1,q1⟩=>?_)
 cases d with
 | true=>exact ha pins s1 σ H1 D I1 q1
 | false=>exact hb pins s1 σ H1 D I1 q1
end
noncomputable abbrev TG:=V→St→Hp→(St→Hp→Prop)→Prop
noncomputable abbrev TGs:=List V→St→Hp→(St→Hp→Prop)→Prop
noncomputable def PG (X:Cx) (target:Expr) (t:TG):Prop :=
 ∀(pins:List (Addr×Obj)) (s:Shared) (σ:St) (H:Hp) (v:V) (u:Value) (Q:St→Hp→Prop),Inv X pins σ H s→RelV v u→t v σ H Q →
  wpAny (model X.prog X.w) X.A (assign target X.env u) (fun _ s'=>∃σ' H',Inv X pins σ' H' s'∧Q σ' H') X.xe s
noncomputable def PGs (X:Cx) (ts:List Expr) (t:TGs):Prop :=
 ∀(pins:List (Addr×Obj)) (s:Shared) (σ:St) (H:Hp) (vs:List V) (us:List Value) (Q:St→Hp→Prop),Inv X pins σ H s→Vals vs us→t vs σ H Q →
  wpAny (model X.prog X.w) X.A (assignInOrder ((assignEach ts X.env).map (·.2)) us) (fun _ s'=>∃σ' H',Inv X pins σ' H' s'∧Q σ' H') X.xe s
noncomputable abbrev TSet:=V→V→V→Hp→(Hp→Prop)→Prop
noncomputable def PSet (X:Cx) (t:TSet):Prop :=
 ∀(pins:List (Addr×Obj)) (s:Shared) (σ:St) (H:Hp) (o i v:V) (ov iv u:Value) (Q:Hp→Prop),Inv X pins σ H s→RelV o ov→RelV i iv→RelV v u→t o i v H Q →
  wpAny (model X.prog X.w) X.A (setItem ov iv u) (fun _ s'=>∃H',Inv X pins σ H' s'∧Q H') X.xe s
section
variable {X : Cx} {pos : Pos}
noncomputable def gName (i:Nat):TG:=fun v σ H Q=>Q (σ.set i (some v)) H
theorem pg_name {i:Nat} {x:Str} (hN:X.N.Nodup) (hi:X.N[i]? = some x) (hx:Loc X.env.scope x) (hf:X.fn x=true∨X.env.scope.names.lookup x=some .local:=by first | exact .inl rfl | exact .inr rfl | assumption):PG X (.Name x pos) (gName i):=by
 intro pins s σ H v u Q I r h
 exact wpAny_assign_Name (store_ok I hN hi hx r (fun s' I'=>⟨_,H,I',h⟩) hf)
noncomputable def gNil:TGs:=fun vs σ H Q=>vs=[]∧Q σ H
noncomputable def gCons (t:TG) (u:TGs):TGs:=fun vs σ H Q=>∃v r,vs=v::r∧t v σ H fun σ' H'=>u r σ' H' Q
theorem pgs_nil:PGs X [] gNil:=by
 intro pins s σ H vs us Q I r h
 obtain⟨e,h⟩:=h
 subst e
 cases r
 exact assignInOrder_nil ⟨σ,H,I,h⟩
theorem pgs_cons {e:Expr} {es:List Expr} {t:TG} {u:TGs} (h1:PG X e t) (h2:PGs X es u)
  (hs:(assignEach (e::es) X.env).map (·.2)=assign e X.env::(assignEach es X.env).map (·.2):=by rfl):PGs X (e::es) (gCons t u):=by
 intro pins s σ H vs us Q I r h
 obtain⟨v,vr,e1,h⟩:=h
 subst e1
 cases r with
 | cons r rr =>
  rw[hs]
  refine assignInOrder_cons (thn (h1 pins s σ H _ _ _ I r h) fun _ s1 ⟨σ1,H1,I1,q1⟩=>?_)
  exact h2 pins s1 σ1 H1 _ _ Q I1 rr q1
noncomputable def gTup (K:PySem.W.Frag) (n:Nat) (t:TGs):TG:=fun v σ H Q=>∃a xs,v=.ref a∧SqT K H a xs∧xs.length=n∧t xs σ H Q
theorem pg_tup {es:List Expr} {k:Nat} {t:TGs} {n:Nat} (hc:X.calm=true) (h:PGs X es t)
  (hn:(assignEach es X.env).length=n:=by rfl) (hst:(assignEach es X.env).findIdx? (·.1)=none:=by rfl):PG X (.Tuple es k pos) (gTup X.K n t):=by
 intro pins s σ H v u Q I r hw
 obtain⟨a,xs,e1,hq,hl,hw⟩:=hw
 subst e1
 cases r
 obtain⟨its,rv,ht,hz⟩:=I.tuple hq
 refine assign_Tuple_tuple (I.ok.hd hc) ht (by simp[hn,←hl,rv.length]) hst fun h' hx=>?_
 have I1:Inv X pins σ H {s with heap:=h'}:=I.kept (t':=s.toks) fun b o e=>hx b o (Nat.ne_of_lt (Heap.lt_size e)) e
 exact h pins _ σ H xs _ Q I1 (by simpa using rv) hw
noncomputable def gSub (to ti:TE) (t:TSet):TG:=fun v σ H Q=>to σ H fun o H1=>ti σ H1 fun i H2=>t o i v H2 fun H3=>Q σ H3
theorem pg_sub {o i:Expr} {to ti:TE} {t:TSet} (ho:PE X o to) (hi:PE X i ti) (hs:PSet X t)
  (ha:∀v,assign (.Subscript o i pos) X.env v=(do
   let ov ←holding [v] (eval o X.env)
   let iv ←holding [v,ov] (eval i X.env)
   standAt pos
   holding [v,ov,iv] (setItem ov iv v)
   release [v,ov,iv] []):=by intro _;rfl):PG X (.Subscript o i pos) (gSub to ti t):=by
 intro pins s σ H v u Q I r h
 rw[ha]
 refine wpAny_bind (wpAny_holding (thn (ho pins s σ H _ I h) fun ov s1 ⟨x,H1,I1,r1,q1⟩=>?_))
 refine wpAny_bind (wpAny_holding (thn (hi pins s1 σ H1 _ I1 q1) fun iv s2 ⟨y,H2,I2,r2,q2⟩=>?_))
 refine wpAny_bind (wpAny_standAt (wpAny_bind (wpAny_holding (thn (hs pins s2 σ H2 x y v ov iv u _ I2 r1 r2 r q2) fun _ s3 ⟨H3,I3,q3⟩=>?_))))
 exact wpAny_release ⟨σ,H3,I3,q3⟩
noncomputable def tAsg (te:TE) (g:TG):TS:=fun D σ H=>te σ H fun x H1=>g x σ H1 D.nx
theorem ps_asg {tg e:Expr} {te:TE} {g:TG} (he:PE X e te) (hg:PG X tg g) (hs:swapsWithSole [tg] e pos.line X.env=pure false:=by rfl) (hw:swappedStores [tg] e X.env=pure none:=by rfl)
  (h1:(assignEach [tg] X.env).map (·.2)=[assign tg X.env]:=by rfl):PS X (.Assign [tg] e pos) (tAsg te g):=by
 intro pins s σ H D I h
 refine wpAny_Assign_stores (thn (he pins s σ H _ I h) fun v s1 ⟨x,H1,I1,r1,q1⟩=>?_) hs hw
 rw[h1]
 exact thn (hg pins s1 σ H1 x v _ I1 r1 q1) fun _ s2 q=>q
theorem ps_set {i:Nat} {x:Str} {e:Expr} {te:TE} {pos':Pos} (hN:X.N.Nodup) (hi:X.N[i]? = some x) (hx:Loc X.env.scope x) (he:PE X e te) (hs:swapsWith e (some (.Name x pos')) pos.line X.env=pure false:=by rfl) (hf:X.fn x=true∨X.env.scope.names.lookup x=some .local:=by first | exact .inl rfl | exact .inr rfl | assumption) :
  PS X (.Assign [.Name x pos'] e pos) (tAsg te (gName i)):=by
 intro pins s σ H D I h
 refine wpAny_Assign_Name (thn (he pins s σ H _ I h) fun v s1 ⟨y,H1,I1,r1,q1⟩=>?_) hs
 exact store_ok I1 hN hi hx r1 (fun s2 I2=>⟨_,H1,I2,q1⟩) hf
end
structure It where
 go:Nat→Hp→Prop
 yld:Nat→Hp→V→Hp→Prop
 stop:Nat→Hp→Prop
noncomputable def FpOk (X:Cx) (pins:List (Addr×Obj)) (H:Hp) (b:Addr):Prop :=
 H b=none∧b≠X.env.locals∧b∉X.fs∧(b∈X.ex∨X.s₀.heap.objs.size≤b)∧(∀x c,X.env.cells.lookup x=some c→c≠b)∧∀p∈X.pn++pins,p.1≠b
theorem Inv.fpOk {X:Cx} {pins:List (Addr×Obj)} {σ:St} {H H':Hp} {s:Shared} {b:Addr} (I:Inv X pins σ H s) (hb:s.heap.objs.size≤b) (hn:H' b=none):FpOk X pins H' b:=by
 refine⟨hn,Nat.ne_of_gt (Nat.lt_of_lt_of_le I.lt hb),I.nofs hb,.inr (Nat.le_trans I.sz hb),fun x c e z=>?_,fun p hp z=>?_⟩
 ·obtain⟨v,q⟩:=I.cell x c e
  exact absurd (Nat.lt_of_lt_of_le q.lt (by rw[z];exact hb)) (Nat.lt_irrefl _)
 ·exact absurd (Nat.lt_of_lt_of_le (Heap.lt_size (I.pin p hp).1) (by rw[z];exact hb)) (Nat.lt_irrefl _)
structure Turn (P:Program) (w:World) (K:PySem.W.Frag) (tg:Expr) (J:It) (fp:List Addr) (it:Addr) (tn:Nat→Heap→Prop):Prop where
 mem:it∈fp
 obj:∀i h,tn i h→∀b∈fp,∃o,h.get? b=some o∧∀v,o.data≠.cell v
 keep:∀i h h',tn i h→(∀b∈fp,∀o,h.get? b=some o→h'.get? b=some o)→tn i h'
 item:∀(X:Cx),X.prog=P→X.w=w→X.K=K→X.calm=true→∀(i:Nat) (pins:List (Addr×Obj)) (s:Shared) (σ:St) (H:Hp) (E:Value→Shared→Prop),Inv X pins σ H s→(∀b∈fp,FpOk X pins H b)→tn i s.heap→J.go i H →
  wpAny (model P w) X.A (pyNext (.ref it)) (fun r s1=>∃u,r=some u ∧
   wpAny (model P w) X.A (letOwnedTupleGo tg (.ref it) u) (fun _ s2=>∃x H',Inv X pins σ H' s2∧RelV x u∧J.yld i H x H'∧tn (i+1) s2.heap∧∀b∈fp,H' b=none) E s1) E s
 done:∀(X:Cx),X.prog=P→X.w=w→X.K=K→X.calm=true→∀(i:Nat) (pins:List (Addr×Obj)) (s:Shared) (σ:St) (H:Hp) (E:Value→Shared→Prop),Inv X pins σ H s→(∀b∈fp,FpOk X pins H b)→tn i s.heap→J.stop i H →
  wpAny (model P w) X.A (pyNext (.ref it)) (fun r s1=>r=none∧Inv X pins σ H s1) E s
 self:∀(A:Around) (i:Nat) (s:Shared) (Q:Value→Shared→Prop) (E:Value→Shared→Prop),tn i s.heap→Q (.ref it) s→wpAny (model P w) A (pyIter (.ref it)) Q E s
noncomputable abbrev TI:=St→Hp→(It→Hp→Prop)→Prop
noncomputable def PIE (X:Cx) (pins:List (Addr×Obj)) (σ:St) (tg:Expr) (R:It→Hp→Prop) (itv:Value) (s2:Shared):Prop :=
 ∃(it:Addr) (fp:List Addr) (tn:Nat→Heap→Prop) (J:It) (H':Hp),itv=.ref it∧Inv X pins σ H' s2∧Turn X.prog X.w X.K tg J fp it tn∧tn 0 s2.heap∧(∀b∈fp,FpOk X pins H' b)∧R J H'
noncomputable def PI (X:Cx) (tg iter:Expr) (wi:TI):Prop :=
 ∀(pins:List (Addr×Obj)) (s:Shared) (σ:St) (H:Hp) (R:It→Hp→Prop),Inv X pins σ H s→wi σ H R →
  wpAny (model X.prog X.w) X.A (eval iter X.env) (fun v s1=>wpAny (model X.prog X.w) X.A (pyIter v) (PIE X pins σ tg R) X.xe s1) X.xe s
theorem go_of {M:Model} {A:Around} {E:Value→Shared→Prop} {s:Shared} {tg:Expr} {it:Addr} {u:Value} {o:Obj} {n:String} {vs:Array Value} {Q:Unit→Shared→Prop} (ho:s.heap.get? it=some o) (hc:o.cls=.type n) (hd:o.data=.fields vs)
  (hn:["enumerate","zip","dict_itemiterator","dict_reverseitemiterator","odict_iterator","itertools.zip_longest","itertools.pairwise"].contains n=false) (hQ:Q () s):wpAny M A (letOwnedTupleGo tg (.ref it) u) Q E s:=by
 unfold letOwnedTupleGo
 cases tg<;>first
  | exact wpAny_pure hQ
  | (cases u<;>first
    | exact wpAny_pure hQ
    | (
     refine wpAny_bind (wpAny_load ho ?_)
     rw[hc,hd]
     show wpAny M A (if(["enumerate","zip","dict_itemiterator","dict_reverseitemiterator","odict_iterator","itertools.zip_longest","itertools.pairwise"].contains n&&vs[0]?==some (rawInt _))=true then _ else _) Q E s
     rw[if_neg (by intro h;rw[hn,Bool.false_and]at h;cases h)]
     exact wpAny_pure hQ))
noncomputable def Itl (K:PySem.W.Frag) (a:Addr):It :=
 ⟨fun i H=>∃xs x,SqL K H a xs∧xs[i]? = some x,fun i H x H'=>H'=H∧∀xs,SqL K H a xs→xs[i]? = some x,fun i H=>∃xs,SqL K H a xs∧xs.length≤i⟩
noncomputable def Itt (K:PySem.W.Frag) (a:Addr):It :=
 ⟨fun i H=>∃xs x,SqT K H a xs∧xs[i]? = some x,fun i H x H'=>H'=H∧∀xs,SqT K H a xs→xs[i]? = some x,fun i H=>∃xs,SqT K H a xs∧xs.length≤i⟩
noncomputable def Itr (lo:Int) (n:Nat):It:=⟨fun i _=>i<n,fun i H x H'=>H'=H∧x=.int (lo+i),fun i _=>n≤i⟩
theorem turn_list {P:Program} {w:World} {K:PySem.W.Frag} {tg:Expr} (a it:Addr):Turn P w K tg (Itl K a) [it] it (fun i h=>h.IsListIter it a i) where
 mem:=by simp
 obj:=fun i h st b hb=>by
  have e:b=it:=by simpa using hb
  subst e
  obtain⟨o,e,c,d⟩:=st
  exact⟨o,e,fun v z=>by rw[d]at z;cases z⟩
 keep:=fun i h h' st k=>st.at fun o e=>k it (by simp) o e
 item:=by
  intro X hP hw hK hc i pins s σ H E I hf st hg
  subst hP hw hK
  obtain⟨xs,x,hq,hx⟩:=hg
  obtain⟨its,rv,p,hz⟩:=I.list hq
  obtain⟨u,hu,ru⟩:=rv.get hx
  obtain⟨f0,f1,f2,f3,f4,f5⟩:=hf it (by simp)
  refine wpAny_pyNext_list_item st p.isList (x:=u) (by simpa using hu) fun h' st' sb=>?_
  have I1:Inv X pins σ H {s with heap:=h'}:=I.turned (t':=s.toks) (fun b o hb e=>(sb.2 b hb).trans e) f0 f1 f3 f4 f5
  obtain⟨o,e,c,d⟩:=id st'
  exact⟨u,rfl,go_of (s:={s with heap:=h'}) e c d (by decide) ⟨x,H,I1,ru,⟨rfl,fun ys hy=>by rw[I.list_inj hy hq];exact hx⟩,st',fun b hb=>(hf b hb).1⟩⟩
 done:=by
  intro X hP hw hK hc i pins s σ H E I hf st hg
  subst hP hw hK
  obtain⟨xs,hq,hx⟩:=hg
  obtain⟨its,rv,p,hz⟩:=I.list hq
  obtain⟨f0,f1,f2,f3,f4,f5⟩:=hf it (by simp)
  have hl:=rv.length
  exact wpAny_pyNext_list_end (I.ok.hd hc) st p.isList (by simp;lia) fun h' eb=>⟨rfl,I.turned (t':=s.toks) (fun b o hb e=>eb b o hb e) f0 f1 f3 f4 f5⟩
 self:=fun _ _ _ _ _ st h=>wpAny_pyIter_listiter st h
theorem turn_tuple {P:Program} {w:World} {K:PySem.W.Frag} {tg:Expr} (a it:Addr):Turn P w K tg (Itt K a) [it] it (fun i h=>h.IsTupleIter it a i) where
 mem:=by simp
 obj:=fun i h st b hb=>by
  have e:b=it:=by simpa using hb
  subst e
  obtain⟨o,e,c,d⟩:=st
  exact⟨o,e,fun v z=>by rw[d]at z;cases z⟩
 keep:=fun i h h' st k=>st.at fun o e=>k it (by simp) o e
 item:=by
  intro X hP hw hK hc i pins s σ H E I hf st hg
  subst hP hw hK
  obtain⟨xs,x,hq,hx⟩:=hg
  obtain⟨its,rv,p,hz⟩:=I.tuple hq
  obtain⟨u,hu,ru⟩:=rv.get hx
  obtain⟨f0,f1,f2,f3,f4,f5⟩:=hf it (by simp)
  refine wpAny_pyNext_tuple_item st (show s.heap.IsTuple a its.toArray from p) (x:=u) (by simpa using hu) fun h' st' sb=>?_
  have I1:Inv X pins σ H {s with heap:=h'}:=I.turned (t':=s.toks) (fun b o hb e=>(sb.2 b hb).trans e) f0 f1 f3 f4 f5
  obtain⟨o,e,c,d⟩:=id st'
  exact⟨u,rfl,go_of (s:={s with heap:=h'}) e c d (by decide) ⟨x,H,I1,ru,⟨rfl,fun ys hy=>by rw[I.tuple_inj hy hq];exact hx⟩,st',fun b hb=>(hf b hb).1⟩⟩
 done:=by
  intro X hP hw hK hc i pins s σ H E I hf st hg
  subst hP hw hK
  obtain⟨xs,hq,hx⟩:=hg
  obtain⟨its,rv,p,hz⟩:=I.tuple hq
  obtain⟨f0,f1,f2,f3,f4,f5⟩:=hf it (by simp)
  have hl:=rv.length
  exact wpAny_pyNext_tuple_end (I.ok.hd hc) st (show s.heap.IsTuple a its.toArray from p) (by simp;lia) fun h' eb=>⟨rfl,I.turned (t':=s.toks) (fun b o hb e=>eb b o hb e) f0 f1 f3 f4 f5⟩
 self:=fun _ _ _ _ _ st h=>wpAny_pyIter_tupleiter st h
theorem turn_range {P:Program} {w:World} {K:PySem.W.Frag} {tg:Expr} (it:Addr) (lo:Int) (n:Nat):Turn P w K tg (Itr lo n) [it] it (fun i h=>IsRangeIter h it (lo+(i:Nat)*1) ((n:Int)-(i:Nat)) 1) where
 mem:=by simp
 obj:=fun i h st b hb=>by
  have e:b=it:=by simpa using hb
  subst e
  exact⟨_,st,fun v z=>by
   have z':Data.fields _=Data.cell v:=z
   cases z'⟩
 keep:=fun i h h' st k=>k it (by simp) _ st
 item:=by
  intro X hP hw hK hc i pins s σ H E I hf st hg
  subst hP hw hK
  obtain⟨f0,f1,f2,f3,f4,f5⟩:=hf it (by simp)
  have W:=Walks.range (prog:=X.prog) (w:=X.w) (I.ok.hd hc) it lo 1 n
  refine W.item i s _ _ hg st fun v h' tk hv st' kk=>?_
  obtain⟨t,rfl⟩:=hv
  have I1:Inv X pins σ H {s with heap:=h',toks:=tk}:=I.turned (fun b o hb e=>kk b o (by simpa using hb) e) f0 f1 f3 f4 f5
  refine⟨_,rfl,go_of (s:={s with heap:=h',toks:=tk}) (n:="range_iterator") st' rfl rfl (by decide) ⟨.int (lo+i),H,I1,⟨t,?_⟩,⟨rfl,rfl⟩,st',fun b hb=>(hf b hb).1⟩⟩
  rw[Int.mul_one]
 done:=by
  intro X hP hw hK hc i pins s σ H E I hf st hg
  subst hP hw hK
  obtain⟨f0,f1,f2,f3,f4,f5⟩:=hf it (by simp)
  exact wpAny_pyNext_range_end (I.ok.hd hc) st (by have:n≤i:=hg;lia) fun h' eb=>⟨rfl,I.turned (t':=s.toks) (fun b o hb e=>eb b o hb e) f0 f1 f3 f4 f5⟩
 self:=fun _ _ _ _ _ st h=>wpAny_pyIter_rangeiter st h
end L2
namespace L2
open PySem PySem.Spec PyProof.Rows
section
variable {X : Cx} {tg : Expr}
theorem range_it {pins:List (Addr×Obj)} {σ:St} {H:Hp} {s:Shared} {R:It→Hp→Prop} {E:Value→Shared→Prop} {lo hi:Int} {t u v:Tok} {tk:Nat} (I:Inv X pins σ H s) (h1:-(2 ^ 62)≤lo) (h2:lo<2 ^ 62) (h3:-(2 ^ 62)≤hi) (h4:hi<2 ^ 62)
  (q:R (Itr lo (hi-lo).toNat) H):wpAny (model X.prog X.w) X.A (pyIter (.ref s.heap.objs.size)) (PIE X pins σ tg R) E {s with heap:=s.heap.push {cls:=.type "range",data:=.fields #[.int lo t,.int hi u,.int 1 v]},toks:=tk}:=by
 refine wpAny_pyIter_range (IsRange.new ..) (small_one h1 h2 h3 h4) ?_
 have I1:Inv X pins σ H {s with heap:=s.heap.push {cls:=.type "range",data:=.fields #[.int lo t,.int hi u,.int 1 v]},toks:=tk}:=I.kept fun b o e=>Heap.get?_push_of_some _ e
 refine⟨(s.heap.push {cls:=.type "range",data:=.fields #[.int lo t,.int hi u,.int 1 v]}).objs.size,[(s.heap.push {cls:=.type "range",data:=.fields #[.int lo t,.int hi u,.int 1 v]}).objs.size],_,_,H,rfl,
  I1.kept (t':=tk) fun b o e=>Heap.get?_push_of_some _ e,turn_range _ lo (hi-lo).toNat,?_,fun b hb=>?_,q⟩
 ·have e1:lo+((0:Nat):Int)*1=lo:=by simp
  have e2:(((hi-lo).toNat:Nat):Int)-((0:Nat):Int)=Builtin.Range.rangeSize lo hi 1:=by rw[rangeSize_one];split<;>lia
  show IsRangeIter _ _ (lo+((0:Nat):Int)*1) ((((hi-lo).toNat:Nat):Int)-((0:Nat):Int)) 1
  rw[e1,e2]
  exact Heap.get?_push_size _ rfl
 ·have e:b=(s.heap.push {cls:=.type "range",data:=.fields #[.int lo t,.int hi u,.int 1 v]}).objs.size:=by simpa using hb
  subst e
  exact I1.fpOk (Nat.le_refl _) (I1.hok.fresh (Nat.le_refl _))
noncomputable def iRng1 (ta:TA):TI:=fun σ H R=>ta σ H fun vs H1=>∃j:Int,vs=[.int j] ∧ -(2 ^ 62)≤j∧j<2 ^ 62∧R (Itr 0 j.toNat) H1
theorem pi_range1 {a:Expr} {ta:TA} {p pos:Pos} (hg:Gl X "range") (hm:X.mg "range"=none) (ha:PA X [a] ta) (hs:starEach [a] X.env=[(false,eval a X.env)]:=by rfl):PI X tg (.Call (.Name "range" p) [a] [] pos) (iRng1 ta):=by
 intro pins s σ H R I h
 refine Call_ (ld_blt I hg hm boot_range (PyProof.Rows.callWith_type1 (thn (ha pos pins s σ H _ I h) fun us s1 ⟨vs,H1,I1,r1,q1⟩=>?_) hs rfl))
 obtain⟨j,e,q1,q2,q⟩:=q1
 subst e
 cases r1 with
 | cons r rr =>
  cases rr
  obtain⟨t,rfl⟩:=r
  exact call_range_1 (range_it I1 (by lia) (by lia) q1 q2 (by simpa using q))
noncomputable def tFor (wi:TI) (g:TG) (tb:TS):TS:=fun D σ H=>wi σ H fun J H1=>∃W:Nat→Nat→St→Hp→Prop,(∃m,W 0 m σ H1)∧∀i m σ H,W i m σ H →
 (J.stop i H∧D.nx σ H)∨(J.go i H∧∃N:St→Hp→Prop,(∀σ' H',N σ' H'→∃m',m'<m∧W (i+1) m' σ' H')∧∀x H',J.yld i H x H'→g x σ H' fun σ2 H2=>tb {D with nx:=N,ct:=N,bk:=D.nx} σ2 H2)
noncomputable def pinsAt (fp:List Addr) (h:Heap):List (Addr×Obj):=fp.filterMap fun b=>(h.get? b).map fun o=>(b,o)
theorem mem_pinsAt {fp:List Addr} {h:Heap} {b:Addr} {o:Obj} (hb:b∈fp) (e:h.get? b=some o):(b,o)∈pinsAt fp h:=List.mem_filterMap.mpr ⟨b,hb,by rw[e];rfl⟩
theorem of_pinsAt {fp:List Addr} {h:Heap} {p:Addr×Obj} (hp:p∈pinsAt fp h):p.1∈fp∧h.get? p.1=some p.2:=by
 obtain⟨b,hb,e⟩:=List.mem_filterMap.mp hp
 cases q:h.get? b with
 | none=>rw[q]at e;cases e
 | some o =>
  rw[q]at e
  have e':(b,o)=p:=Option.some.inj e
  subst e'
  exact⟨hb,q⟩
theorem Inv.pinned {pins:List (Addr×Obj)} {σ:St} {H:Hp} {s:Shared} {fp:List Addr} (I:Inv X pins σ H s) (hf:∀b∈fp,FpOk X pins H b) (ho:∀b∈fp,∃o,s.heap.get? b=some o∧∀v,o.data≠.cell v):Inv X (pins++pinsAt fp s.heap) σ H s :=
 I.pins_of fun p hp=>(List.mem_append.mp hp).elim (fun z=>I.pin p (List.mem_append_right _ z)) fun z=>by
  obtain⟨hb,e⟩:=of_pinsAt z
  obtain⟨f0,f1,f2,_⟩:=hf p.1 hb
  obtain⟨o,e',d⟩:=ho p.1 hb
  rw[e]at e';cases e'
  exact⟨e,f0,f1,f2,d⟩
theorem Inv.unpinned {pins pl:List (Addr×Obj)} {σ:St} {H:Hp} {s:Shared} (I:Inv X (pins++pl) σ H s):Inv X pins σ H s:=I.pins_of fun p hp=>I.pin p (List.mem_append_right _ (List.mem_append_left _ hp))
theorem ps_for {iter:Expr} {body:List Stmt} {wi:TI} {g:TG} {tb:TS} {pos:Pos} (hp:PassesOwn (model X.prog X.w) X.A X.env X.xe) (hc:X.calm=true) (hi:PI X tg iter wi) (hg:PG X tg g) (hb:PSs X body tb)
  (hs:∀x,foldedSetIterable iter X.env x=pure x:=by intro _;rfl):PS X (.For tg iter body [] pos) (tFor wi g tb):=by
 intro pins s σ H D I h
 refine wpAny_For (thn (hi pins s σ H _ I h) fun v s1 h1=>thn h1 fun itv s2 h2=>?_) hs
 obtain⟨it,fp,tn,J,H2,e,I2,T,st2,f2,W,⟨m0,w0⟩,turn⟩:=h2
 subst e
 -- what stays true of the iterator's objects through the loop
 have stat:∀{H':Hp},(∀b∈fp,H' b=none)→∀b∈fp,FpOk X pins H' b:=fun hn b hb=>⟨hn b hb,(f2 b hb).2⟩
 refine codeAny_forLoop_any (fun n s'=>∃i σ' H',Inv X pins σ' H' s'∧tn i s'.heap∧(∀b∈fp,H' b=none)∧W i n σ' H') ?_ m0 ⟨0,σ,H2,I2,st2,fun b hb=>(f2 b hb).1,w0⟩
 rintro n s3 ⟨i,σ3,H3,I3,st3,fr3,w3⟩
 rcases turn i n σ3 H3 w3 with⟨stop,qn⟩ | ⟨go,N,hN,step⟩
 ·refine wpAny_passesOwn hp (thn (T.done X rfl rfl rfl hc i pins s3 σ3 H3 X.xe I3 (stat fr3) st3 stop) fun r s4 ⟨hr,I4⟩=>?_)
  subst hr
  exact wpAny_execs_nil ⟨σ3,H3,I4,qn⟩
 ·refine wpAny_passesOwn hp (thn (T.item X rfl rfl rfl hc i pins s3 σ3 H3 X.xe I3 (stat fr3) st3 go) fun r s4 ⟨u,hr,h4⟩=>?_)
  subst hr
  refine wpAny_passesOwn hp (thn h4 fun _ s5 ⟨x,H5,I5,r5,y5,st5,fr5⟩=>?_)
  have I5':=I5.pinned (stat fr5) (T.obj _ _ st5)
  refine wpAny_passesOwn hp (thn (hg _ s5 σ3 H5 x u _ I5' r5 (step x H5 y5)) fun _ s6 ⟨σ6,H6,I6,q6⟩=>?_)
  refine wpAny_passesOwn hp (thn (hb _ s6 σ6 H6 _ I6 q6) fun f s7 q7=>?_)
  have again:∀{σ7:St} {H7:Hp},Inv X (pins++pinsAt fp s5.heap) σ7 H7 s7→N σ7 H7→∃m,m<n∧∃i σ' H',Inv X pins σ' H' s7∧tn i s7.heap∧(∀b∈fp,H' b=none)∧W i m σ' H':=fun {σ7 H7} I7 n7=>by
   obtain⟨m',hm,w7⟩:=hN σ7 H7 n7
   refine⟨m',hm,i+1,σ7,H7,I7.unpinned,T.keep _ _ _ st5 fun b hb o e=>(I7.pin (b,o) (List.mem_append_right _ (List.mem_append_right _ (mem_pinsAt hb e)))).1,fun b hb=>?_,w7⟩
   obtain⟨o,e,d⟩:=T.obj _ _ st5 b hb
   exact(I7.pin (b,o) (List.mem_append_right _ (List.mem_append_right _ (mem_pinsAt hb e)))).2.1
  cases f with
  | next=>obtain⟨σ7,H7,I7,n7⟩:=q7;exact again I7 n7
  | cont=>obtain⟨σ7,H7,I7,n7⟩:=q7;exact again I7 n7
  | brk=>obtain⟨σ7,H7,I7,q7⟩:=q7;exact⟨σ7,H7,I7.unpinned,q7⟩
  | ret v=>obtain⟨x7,σ7,H7,I7,r7,q7⟩:=q7;exact⟨x7,σ7,H7,I7.unpinned,r7,q7⟩
end
end L2
namespace L2
open PySem PySem.Spec PyProof.Rows
noncomputable abbrev R2:=V→V→Hp→VK→Prop
noncomputable def OpR (X:Cx) (f:Value→Value→Sem Value) (r:R2):Prop :=
 ∀(pins:List (Addr×Obj)) (s:Shared) (σ:St) (H:Hp) (x y:V) (v u:Value) (Q:VK),Inv X pins σ H s→RelV x v→RelV y u→r x y H Q →
  wpAny (model X.prog X.w) X.A (f v u) (EP X pins σ Q) X.xe s
noncomputable def CallR (X:Cx) (f:Value) (r:List V→Hp→VK→Prop):Prop :=
 ∀(pins:List (Addr×Obj)) (s:Shared) (σ:St) (H:Hp) (xs:List V) (us:List Value) (Q:VK),Inv X pins σ H s→Vals xs us→r xs H Q →
  wpAny (model X.prog X.w) X.A (call f us) (EP X pins σ Q) X.xe s
noncomputable def TruR (X:Cx) (r:V→Hp→(Bool→Hp→Prop)→Prop):Prop :=
 ∀(pins:List (Addr×Obj)) (s:Shared) (σ:St) (H:Hp) (x:V) (v:Value) (Q:Bool→Hp→Prop),Inv X pins σ H s→RelV x v→r x H Q →
  wpAny (model X.prog X.w) X.A (truthy v) (TP X pins σ Q) X.xe s
noncomputable def tOp (r:R2) (ta tb:TE):TE:=fun σ H Q=>ta σ H fun x H1=>tb σ H1 fun y H2=>r x y H2 Q
noncomputable def rI (C:Int→Int→Prop) (g:Int→Int→V):R2:=fun x y H Q=>∃i j,x=.int i∧y=.int j∧C i j∧Q (g i j) H
noncomputable def rI0 (g:Int→Int→V):R2:=fun x y H Q=>∃i j,x=.int i∧y=.int j∧Q (g i j) H
section
variable {X : Cx} {a b c : Expr} {ta tb tc : TE} {pos : Pos}
theorem binT (ha:PE X a ta) (hb:PE X b tb) {pins:List (Addr×Obj)} {s:Shared} {σ:St} {H:Hp} {R:V→V→Hp→Prop} (I:Inv X pins σ H s)
  (h:ta σ H fun x H1=>tb σ H1 fun y H2=>R x y H2) {Q:Value→Shared→Prop} {f:Value→Value→Sem Value}
  (hf:∀v u s2 x y H2,Inv X pins σ H2 s2→RelV x v→RelV y u→R x y H2→wpAny (model X.prog X.w) X.A (f v u) Q X.xe s2) :
  wpAny (model X.prog X.w) X.A (eval a X.env) (fun v s₁=>wpAny (model X.prog X.w) X.A (eval b X.env) (fun u s₂=>wpAny (model X.prog X.w) X.A (f v u) Q X.xe s₂) X.xe s₁) X.xe s:=by
 refine thn (ha pins s σ H _ I h) fun v s1 ⟨x,H1,I1,r1,q1⟩=>?_
 refine thn (hb pins s1 σ H1 _ I1 q1) fun u s2 ⟨y,H2,I2,r2,q2⟩=>?_
 exact hf v u s2 x y H2 I2 r1 r2 q2
theorem pe_op {op:Operator} {r:R2} (ho:OpR X (binaryOp op) r) (ha:PE X a ta) (hb:PE X b tb):PE X (.BinOp a op b pos) (tOp r ta tb):=by
 intro pins s σ H Q I h
 exact wpAny_BinOp (binT ha hb I h fun v u s2 x y H2 I2 rx ry q=>ho pins s2 σ H2 x y v u Q I2 rx ry q)
theorem opI {f:Value→Value→Sem Value} {C:Int→Int→Prop} {g:Int→Int→Int}
  (rule:∀(i j:Int) (t u:Tok) (s:Shared) (Q:Value→Shared→Prop) (E:Value→Shared→Prop),C i j→Q (.int (g i j) s.toks) {s with toks:=s.toks+1}→wpAny (model X.prog X.w) X.A (f (.int i t) (.int j u)) Q E s) :
  OpR X f (rI C fun i j=>.int (g i j)):=by
 intro pins s σ H x y v u Q I rx ry h
 obtain⟨i,j,rfl,rfl,hc,q⟩:=h
 obtain⟨t,rfl⟩:=rx
 obtain⟨t',rfl⟩:=ry
 exact rule i j t t' s _ _ hc ⟨.int (g i j),H,I.tok _,⟨_,rfl⟩,q⟩
theorem opI0 {f:Value→Value→Sem Value} {g:Int→Int→Int}
  (rule:∀(i j:Int) (t u:Tok) (s:Shared) (Q:Value→Shared→Prop) (E:Value→Shared→Prop),Q (.int (g i j) s.toks) {s with toks:=s.toks+1}→wpAny (model X.prog X.w) X.A (f (.int i t) (.int j u)) Q E s) :
  OpR X f (rI0 fun i j=>.int (g i j)):=by
 intro pins s σ H x y v u Q I rx ry h
 obtain⟨i,j,rfl,rfl,q⟩:=h
 obtain⟨t,rfl⟩:=rx
 obtain⟨t',rfl⟩:=ry
 exact rule i j t t' s _ _ ⟨.int (g i j),H,I.tok _,⟨_,rfl⟩,q⟩
theorem opB0 {f:Value→Value→Sem Value} {g:Int→Int→Bool}
  (rule:∀(i j:Int) (t u:Tok) (s:Shared) (Q:Value→Shared→Prop) (E:Value→Shared→Prop),Q (.bool (g i j)) s→wpAny (model X.prog X.w) X.A (f (.int i t) (.int j u)) Q E s) :
  OpR X f (rI0 fun i j=>.bl (g i j)):=by
 intro pins s σ H x y v u Q I rx ry h
 obtain⟨i,j,rfl,rfl,q⟩:=h
 obtain⟨t,rfl⟩:=rx
 obtain⟨t',rfl⟩:=ry
 exact rule i j t t' s _ _ ⟨.bl (g i j),H,I,rfl,q⟩
noncomputable def CDiv (i j:Int):Prop:=0<j∧j<1073741824
noncomputable def CPow (i j:Int):Prop:=0≤j∧j≤1000000∧i.natAbs<2 ^ 64
noncomputable def CMul (i j:Int):Prop:=(-(2 ^ 64)<i∧i<2 ^ 64)∨(-(2 ^ 64)<j∧j<2 ^ 64)
theorem CMul.ok {i j:Int} (h:CMul i j):IntMulOk i j:=by
 rcases h with⟨h1,h2⟩ | ⟨h1,h2⟩
 ·exact .of_left (intBits_le_64 h1 h2)
 ·exact .of_right (intBits_le_64 h1 h2)
theorem two_pow_nn (k:Nat):(0:Int)≤2 ^ k:=by
 rw[two_pow_cast]
 exact Int.natCast_nonneg _
theorem op_add:OpR X (binaryOp .Add) (rI0 fun i j=>.int (i+j)):=opI0 fun _ _ _ _ _ _ _ q=>add_int q
theorem op_sub:OpR X (binaryOp .Sub) (rI0 fun i j=>.int (i-j)):=opI0 fun _ _ _ _ _ _ _ q=>sub_int q
theorem op_mul:OpR X (binaryOp .Mult) (rI CMul fun i j=>.int (i*j)):=opI fun _ _ _ _ _ _ _ hc q=>mul_int q hc.ok
theorem op_fdiv:OpR X (binaryOp .FloorDiv) (rI CDiv fun i j=>.int (i / j)):=opI fun i j _ _ _ _ _ hc q=>by
 have h1:(0:Int)<j:=hc.1
 have h2:j<1073741824:=hc.2
 exact floordiv_int (by lia) (by rw[Int.fdiv_eq_ediv_of_nonneg i (by lia)];exact q) (.inl (PyProof.noPylong_small (by lia)))
theorem op_mod:OpR X (binaryOp .Mod) (rI (fun _ j=>0<j) fun i j=>.int (i % j)):=opI fun i j _ _ _ _ _ hc q=>by
 have h1:(0:Int)<j:=hc
 exact mod_int' (by lia) (by rw[Int.fmod_eq_emod_of_nonneg i (by lia)];exact q)
theorem op_pow:OpR X (binaryOp .Pow) (rI CPow fun i j=>.int (i ^ j.toNat)):=opI fun _ _ _ _ _ _ _ hc q=>pow_int_small hc.1 hc.2.1 hc.2.2 q
theorem op_shr:OpR X (binaryOp .RShift) (rI (fun _ j=>0≤j) fun i j=>.int (i / 2 ^ j.toNat)):=opI fun i j _ _ _ _ _ hc q =>
 rshift_int hc (by rw[Int.fdiv_eq_ediv_of_nonneg i (two_pow_nn _)];exact q)
end
section
variable {X : Cx} {a b c : Expr} {ta tb tc : TE} {pos : Pos}
theorem fin_bl {pins:List (Addr×Obj)} {σ:St} {H:Hp} {s:Shared} {Q:VK} {k k':Bool} (I:Inv X pins σ H s) (q:Q (.bl k) H) (e:k=k'):EP X pins σ Q (.bool k') s:=by
 subst e
 exact⟨.bl k,H,I,rfl,q⟩
theorem op_lt:OpR X (compareOp .Lt) (rI0 fun i j=>.bl (decide (i<j))):=opB0 fun _ _ _ _ _ _ _ q=>lt_int q
theorem op_le:OpR X (compareOp .LtE) (rI0 fun i j=>.bl (decide (i≤j))):=opB0 fun _ _ _ _ _ _ _ q=>le_int q
theorem op_gt:OpR X (compareOp .Gt) (rI0 fun i j=>.bl (decide (j<i))):=opB0 fun _ _ _ _ _ _ _ q=>gt_int q
theorem op_ge:OpR X (compareOp .GtE) (rI0 fun i j=>.bl (decide (j≤i))):=opB0 fun _ _ _ _ _ _ _ q=>ge_int q
theorem op_isN:OpR X (compareOp .Is) (fun x y H Q=>y=.non∧Q (.bl (decide (x=.non))) H):=by
 intro pins s σ H x y v u Q I rx ry h
 obtain⟨rfl,q⟩:=h
 cases ry
 refine is_none_gen (fin_bl I q ?_)
 cases x<;>first
  | (cases rx;rfl)
  | (obtain⟨t,rfl⟩:=rx;rfl)
theorem op_notN:OpR X (compareOp .IsNot) (fun x y H Q=>y=.non∧Q (.bl (!decide (x=.non))) H):=by
 intro pins s σ H x y v u Q I rx ry h
 obtain⟨rfl,q⟩:=h
 cases ry
 refine isnot_none_gen (fin_bl I q ?_)
 cases x<;>first
  | (cases rx;rfl)
  | (obtain⟨t,rfl⟩:=rx;rfl)
noncomputable def TruV (K:PySem.W.Frag) (x:V) (H:Hp) (k:Bool):Prop :=
 match x with
 | .non=>k=false
 | .bl b=>k=b
 | .int i=>k=(i != 0)
 | .str y=>y.length≤sizeLine∧k=((y.length:Int) != 0)
 | .byt y=>y.size≤sizeLine∧k=((y.size:Int) != 0)
 | .ref p=>(∃xs,SqL K H p xs∧k=!xs.isEmpty)∨(∃xs,SqT K H p xs∧k=!xs.isEmpty)∨∃kvs,H p=some (.dK kvs)∧k=!kvs.isEmpty
 | _=>False
theorem isEmpty_kv {κ:Type} {kvs:List (κ×V)} {vs:List (κ×Value)} (r:KV kvs vs):(!vs.isEmpty)=!kvs.isEmpty:=by
 cases r<;>rfl
theorem isEmpty_of {xs:List V} {its:List Value} (r:Vals xs its):(!its.toArray.isEmpty)=!xs.isEmpty:=by
 cases r<;>simp
theorem line63:(sizeLine:Nat)<2 ^ 63:=by rw[sizeLine_eq];decide
theorem tru_ok:TruR X (fun x H Q=>∃k,TruV X.K x H k∧Q k H):=by
 intro pins s σ H x v Q I rx h
 obtain⟨k,e,q⟩:=h
 have hl:=line63
 have hs:sizeLine=16777216:=sizeLine_eq
 cases x with
 | non =>
  cases rx
  have e':k=false:=e
  subst e'
  exact truthy_none ⟨H,I,q⟩
 | bl b =>
  cases rx
  have e':k=b:=e
  subst e'
  exact wpAny_truthy_bool ⟨H,I,q⟩
 | int i =>
  obtain⟨t,rfl⟩:=rx
  have e':k=(i != 0):=e
  subst e'
  exact PySem.P.truthy_int ⟨H,I,q⟩
 | str y =>
  obtain⟨t,rfl⟩:=rx
  obtain⟨hy,e'⟩:y.length≤sizeLine∧k=((y.length:Int) != 0):=e
  subst e'
  exact PySem.P.truthy_str (by lia) ⟨H,I.tok _,q⟩
 | byt y =>
  obtain⟨t,rfl⟩:=rx
  obtain⟨hy,e'⟩:y.size≤sizeLine∧k=((y.size:Int) != 0):=e
  subst e'
  exact PySem.W.truthy_bytes (by lia) ⟨H,I.tok _,q⟩
 | ref p =>
  cases rx
  have e':(∃xs,SqL X.K H p xs∧k=!xs.isEmpty)∨(∃xs,SqT X.K H p xs∧k=!xs.isEmpty)∨∃kvs,H p=some (.dK kvs)∧k=!kvs.isEmpty:=e
  rcases e' with⟨xs,hx,e'⟩ | ⟨xs,hx,e'⟩ | ⟨kvs,hx,e'⟩
  ·subst e'
   obtain⟨its,r,pl,hz⟩:=I.list hx
   have hlen:=r.length
   exact wpAny_truthy_list pl.isList (by simp only[List.size_toArray];lia) ⟨H,I.tok _,by rw[isEmpty_of r];exact q⟩
  ·subst e'
   obtain⟨its,r,pl,hz⟩:=I.tuple hx
   have hlen:=r.length
   exact truthy_tuple pl (by simp only[List.size_toArray];lia) ⟨H,I.tok _,by rw[isEmpty_of r];exact q⟩
  ·subst e'
   obtain⟨hz,hS,vs,r,m⟩:kvs.length≤sizeLine∧(p==sysModules)=false∧∃vs,KV kvs vs∧s.heap.DictOf (mixKind X.prog X.w) p vs:=I.hok p _ hx
   have hlen:kvs.length=vs.length:=Paired.length r
   exact wpAny_truthy_dict hS m (by lia) ⟨H,I.tok _,by rw[isEmpty_kv r];exact q⟩
 | _=>exact(show False from e).elim
theorem pt_truth (ha:PE X a ta) (he:∀whole,isTrue a X.env whole=(do let v ←whole;standAt a.pos;holding [v] (truthy v))) :
  PT X a (fun σ H Q=>ta σ H fun x H'=>∃k,TruV X.K x H' k∧Q k H'):=by
 intro pins s σ H Q I h
 exact isTrue_plain (thn (ha pins s σ H _ I h) fun v s1 ⟨x,H1,I1,r1,q1⟩=>tru_ok pins s1 σ H1 x v Q I1 r1 q1) (he _)
theorem vals1 {x:V} {us:List Value} (r:Vals [x] us):∃u,us=[u]∧RelV x u:=by
 cases r with
 | cons r1 r2=>cases r2;exact⟨_,rfl,r1⟩
theorem vals2 {x y:V} {us:List Value} (r:Vals [x,y] us):∃u w',us=[u,w']∧RelV x u∧RelV y w':=by
 cases r with
 | cons r1 r2 =>
  cases r2 with
  | cons r3 r4=>cases r4;exact⟨_,_,rfl,r1,r3⟩
theorem call_max2 (hc:X.calm=true):CallR X (.builtin "max") (fun xs H Q=>∃i j,xs=[.int i,.int j]∧Q (.int (if j > i then j else i)) H):=by
 intro pins s σ H xs us Q I r h
 obtain⟨i,j,rfl,q⟩:=h
 obtain⟨u,w',rfl,⟨t,rfl⟩,⟨t',rfl⟩⟩:=vals2 r
 refine max_two_ints (I.ok.hd hc) fun h' tk k=>⟨_,H,I.kept k,?_,q⟩
 by_cases hj:j > i
 ·rw[if_pos hj,if_pos hj];exact⟨_,rfl⟩
 ·rw[if_neg hj,if_neg hj];exact⟨_,rfl⟩
theorem call_min2 (hc:X.calm=true):CallR X (.builtin "min") (fun xs H Q=>∃i j,xs=[.int i,.int j]∧Q (.int (if j<i then j else i)) H):=by
 intro pins s σ H xs us Q I r h
 obtain⟨i,j,rfl,q⟩:=h
 obtain⟨u,w',rfl,⟨t,rfl⟩,⟨t',rfl⟩⟩:=vals2 r
 refine min_two_ints (I.ok.hd hc) fun h' tk k=>⟨_,H,I.kept k,?_,q⟩
 by_cases hj:j<i
 ·rw[if_pos hj,if_pos hj];exact⟨_,rfl⟩
 ·rw[if_neg hj,if_neg hj];exact⟨_,rfl⟩
end
end L2
namespace L2
open PySem PySem.Spec PyProof.Rows
structure Room (k:Nat) (A:Around):Prop where
 hd:A.handled=none
 dp:A.depth+3*k+5<recursionLimit
 un:A.units+16*k+200<cLine
theorem Room.deeper {k:Nat} {A:Around} (r:Room (k+1) A) (env:Env):Room k (A.deeper env) :=
 ⟨r.hd,by have:=r.dp;show A.depth+1+3*k+5<_;lia,by have:=r.un;show A.units+3+16*k+200<_;lia⟩
theorem Room.depth {k:Nat} {A:Around} (r:Room k A):A.depth<recursionLimit:=by have:=r.dp;lia
theorem Room.units {k:Nat} {A:Around} (r:Room k A):A.units+64<cLine:=by have:=r.un;lia
noncomputable def tNil:TA:=fun _ H Q=>Q [] H
noncomputable def tCons (ta:TE) (tr:TA):TA:=fun σ H Q=>ta σ H fun x H1=>tr σ H1 fun xs H2=>Q (x::xs) H2
section
variable {X : Cx} {e : Expr} {es : List Expr} {te : TE} {t : TA} {pos : Pos}
theorem pa_nil:PA X [] tNil:=fun _ _ _ _ H Q I h=>Calls.spliced_nil ⟨[],H,I,.nil,h⟩
theorem pa_cons (ha:PE X e te) (hr:PA X es t) (hs:starEach (e::es) X.env=(false,eval e X.env)::starEach es X.env:=by rfl):PA X (e::es) (tCons te t):=by
 intro pos pins s σ H Q I h
 rw[hs]
 show wpAny _ _ (spliced ((false,eval e X.env)::backTo pos (starEach es X.env))) _ _ s
 refine Calls.spliced_cons (thn (ha pins s σ H _ I h) fun u s1 ⟨x,H1,I1,r1,q1⟩=>?_)
 exact thn (hr pos pins s1 σ H1 _ I1 q1) fun us s2 ⟨xs,H2,I2,r2,q2⟩=>⟨x::xs,H2,I2,.cons r1 r2,q2⟩
noncomputable def tTup (t:TA):TE:=fun σ H Q=>t σ H fun xs H1=>xs.length≤sizeLine∧∀p,H1 p=none→Q (.ref p) (upd H1 p (.tup xs))
noncomputable def tLst (t:TA):TE:=fun σ H Q=>t σ H fun xs H1=>xs.length≤sizeLine∧∀p,H1 p=none→Q (.ref p) (upd H1 p (.lst xs))
theorem pe_tup {x1} (h:PA X es t):PE X (.Tuple es x1 pos) (tTup t):=by
 intro pins s σ H Q I hq
 refine wpAny_Tuple_spliced (thn (h pos pins s σ H _ I hq) fun us s1 ⟨xs,H1,I1,r,z,q⟩=>⟨by rw[←r.length];exact z,?_⟩)
 have hf:H1 s1.heap.objs.size=none:=I1.hok.fresh (Nat.le_refl _)
 refine⟨.ref s1.heap.objs.size,upd H1 s1.heap.objs.size (.tup xs),I1.laid (t':=s1.toks) (fun b u e=>Heap.get?_push_of_some _ e) (Nat.le_refl _) ?_,rfl,q _ hf⟩
 exact⟨z,us,r,⟨_,Heap.get?_push_size _ rfl,rfl,rfl,_,rfl⟩⟩
theorem pe_lst (h:PA X es t):PE X (.List es pos) (tLst t):=by
 intro pins s σ H Q I hq
 refine wpAny_List_spliced (thn (h pos pins s σ H _ I hq) fun us s1 ⟨xs,H1,I1,r,z,q⟩=>⟨by rw[←r.length];exact z,?_⟩)
 have hf:H1 s1.heap.objs.size=none:=I1.hok.fresh (Nat.le_refl _)
 refine⟨.ref s1.heap.objs.size,upd H1 s1.heap.objs.size (.lst xs),I1.laid (t':=s1.toks) (fun b u e=>Heap.get?_push_of_some _ e) (Nat.le_refl _) ?_,rfl,q _ hf⟩
 exact⟨z,us,0,r,Heap.get?_push_size _ rfl⟩
end
noncomputable abbrev Sp:=List V→Hp→VK→XK→Prop
noncomputable abbrev CXT:=List Env→Hp→Shared→XK→Value→Shared→Prop
structure Env0 (P:Program) (w:World) (K:PySem.W.Frag) (mg:Str→Option Value) (base:Heap) (A:Around) (outer:List Env) (s:Shared) (H:Hp):Prop where
 frames:A.frames=some outer
 mod:Mod K mg base
 bs:∀b o,base.get? b=some o→s.heap.get? b=some o∧H b=none
 bsz:base.objs.size≤s.heap.objs.size
 funs:s.heap.FunFrames base outer
 frf:∀b∈frs outer,H b=none
 hok:HOk P w H s.heap
 bare:AllBare s.gens
noncomputable def CE (outer:List Env) (P:Program) (w:World) (H:Hp) (s:Shared) (Q:VK) (u:Value) (s':Shared):Prop :=
 ∃v H',s'.os=s.os∧AllBare s'.gens∧Un (frs outer) [] H H' s.heap s'.heap∧HOk P w H' s'.heap∧RelV v u∧Q v H'
noncomputable def CR (CX:CXT) (outer:List Env) (P:Program) (w:World) (H:Hp) (s:Shared) (Q:VK) (E:XK) (r:Result) (s':Shared):Prop :=
 match r with
 | .ok (.ret u)=>CE outer P w H s Q u s'
 | .ok _=>False
 | .error e=>CX outer H s E e s'
structure FnOk (P:Program) (w:World) (K:PySem.W.Frag) (mg:Str→Option Value) (base:Heap) (CX:CXT) (k:Nat) (f:Addr) (fd:FuncData) (ps:List Str) (sp:Sp):Prop where
 len:∀vs H Q E,sp vs H Q E→vs.length=ps.length
 run:∀(A:Around) (outer:List Env) (s:Shared) (H:Hp) (args:Args) (us:List Value) (vs:List V) (Q:VK) (E:XK),Room k A→Env0 P w K mg base A outer s H→BindsTo s fd args (ps.zip us)→Vals vs us→sp vs H Q E →
  codeAny (model P w) A (.call (.ref f) args) (CR CX outer P w H s Q E) s
theorem FnOk.imp {P:Program} {w:World} {K:PySem.W.Frag} {mg:Str→Option Value} {base:Heap} {CX:CXT} {k:Nat} {f:Addr} {fd:FuncData} {ps:List Str} {sp sp':Sp} (F:FnOk P w K mg base CX k f fd ps sp)
  (h:∀vs H Q E,sp' vs H Q E→sp vs H Q E):FnOk P w K mg base CX k f fd ps sp' :=
 ⟨fun vs H Q E q=>F.len vs H Q E (h _ _ _ _ q),fun A outer s H args us vs Q E hr he hb hv hs=>F.run A outer s H args us vs Q E hr he hb hv (h _ _ _ _ hs)⟩
section
variable {X : Cx} {pins : List (Addr × Obj)} {σ : St} {H : Hp} {s s' : Shared}
theorem Inv.env0 (I:Inv X pins σ H s):Env0 X.prog X.w X.K X.mg X.base X.A X.stack s H :=
 ⟨I.ok.frames,I.ok.mod,I.bs,Nat.le_trans I.ok.bsz I.sz,I.stack,I.stkFree,I.hok,I.bare⟩
theorem Inv.after {Q:VK} {u:Value} (I:Inv X pins σ H s) (h:CE X.stack X.prog X.w H s Q u s'):EP X pins σ Q u s':=by
 obtain⟨v,H',os,bare,un,hok,r,q⟩:=h
 obtain⟨hh,g,d,t,os'⟩:=s'
 obtain rfl:os'=s.os:=os
 exact⟨v,H',I.call (h':=hh) (g':=g) (d':=d) (t':=t) (ch:=[]) un hok bare (fun b z=>absurd z (by simp)),r,q⟩
end
noncomputable def tCall (sp:Sp) (dvs:List V) (E:XK) (t:TA):TE:=fun σ H Q=>t σ H fun vs H1=>sp (vs++dvs) H1 Q E
noncomputable def Binds (K:PySem.W.Frag) (fd:FuncData) (ps:List Str) (ds:List Value):Prop :=
 ∀(s:Shared) (us:List Value),K.In s.heap→(us++ds).length=ps.length→BindsTo s fd ⟨us,[]⟩ (ps.zip (us++ds))
theorem Binds.all {K:PySem.W.Frag} {fd:FuncData} {ps:List Str} (h:∀us:List Value,us.length=ps.length→bindArgs fd ⟨us,[]⟩=pure (ps.zip us)):Binds K fd ps []:=fun s us _ hl=>by
 rw[List.append_nil]at hl ⊢
 exact .of_eq (h us hl)
noncomputable def Passes (CX:CXT) (X:Cx) (E:XK):Prop:=∀(pins:List (Addr×Obj)) (σ:St) (H:Hp) (s:Shared) (e:Value) (s':Shared),Inv X pins σ H s→CX X.stack H s E e s'→X.xe e s'
section
variable {X : Cx} {CX : CXT} {k : Nat} {f C : Addr} {fd : FuncData} {ps : List Str} {sp : Sp} {dvs : List V} {ds : List Value} {E : XK} {x m : Str} {p pos apos : Pos} {e o : Expr} {es : List Expr} {ta : TE} {t : TA}
theorem run_fn {pins:List (Addr×Obj)} {σ:St} {H:Hp} {s:Shared} {Q:VK} {us:List Value} {vs:List V} (F:FnOk X.prog X.w X.K X.mg X.base CX k f fd ps sp) (hr:Room k X.A) (hb:Binds X.K fd ps ds) (hd:Vals dvs ds) (hx:Passes CX X E)
  (I:Inv X pins σ H s) (r:Vals vs us) (h:sp (vs++dvs) H Q E):wpAny (model X.prog X.w) X.A (call (.ref f) us) (EP X pins σ Q) X.xe s:=by
 have r2:Vals (vs++dvs) (us++ds):=r.append hd
 have hl:(us++ds).length=ps.length:=by rw[←r2.length];exact F.len _ _ _ _ h
 refine wpAny_call (codeAny_mono (F.run X.A X.stack s H ⟨us,[]⟩ (us++ds) (vs++dvs) Q E hr I.env0 (hb s us I.kIn hl) r2 h) fun r s' hq=>?_)
 cases r with
 | error e=>exact hx pins σ H s e s' I hq
 | ok fl =>
  cases fl with
  | ret u=>exact I.after hq
  | next=>exact False.elim hq
  | brk=>exact False.elim hq
  | cont=>exact False.elim hq
theorem pe_call (F:FnOk X.prog X.w X.K X.mg X.base CX k f fd ps sp) (hr:Room k X.A) (hg:Gl X x) (hm:X.mg x=some (.ref f)) (hk:PySem.W.keepIn X.K (.ref f)=true) (hb:Binds X.K fd ps ds) (hd:Vals dvs ds) (hx:Passes CX X E)
  (ha:PA X (e::es) t) (hdb:(x==("__debug__":Str))=false:=by decide) (he:starEach (e::es) X.env=(false,eval e X.env)::starEach es X.env:=by rfl) (hpl:(backTo pos (starEach es X.env)).any (·.1)=false:=by rfl) :
  PE X (.Call (.Name x p) (e::es) [] pos) (tCall sp dvs E t):=by
 intro pins s σ H Q I h
 refine wpAny_Call_Name_kw (ld_glob I hg hm ?_ hdb)
 refine PySem.W.callWith_K (h₀:=X.base) I.ok.mod.kin hk (thn (ha pos pins s σ H _ I h) fun us s1 ⟨vs,H1,I1,r,q⟩=>⟨I1.kIn,?_⟩) he hpl
 exact run_fn F hr hb hd hx I1 r q
structure Mk (K:PySem.W.Frag) (C f:Addr):Prop where
 makes:PySem.W.makesIn K C=true
 init:PySem.W.findIn K (.ref C) "__init__"=some (some (.ref f))
 fn:PySem.W.isFn K (.ref f)=true
 kp:PySem.W.keepIn K (.ref C)=true
end
structure FnScope (N P:List Str) (sc:Scope):Prop where
 kind:sc.kind=.function
 co:sc.isCoroutine=false
 gen:sc.isGenerator=false
 nd:N.Nodup
 pre:N.take P.length=P
 par:∀x∈P,sc.names.lookup x=some .local∨sc.names.lookup x=some .cell
 nofree:∀y∈sc.names,y.2≠.free
theorem bindL_out {kindOf:Str→Option NameKind} {x:Str}:∀{binds:List (Str×Value)} {m:Str→Option Value},(∀v,(x,v)∉binds)→bindL kindOf binds m x=m x
 | [],_,_=>rfl
 | (n,v)::r,m,h=>by
  unfold bindL
  rw[bindL_out fun w hw=>h w (List.mem_cons_of_mem _ hw)]
  split
  ·have:x≠n:=by rintro rfl;exact h v List.mem_cons_self
   simp[this]
  ·rfl
theorem bindC_out {kindOf:Str→Option NameKind} {x:Str}:∀{binds:List (Str×Value)} {m:Str→Option Value},(∀v,(x,v)∉binds)→bindC kindOf binds m x=m x
 | [],_,_=>rfl
 | (n,v)::r,m,h=>by
  unfold bindC
  rw[bindC_out fun w hw=>h w (List.mem_cons_of_mem _ hw)]
  split
  ·rfl
  ·have:x≠n:=by rintro rfl;exact h v List.mem_cons_self
   simp[this]
theorem bindL_get {kindOf:Str→Option NameKind} {x:Str} {v:Value}:∀{P:List Str} {vs:List Value} {i:Nat} {m:Str→Option Value},P.Nodup→P[i]? = some x→vs[i]? = some v→kindOf x=some .local →
  bindL kindOf (P.zip vs) m x=some v
 | [],_,_,_,_,h,_,_=>by simp at h
 | _::_,[],_,_,_,_,h,_=>by simp at h
 | p::P,w::vs,0,m,nd,h1,h2,hk=>by
  simp at h1 h2;subst h1;subst h2
  show bindL kindOf ((p,w)::P.zip vs) m p=_
  unfold bindL
  rw[bindL_out fun v hv=>(List.nodup_cons.mp nd).1 (List.of_mem_zip hv).1,if_pos hk]
  simp
 | p::P,w::vs,i+1,m,nd,h1,h2,hk=>by
  show bindL kindOf ((p,w)::P.zip vs) m x=_
  unfold bindL
  exact bindL_get (i:=i) (List.nodup_cons.mp nd).2 (by simpa using h1) (by simpa using h2) hk
theorem bindC_get {kindOf:Str→Option NameKind} {x:Str} {v:Value}:∀{P:List Str} {vs:List Value} {i:Nat} {m:Str→Option Value},P.Nodup→P[i]? = some x→vs[i]? = some v→kindOf x≠some .local →
  bindC kindOf (P.zip vs) m x=some v
 | [],_,_,_,_,h,_,_=>by simp at h
 | _::_,[],_,_,_,_,h,_=>by simp at h
 | p::P,w::vs,0,m,nd,h1,h2,hk=>by
  simp at h1 h2;subst h1;subst h2
  show bindC kindOf ((p,w)::P.zip vs) m p=_
  unfold bindC
  rw[bindC_out fun v hv=>(List.nodup_cons.mp nd).1 (List.of_mem_zip hv).1,if_neg hk]
  simp
 | p::P,w::vs,i+1,m,nd,h1,h2,hk=>by
  show bindC kindOf ((p,w)::P.zip vs) m x=_
  unfold bindC
  exact bindC_get (i:=i) (List.nodup_cons.mp nd).2 (by simpa using h1) (by simpa using h2) hk
noncomputable def start (N:List Str) (vs:List V):St:=vs.map some++List.replicate (N.length-vs.length) none
noncomputable def cxOf (CX:CXT) (P:Program) (w:World) (K:PySem.W.Frag) (mg:Str→Option Value) (base:Heap) (N:List Str) (qual:Str) (scope:Scope) (f:Addr) (cd:Value) (A:Around) (outer:List Env) (s:Shared) (H:Hp) (E:XK):Cx where
 prog:=P
 w:=w
 K:=K
 mg:=mg
 base:=base
 A:=A.deeper (envOfC qual scope s.heap.objs.size f cd)
 N:=N
 s₀:=s
 H₀:=H
 env:=envOfC qual scope s.heap.objs.size f cd
 outer:=outer
 stack:=envOfC qual scope s.heap.objs.size f cd::outer
 ex:=[]
 calm:=true
 fn:=fun _=>true
 pn:=[]
 xe:=fun e s'=>wpAny (model P w) (A.deeper (envOfC qual scope s.heap.objs.size f cd)) (leaving (envOfC qual scope s.heap.objs.size f cd) e) (fun _ s''=>CX outer H s E e s'') (fun e' s''=>CX outer H s E e' s'') s'
theorem cell_has {sc:Scope} {n:Nat} {x:Str} (h:sc.names.lookup x=some .cell):∃c,(cellsFrom n sc.names []).lookup x=some c:=by
 have q:=PySem.W.cellsFrom_some sc.names n [] (.inl h)
 exact Option.isSome_iff_exists.mp q
theorem inv_start {CX:CXT} {P:Program} {w:World} {K:PySem.W.Frag} {mg:Str→Option Value} {base:Heap} {N ps:List Str} {qual:Str} {scope:Scope} {f:Addr} {cd:Value} {A:Around} {outer:List Env} {s s1:Shared} {H:Hp} {E:XK} {us:List Value} {vs:List V}
  (S:FnScope N ps scope) (hd:A.handled=none) (e0:Env0 P w K mg base A outer s H) (hl:vs.length=ps.length) (r:Vals vs us)
  (x:InCallC s s.heap.objs.size (bindL (envOfC qual scope s.heap.objs.size f cd).kindOf (ps.zip us) fun _=>none) (cellsFrom (s.heap.objs.size+1) scope.names []) (bindC (envOfC qual scope s.heap.objs.size f cd).kindOf (ps.zip us) fun _=>none) s1) :
  Inv (cxOf CX P w K mg base N qual scope f cd A outer s H E) [] (start N vs) H s1:=by
 have hpl:ps.length≤N.length:=by have:=congrArg List.length S.pre;rw[List.length_take]at this;lia
 obtain⟨h1,tk,rfl,hk⟩:=x.done
 have noA:∀b:Addr,b∉(cxOf CX P w K mg base N qual scope f cd A outer s H E).ex:=fun b z=>absurd (show b∈([]:List Addr)from z) (by simp)
 refine⟨⟨e0.mod,S.kind,rfl,rfl,Nat.le_refl _,fun y z c h1 h2=>?_,fun y hy=>?_,fun y c _ h=>?_,fun _=>hd,Around.frames_deeper e0.frames,.inr ⟨rfl,rfl⟩,fun b z=>absurd z (noA b),e0.bs,e0.bsz,fun b _ _=>noA b,fun b z=>absurd z (noA b),e0.funs,e0.frf⟩,
  rfl,e0.bare,Un.kept hk,⟨_,x.toInCall.ns,fun i y v h1 h2 h3=>?_⟩,fun y c h=>⟨_,x.cell y c h⟩,e0.hok.fresh (Nat.le_refl _),fun y c h=>?_,fun p hp=>absurd (show p∈([]:List (Addr×Obj))from hp) (by simp),e0.hok.kept hk,?_⟩
 ·exact name_of_addr x.apart (PySem.mem_of_lookup h1) (PySem.mem_of_lookup h2)
 ·have hy:scope.names.lookup y=some .cell∨scope.names.lookup y=some .free:=hy
  rcases hy with hy | hy
  ·exact cell_has hy
  ·exact absurd rfl (S.nofree _ (PySem.mem_of_lookup hy))
 ·exact Nat.le_of_lt (x.above y c (PySem.mem_of_lookup h))
 ·have hi:i<vs.length:=by
   unfold start at h2
   by_cases hi:i<vs.length
   ·exact hi
   ·rw[List.getElem?_append_right (by simpa using hi)]at h2
    rw[List.getElem?_replicate]at h2
    split at h2<;>cases h2
  have ha:vs[i]? = some v:=by
   unfold start at h2
   rw[List.getElem?_append_left (by simpa using hi),List.getElem?_map]at h2
   cases e:vs[i]? with
   | none=>rw[e]at h2;cases h2
   | some a=>rw[e]at h2;cases h2;rfl
  obtain⟨u,hu,rv⟩:=r.get ha
  have hp:ps[i]? = some y:=by
   rw[←S.pre,List.getElem?_take_of_lt (by lia)];exact h1
  have ndP:ps.Nodup:=by rw[←S.pre];exact S.nd.sublist (List.take_sublist _ _)
  refine⟨u,rv,?_⟩
  rcases S.par y (List.mem_of_getElem? hp)with k | k
  ·exact .inl ⟨k,bindL_get ndP hp hu k⟩
  ·obtain⟨c,e⟩:=cell_has (n:=s.heap.objs.size+1) k
   refine .inr ⟨.inl k,c,e,?_⟩
   have q:=x.cell y c e
   rw[bindC_get ndP hp hu (by show scope.names.lookup y≠_;rw[k];decide)]at q
   exact q
 ·exact e0.hok.fresh (Nat.le_of_lt (x.above y c (PySem.mem_of_lookup h)))
 ·unfold start
  show _=N.length
  rw[List.length_append,List.length_map,List.length_replicate]
  lia
theorem fn_of {CX:CXT} {P:Program} {w:World} {K:PySem.W.Frag} {mg:Str→Option Value} {base:Heap} {k:Nat} {f:Addr} {name qual:Str} {params:Arguments} {body:List Stmt} {scope:Scope} {dV kV doc pm cdv ct oc:Value} {an od:Option Addr}
  {osl:Array (Option Value)} {N ps:List Str} {sp:Sp} (lk:K.lookup f=some ⟨oc,od,.func (PySem.W.fnOf name qual params body scope dV kV doc pm an cdv ct),osl⟩) (hcd:PySem.W.codeIn K cdv qual=true) (S:FnScope N ps scope)
  (len:∀vs H Q E,sp vs H Q E→vs.length=ps.length)
  (hbody:∀(A:Around) (outer:List Env) (s:Shared) (H:Hp) (vs:List V) (Q:VK) (E:XK),Room k (A.deeper (envOfC qual scope s.heap.objs.size f cdv))→sp vs H Q E →
   ∃t,PSs (cxOf CX P w K mg base N qual scope f cdv A outer s H E) body t∧t {nx:=fun _ H'=>Q .non H',rt:=Q} (start N vs) H) :
  FnOk P w K mg base CX (k+1) f (PySem.W.fnOf name qual params body scope dV kV doc pm an cdv ct) ps sp:=by
 refine⟨len,fun A outer s H args us vs Q E hr e0 hb r hsp=>?_⟩
 have hl:=len _ _ _ _ hsp
 have KX:K.In s.heap:=e0.mod.kin.keeps fun b o e=>(e0.bs b o e).1
 have lim:s.heap.NoLimit:=e0.mod.nolimit.keeps fun b o e=>(e0.bs b o e).1
 have hkind:∀y∈ps.zip us,scope.names.lookup y.1=some .local∨(scope.names.lookup y.1=some .cell∧((cellsFrom (s.heap.objs.size+1) scope.names []).lookup y.1).isSome=true):=fun⟨n,v⟩ hy=>by
  rcases S.par n (List.of_mem_zip hy).1 with q | q
  ·exact .inl q
  ·exact .inr ⟨q,PySem.W.cellsFrom_some _ _ _ (.inl q)⟩
 refine codeAny_call_function hr.depth (KX _ _ lk) rfl S.co S.gen rfl (PySem.W.codeRec_of KX hcd) (hb _ _ _ _ ?_)
 refine wpAny_newFunctionEnv_cells S.kind hkind fun env he s1 x=>?_
 subst he
 refine⟨lim.keeps x.toInCall.keep,codeAny_func ?_⟩
 obtain⟨t,ht,hq⟩:=hbody A outer s H vs Q E (hr.deeper _) hsp
 have I:Inv (cxOf CX P w K mg base N qual scope f cdv A outer s H E) [] (start N vs) H s1:=inv_start S hr.hd e0 hl r x
 refine wpAny_mono (ht [] s1 (start N vs) H _ I hq) (fun fl s' hs=>?_) fun e s' hs=>hs
 have fin:∀{σ':St} {H':Hp} {v:V} {u:Value},Inv (cxOf CX P w K mg base N qual scope f cdv A outer s H E) [] σ' H' s'→RelV v u→Q v H'→CE outer P w H s Q u s' :=
  fun {σ' H' v u} J rv q=>⟨v,H',J.os,J.bare,J.base,J.hok,rv,q⟩
 cases fl with
 | ret u =>
  obtain⟨v,σ',H',J,rv,q⟩:=hs
  exact fin J rv q
 | next =>
  obtain⟨σ',H',J,q⟩:=hs
  exact fin (v:=V.non) (u:=Value.none) J rfl q
 | brk =>
  obtain⟨_,_,_,q⟩:=hs
  exact False.elim q
 | cont =>
  obtain⟨_,_,_,q⟩:=hs
  exact False.elim q
end L2
namespace L2
open PySem PySem.Spec PyProof.Rows
section
variable {X : Cx} {x : Str} {p pos : Pos} {e : Expr} {es : List Expr} {t : TA} {id T : String} {r : List V → Hp → VK → Prop}
noncomputable def tCB (r:List V→Hp→VK→Prop) (t:TA):TE:=fun σ H Q=>t σ H fun vs H1=>r vs H1 Q
theorem pe_callB (hc:CallR X (.builtin id) r) (hg:Gl X x) (hm:X.mg x=none) (hv:bootBuiltins x=some (.builtin id)) (ha:PA X (e::es) t) (hn:x≠"__name__":=by decide) (hdb:(x==("__debug__":Str))=false:=by decide)
  (he:starEach (e::es) X.env=(false,eval e X.env)::starEach es X.env:=by rfl) (hpl:(backTo pos (starEach es X.env)).any (·.1)=false:=by rfl):PE X (.Call (.Name x p) (e::es) [] pos) (tCB r t):=by
 intro pins s σ H Q I h
 refine wpAny_Call_Name_kw (ld_blt I hg hm hv ?_ hn hdb)
 exact PyProof.Rows.callWith_builtin1 (thn (ha pos pins s σ H _ I h) fun us s1 ⟨vs,H1,I1,r1,q1⟩=>hc pins s1 σ H1 vs us Q I1 r1 q1) he hpl
theorem pe_callTy (hc:CallR X (.type T) r) (hg:Gl X x) (hm:X.mg x=none) (hv:bootBuiltins x=some (.type T)) (ha:PA X (e::es) t) (hn:x≠"__name__":=by decide) (hdb:(x==("__debug__":Str))=false:=by decide)
  (he:starEach (e::es) X.env=(false,eval e X.env)::starEach es X.env:=by rfl) (hpl:(backTo pos (starEach es X.env)).any (·.1)=false:=by rfl):PE X (.Call (.Name x p) (e::es) [] pos) (tCB r t):=by
 intro pins s σ H Q I h
 refine wpAny_Call_Name_kw (ld_blt I hg hm hv ?_ hn hdb)
 exact PyProof.Rows.callWith_type1 (thn (ha pos pins s σ H _ I h) fun us s1 ⟨vs,H1,I1,r1,q1⟩=>hc pins s1 σ H1 vs us Q I1 r1 q1) he hpl
end
end L2
namespace HT
open PySem PyProof.Rows
noncomputable def lexLt:List Int→List Int→Bool
 | [],[]=>false
 | [],_::_=>true
 | _::_,[]=>false
 | x::xs,y::ys=>if x=y then lexLt xs ys else decide (x<y)
theorem lexLt_cons (x y:Int) (xs ys:List Int):lexLt (x::xs) (y::ys)=if x=y then lexLt xs ys else decide (x<y):=rfl
theorem lexLt_nil_nil:lexLt [] []=false:=rfl
theorem lexLt_nil_cons (y:Int) (ys:List Int):lexLt [] (y::ys)=true:=rfl
theorem lexLt_cons_nil (x:Int) (xs:List Int):lexLt (x::xs) []=false:=rfl
theorem eqAt_int (A:Around) (s:Shared) (a:Int) (t:Tok) (c:Int) (u:Tok):∃e,SeqAt.EqAt A s (.int a t) (.int c u) e∧(e=true↔a=c) :=
 ⟨(a==c),SeqAt.EqAt.int_int a t c u,by simp⟩
theorem rcLt_int (A:Around) (s:Shared) (a:Int) (t:Tok) (c:Int) (u:Tok) (prog:Program) (w:World) (E:Value→Shared→Prop) (Q:Value→Shared→Prop) (h:Q (.bool (decide (a<c))) s) :
  wpAny (model prog w) A (richCompare .Lt (.int a t) (.int c u)) Q E s :=
 (PyProof.Rows.lt_int h:wpAny (model prog w) A (compareOp .Lt (.int a t) (.int c u)) Q E s)
section
open PySem.SeqAt
open PySem.AutoSeq1 (wpAny_loadPart')
open PySem.MeetsSeq PySem.MeetsSeq2 PySem.MeetsSeq3
theorem tuple_lt_ints (l b:Addr) (items items2:Array Value) (n n2:Nat) (dd dd2:Option Addr) (sl sl2:Array (Option Value)) (ns ms:List Int) (hi:IntsAre items.toList ns) (hj:IntsAre items2.toList ms) :
  Meets (Builtin.«tuple.__lt__» ⟨[.ref l,.ref b],[]⟩)
   (fun _ R s=>s.heap.get? l=some {cls:=.type "tuple",dict:=dd,data:=.seq items n,slots:=sl}∧s.heap.get? b=some {cls:=.type "tuple",dict:=dd2,data:=.seq items2 n2,slots:=sl2} ∧
    R (.ok (.ret (.bool (lexLt ns ms)))) s) :=
 .of_wp fun prog w A R s h=>by
  obtain⟨hp,g,d,tk,os⟩:=s;obtain⟨hl,hb,h⟩:=h
  have f2:=AutoSeq1.sub_tuple_tuple
  have z1:items.size=ns.length:=by rw[←hi.length];simp
  have z2:items2.size=ms.length:=by rw[←hj.length];simp
  wp_walk using wpAny_loadPart' hl,wpAny_loadPart' hb,wpAny_forIn_list _ (fun rest b s'=>b.1=none∧s'=⟨hp,g,d,tk,os⟩∧∃(vs ws:List Value) (ns' ms':List Int),rest=vs.zip ws ∧
   IntsAre vs ns'∧IntsAre ws ms'∧ns'.length+items2.size=ms'.length+items.size∧R (.ok (.ret (.bool (lexLt ns' ms')))) ⟨hp,g,d,tk,os⟩) _
  case turn =>
   rintro⟨y,x⟩ rest b s' ⟨hb',rfl,vs,ws,ns',ms',hz,hvi,hwi,hlen,hR⟩
   cases hvi with
   | nil=>rw[List.zip_nil_left]at hz;cases hz
   | cons a t hvi' =>
    cases hwi with
    | nil=>rw[List.zip_nil_right]at hz;cases hz
    | cons c u hwi' =>
     rw[List.zip_cons_cons]at hz
     injection hz with hyx hrest
     injection hyx with hy hx
     subst hy hx
     rw[lexLt_cons]at hR
     simp only[List.length_cons]at hlen
     obtain⟨e,he,hiff⟩:=eqAt_int A.in1 ⟨hp,g,d,tk,os⟩ a t c u
     refine wpAny_bind (he prog w _ _ ?_)
     cases e with
     | true =>
      rw[if_pos (hiff.mp rfl)]at hR
      wp_walk
      exact⟨rfl,rfl,_,_,_,_,hrest,hvi',hwi',by lia,hR⟩
     | false =>
      rw[if_neg (fun q=>absurd (hiff.mpr q) Bool.false_ne_true)]at hR
      have hri:=rcLt_int A.in1 ⟨hp,g,d,tk,os⟩ a t c u prog w
      wp_walk using hri
      exact⟨_,rfl,by simpa using hR⟩
  case fin =>
   rintro⟨b1,b2⟩ s' ⟨hb',rfl,vs,ws,ns',ms',hz,hvi,hwi,hlen,hR⟩
   simp only at hb'
   subst hb'
   have hv:lexLt ns' ms'=decide (items.size<items2.size):=by
    cases hvi with
    | nil =>
     cases hwi with
     | nil =>
      simp only[List.length_nil]at hlen
      rw[lexLt_nil_nil]
      exact(decide_eq_false (by lia)).symm
     | cons c u hw =>
      simp only[List.length_nil,List.length_cons]at hlen
      rw[lexLt_nil_cons]
      exact(decide_eq_true (by lia)).symm
    | cons a t hv =>
     cases hwi with
     | nil =>
      simp only[List.length_nil,List.length_cons]at hlen
      rw[lexLt_cons_nil]
      exact(decide_eq_false (by lia)).symm
     | cons c u hw =>
      rw[List.zip_cons_cons]at hz
      cases hz
   rw[hv]at hR
   wp_walk
   exact⟨_,rfl,by simpa[Builtin.Tuple.tupleCompareSizes]using hR⟩
  case h =>
   exact⟨rfl,rfl,items.toList,items2.toList,ns,ms,rfl,hi,hj,by lia,h⟩
end
section
variable {prog : Program} {w : World} {A : Around} {E : Value → Shared → Prop} {s : Shared}
theorem lt_tupInts {l b:Addr} {items items2:Array Value} {ns ms:List Int} {Q:Value→Shared→Prop} (hl:IsTup s.heap l items) (hb:IsTup s.heap b items2) (hi:IntsAre items.toList ns) (hj:IntsAre items2.toList ms)
  (hu:A.units<cLine) (h:Q (.bool (lexLt ns ms)) s):wpAny (model prog w) A (compareOp .Lt (.ref l) (.ref b)) Q E s:=by
 obtain⟨⟨cls,dd,data,sl⟩,ho,hc,n,hd⟩:=id hl
 obtain⟨⟨cls2,dd2,data2,sl2⟩,ho2,hc2,n2,hd2⟩:=id hb
 simp only at hc hd hc2 hd2
 subst hc hd hc2 hd2
 exact richCompare_meets_room (op:=.Lt) ⟨_,ho,rfl⟩ ⟨_,ho2,rfl⟩ PySem.F.slot_tuple_lt PySem.F.entry_tuple_lt (PySem.F.args_tuple_lt_2 _ _) (tuple_lt_ints l b items items2 n n2 dd dd2 sl sl2 ns ms hi hj)
  ⟨ho,ho2,show Value.bool (lexLt ns ms)≠Value.notImplemented∧Q (.bool (lexLt ns ms)) s from⟨(fun x=>nomatch x),h⟩⟩ hu
theorem cat_tup {t b:Addr} {vs ws:List Value} {Q:Value→Shared→Prop} (ht:IsTup s.heap t vs.toArray) (hb:IsTup s.heap b ws.toArray) (hv:vs≠[])
  (h1:ws=[]→Q (.ref t) s) (h2:ws≠[]→Q (.ref s.heap.objs.size) {s with heap:=s.heap.push {cls:=.type "tuple",data:=.seq (vs++ws).toArray}})
  (hsz:vs.length+ws.length≤sizeLine):wpAny (model prog w) A (binaryOp .Add (.ref t) (.ref b)) Q E s:=by
 obtain⟨⟨cls,dd,data,sl⟩,ho,hc,n,hd⟩:=id ht
 obtain⟨⟨cls2,dd2,data2,sl2⟩,ho2,hc2,n2,hd2⟩:=id hb
 simp only at hc hd hc2 hd2
 subst hc hd hc2 hd2
 have e:vs.toArray++ws.toArray=(vs++ws).toArray:=by simp
 by_cases hw:ws=[]
 ·exact concat_meets ⟨_,ho,rfl⟩ ⟨_,ho2,rfl⟩ noFill_tuple_add seq_tuple_add PySem.F.slot_tuple_add PySem.F.entry_tuple_add (PySem.F.args_tuple_add_2 _ _)
   (tuple_addW1 t b vs.toArray ws.toArray n n2 dd dd2 sl sl2 (by simpa using hv) (by simp[hw])) ⟨ho,ho2,h1 hw⟩
 ·refine concat_meets ⟨_,ho,rfl⟩ ⟨_,ho2,rfl⟩ noFill_tuple_add seq_tuple_add PySem.F.slot_tuple_add PySem.F.entry_tuple_add (PySem.F.args_tuple_add_2 _ _)
   (tuple_addW2 t b vs.toArray ws.toArray n n2 dd dd2 sl sl2 (by simpa using hv) (by simpa using hw) (by rw[List.size_toArray,List.size_toArray];exact hsz)) ⟨ho,ho2,?_⟩
  rw[e]
  exact h2 hw
noncomputable def sIx (n d:Nat):Option Int→Nat
 | none=>d
 | some v=>if v<0 then(v+(n:Int)).toNat else min v.toNat n
theorem sIx_le (n d:Nat) (hd:d≤n) (o:Option Int):sIx n d o≤n:=by
 cases o with
 | none=>exact hd
 | some v =>
  show(if v<0 then(v+(n:Int)).toNat else min v.toNat n)≤n
  by_cases hv:v<0
  ·rw[if_pos hv];lia
  ·rw[if_neg hv];exact Nat.min_le_right _ _
theorem clip_eq (v:Int) (n d:Nat):(if v<0 then max (v+(n:Int)) 0 else min v (n:Int))=((sIx n d (some v):Nat):Int):=by
 show(if v<0 then max (v+(n:Int)) 0 else min v (n:Int))=(((if v<0 then(v+(n:Int)).toNat else min v.toNat n):Nat):Int)
 by_cases hv:v<0
 ·simp only[if_pos hv];lia
 ·simp only[if_neg hv];lia
theorem adjust_gen (lo hi:Option Int) (n:Nat):Builtin.Slice.sliceAdjust lo hi 1 (n:Int)=(((sIx n 0 lo:Nat):Int),((sIx n n hi:Nat):Int)):=by
 have h1:¬((1:Int)<0):=by lia
 unfold Builtin.Slice.sliceAdjust
 simp only[h1,if_false]
 refine Prod.ext ?_ ?_
 ·cases lo with
  | none=>rfl
  | some v=>exact clip_eq v n 0
 ·cases hi with
  | none=>rfl
  | some v=>exact clip_eq v n n
theorem places_gen (i j:Nat):Builtin.Slice.slicePlaces (i:Int) (j:Int) 1=j-i:=by
 unfold Builtin.Slice.slicePlaces
 have h1:(1:Int) > 0:=by lia
 simp only[h1,if_true,Int.ediv_one]
 split<;>lia
theorem slicePart_ {v:Value} {o:Option Int} {Q:Option Int→Shared→Prop} (p:IsPart v o) (h:Q o s):wpAny (model prog w) A (Builtin.Slice.slicePartIndex v) Q E s:=by
 cases p with
 | none=>exact slicePart_none h
 | int i t=>exact slicePart_int h
theorem sliceApplied_gen {sl:Addr} {vl vu:Value} {lo hi:Option Int} {n:Nat} {Q:Int×Int×Nat→Shared→Prop} (hs:s.heap.IsSliceOf sl vl vu .none) (pl:IsPart vl lo) (pu:IsPart vu hi)
  (h:Q (((sIx n 0 lo:Nat):Int),1,sIx n n hi-sIx n 0 lo) s):wpAny (model prog w) A (Builtin.Slice.sliceApplied (.ref sl) (pure (n:Int))) Q E s:=by
 obtain⟨os,hos,hcs,hds⟩:=id hs
 unfold Builtin.Slice.sliceApplied Builtin.Slice.sliceFields
 refine wpAny_bind (wpAny_bind (wpAny_field hos hds (x:=vl) rfl (wpAny_bind (wpAny_field hos hds (x:=vu) rfl (wpAny_bind (wpAny_field hos hds (x:=.none) rfl (wpAny_pure ?_)))))))
 refine wpAny_bind (slicePart_none ?_)
 show wpAny _ _ (if((1:Int)==0)=true then _ else _) _ _ s
 rw[if_neg (by decide)]
 refine wpAny_bind (slicePart_ pl (wpAny_bind (slicePart_ pu (wpAny_bind (wpAny_pure ?_)))))
 show wpAny _ _ (match Builtin.Slice.sliceAdjust lo hi 1 (n:Int)with | (lo,hi)=>pure (lo,(1:Int),Builtin.Slice.slicePlaces lo hi 1)) _ _ s
 rw[adjust_gen lo hi n]
 show wpAny _ _ (pure (((sIx n 0 lo:Nat):Int),(1:Int),Builtin.Slice.slicePlaces ((sIx n 0 lo:Nat):Int) ((sIx n n hi:Nat):Int) 1)) _ _ s
 rw[places_gen]
 exact wpAny_pure h
theorem pick_gen (xs:Array Value) (i k:Nat):((List.range k).filterMap fun(m:Nat)=>xs[((i:Int)+(m:Int)*1).toNat]?).toArray=((xs.toList.drop i).take k).toArray:=by
 have e:(fun(m:Nat)=>xs[((i:Int)+(m:Int)*1).toNat]?)=fun m=>xs[i+m]?:=by
  funext m
  have:((i:Int)+(m:Int)*1).toNat=i+m:=by lia
  rw[this]
 rw[e]
 have:=pick_run xs i k
 rw[List.filterMap_map]at this
 have e2:((fun x=>xs[x]?)∘fun x=>i+x)=fun m=>xs[i+m]?:=rfl
 rw[e2]at this
 rw[this]
theorem getItem_tuple_cut {t sl:Addr} {items:Array Value} {vl vu:Value} {lo hi:Option Int} {Q:Value→Shared→Prop} (ht:IsTup s.heap t items) (hs:s.heap.IsSliceOf sl vl vu .none) (pl:IsPart vl lo) (pu:IsPart vu hi)
  (hw:¬(sIx items.size 0 lo=0∧sIx items.size items.size hi=items.size))
  (h:Q (.ref s.heap.objs.size) {s with heap:=s.heap.push {cls:=.type "tuple",data:=.seq ((items.toList.drop (sIx items.size 0 lo)).take (sIx items.size items.size hi-sIx items.size 0 lo)).toArray}})
  (hsz:items.size≤sizeLine):wpAny (model prog w) A (getItem (.ref t) (.ref sl)) Q E s:=by
 have htake:sizeOk (.seq ((items.toList.drop (sIx items.size 0 lo)).take (sIx items.size items.size hi-sIx items.size 0 lo)).toArray):=by
  show((items.toList.drop (sIx items.size 0 lo)).take (sIx items.size items.size hi-sIx items.size 0 lo)).toArray.size≤sizeLine
  rw[List.size_toArray,List.length_take,List.length_drop,Array.length_toList]
  lia
 have hj:sIx items.size items.size hi≤items.size:=sIx_le _ _ (Nat.le_refl _) hi
 obtain⟨os,hos,hcs,hds⟩:=id hs
 have hTs:s.TypeIs (.ref sl) "slice":=⟨os,hos,hcs⟩
 unfold getItem
 try with_reducible refine wpAny_holding ?_
 first | refine wpAny_bind (wpAny_pure ?_) | skip
 refine wpAny_bind (wpAny_sequenceKey ht.typeIs (by decide) ?_)
 refine wpAny_bind (wpAny_callSpecial?_slot (name:=Str.ofString "__getitem__") ht.typeIs PyProof.Rows.slot_tuple_getitem
  (wpAny_call_entry PyProof.Rows.slot_tuple_getitem ht.typeIs entry_tuple_getitem ?_ (args_tuple_getitem _ _)))
 show wpAny _ _ (Builtin.Tuple.tupleItemsOf (.ref t)>>=_) _ _ s
 refine wpAny_bind (tupleItemsOf_ ht ?_)
 refine wpAny_bind (wpAny_typeOf hTs ?_)
 rw[if_pos (by decide)]
 refine wpAny_bind (sliceApplied_gen hs pl pu ?_)
 have hno:¬((((sIx items.size 0 lo:Nat):Int)==0&&(1:Int)==1&&(sIx items.size items.size hi-sIx items.size 0 lo)==items.size)=true):=by
  intro q
  rw[Bool.and_eq_true,Bool.and_eq_true]at q
  have q1:((sIx items.size 0 lo:Nat):Int)=0:=eq_of_beq q.1.1
  have q2:sIx items.size items.size hi-sIx items.size 0 lo=items.size:=eq_of_beq q.2
  exact hw ⟨by lia,by lia⟩
 show wpAny _ _ (if(((sIx items.size 0 lo:Nat):Int)==0&&(1:Int)==1&&(sIx items.size items.size hi-sIx items.size 0 lo)==items.size)=true then _ else _) _ _ s
 rw[if_neg hno,pick_gen]
 first
  | exact wpAny_bind (m:=Builtin.Tuple.tupleExact _) (wpAny_newObj_type (wpAny_pure ⟨_,rfl,wpAny_pure h⟩) htake)
  | exact wpAny_bind (m:=Builtin.Tuple.tupleExact _) (wpAny_newObj_type (wpAny_bind (wpAny_pure (wpAny_pure ⟨_,rfl,wpAny_pure h⟩))) htake)
  | exact wpAny_bind (wpAny_bind (m:=Builtin.Tuple.tupleExact _) (wpAny_newObj_type (wpAny_pure (wpAny_pure ⟨_,rfl,wpAny_pure h⟩)) htake))
  | exact wpAny_bind (wpAny_bind (m:=Builtin.Tuple.tupleExact _) (wpAny_newObj_type (wpAny_pure ⟨_,rfl,wpAny_pure h⟩) htake))
end
end HT
namespace L2
open PySem PySem.Spec PyProof.Rows
noncomputable abbrev TO:=St→Hp→(Option Int→Hp→Prop)→Prop
noncomputable def PO (X:Cx) (e:Option Expr) (t:TO):Prop :=
 ∀(pins:List (Addr×Obj)) (s:Shared) (σ:St) (H:Hp) (Q:Option Int→Hp→Prop),Inv X pins σ H s→t σ H Q →
  wpAny (model X.prog X.w) X.A (evalPart e X.env) (fun u s'=>∃o H',Inv X pins σ H' s'∧IsPart u o∧Q o H') X.xe s
noncomputable def tNoPart:TO:=fun _ H Q=>Q none H
noncomputable def tPart (t:TE):TO:=fun σ H Q=>t σ H fun x H1=>∃i,x=.int i∧Q (some i) H1
theorem intsAre_of {ns:List Int}:∀{us:List Value},Vals (ns.map V.int) us→IntsAre us ns:=by
 induction ns with
 | nil=>intro us r;rw[List.map_nil]at r;cases r;exact .nil
 | cons n ns ih =>
  intro us r
  rw[List.map_cons]at r
  cases r with
  | cons r1 r2 =>
   obtain⟨t,e⟩:=r1
   subst e
   exact .cons n t (ih r2)
section
variable {X : Cx} {e : Expr} {te : TE} {lo hi : Option Expr} {tl th : TO} {pos p2 : Pos}
theorem po_none:PO X none tNoPart:=by
 intro pins s σ H Q I h
 rw[evalPart_none]
 exact wpAny_pure ⟨none,H,I,.none,h⟩
theorem po_some (h:PE X e te):PO X (some e) (tPart te):=by
 intro pins s σ H Q I hw
 rw[evalPart_some]
 refine thn (h pins s σ H _ I hw) fun u s1 ⟨x,H1,I1,r1,q1⟩=>?_
 obtain⟨i,rfl,q⟩:=q1
 obtain⟨t,rfl⟩:=r1
 exact⟨some i,H1,I1,.int i t,q⟩
noncomputable def SlR (X:Cx) (r:V→Option Int→Option Int→Hp→VK→Prop):Prop :=
 ∀(pins:List (Addr×Obj)) (s:Shared) (σ:St) (H:Hp) (x:V) (v vl vu:Value) (lo hi:Option Int) (sl:Addr) (Q:VK),Inv X pins σ H s→RelV x v→s.heap.IsSliceOf sl vl vu .none→IsPart vl lo→IsPart vu hi→r x lo hi H Q →
  ∃T id,typeLookup (.type T) "__getitem__"=pure (some (.builtin id))∧s.TypeIs v T∧wpAny (model X.prog X.w) X.A (getItem v (.ref sl)) (EP X pins σ Q) X.xe s
noncomputable def tSl (r:V→Option Int→Option Int→Hp→VK→Prop) (te:TE) (tl th:TO):TE:=fun σ H Q=>te σ H fun x H1=>tl σ H1 fun l H2=>th σ H2 fun u H3=>r x l u H3 Q
theorem pe_slice {r:V→Option Int→Option Int→Hp→VK→Prop} (hr:SlR X r) (he:PE X e te) (hl:PO X lo tl) (hu:PO X hi th):PE X (.Subscript e (.Slice lo hi none p2) pos) (tSl r te tl th):=by
 intro pins s σ H Q I h
 refine Subscript_ (thn (he pins s σ H _ I h) fun v s1 ⟨x,H1,I1,r1,q1⟩=>?_)
 refine wpAny_Slice (thn (hl pins s1 σ H1 _ I1 q1) fun vl s2 ⟨l,H2,I2,pl,q2⟩=>thn (hu pins s2 σ H2 _ I2 q2) fun vu s3 ⟨u,H3,I3,pu,q3⟩=>?_)
 rw[evalPart_none]
 refine wpAny_pure ?_
 have I4:Inv X pins σ H3 {s3 with heap:=s3.heap.push {cls:=.type "slice",data:=.fields #[vl,vu,.none]}}:=I3.kept (t':=s3.toks) fun b ob q=>Heap.get?_push_of_some _ q
 obtain⟨T,id,hT,ht,hg⟩:=hr pins {s3 with heap:=s3.heap.push {cls:=.type "slice",data:=.fields #[vl,vu,.none]}} σ H3 x v vl vu l u s3.heap.objs.size Q I4 r1 (Heap.IsSliceOf.new ..) pl pu q3
 show wpAny (model X.prog X.w) X.A (subscriptTail e (.Slice lo hi none p2) v (.ref s3.heap.objs.size)) (EP X pins σ Q) X.xe {s3 with heap:=s3.heap.push {cls:=.type "slice",data:=.fields #[vl,vu,.none]}}
 exact tail_any (ops:=[.ref s3.heap.objs.size,v]) ht hT hg (by with_unfolding_all rfl)
noncomputable def cutV (xs:List V) (lo hi:Option Int):List V:=(xs.drop (HT.sIx xs.length 0 lo)).take (HT.sIx xs.length xs.length hi-HT.sIx xs.length 0 lo)
theorem cutV_length (xs:List V) (lo hi:Option Int):(cutV xs lo hi).length≤xs.length:=by
 unfold cutV
 rw[List.length_take,List.length_drop]
 lia
noncomputable def rSlT (K:PySem.W.Frag):V→Option Int→Option Int→Hp→VK→Prop:=fun x lo hi H Q=>∃a xs,x=.ref a∧SqT K H a xs ∧
 ¬(HT.sIx xs.length 0 lo=0∧HT.sIx xs.length xs.length hi=xs.length)∧∀p,H p=none→Q (.ref p) (upd H p (.tup (cutV xs lo hi)))
theorem sl_tup:SlR X (rSlT X.K):=by
 intro pins s σ H x v vl vu lo hi sl Q I rx hs pl pu h
 obtain⟨a,xs,rfl,hx,hw,q⟩:=h
 cases rx
 obtain⟨its,r,ht,hz⟩:=I.tuple hx
 have hlen:its.toArray.size=xs.length:=by rw[List.size_toArray];exact r.length.symm
 refine⟨"tuple",_,PyProof.Rows.slot_tuple_getitem.lookup,ht.typeIs,?_⟩
 refine HT.getItem_tuple_cut ht hs pl pu (by rw[hlen];exact hw) ?_ (by rw[hlen];exact hz)
 rw[hlen]
 refine⟨.ref s.heap.objs.size,_,I.laid (t':=s.toks) (o:=.tup (cutV xs lo hi)) (fun b ob q=>Heap.get?_push_of_some _ q) (Nat.le_refl _) ?_,rfl,q _ (I.hok.fresh (Nat.le_refl _))⟩
 exact⟨Nat.le_trans (cutV_length xs lo hi) hz,_,(r.drop (HT.sIx xs.length 0 lo)).take (HT.sIx xs.length xs.length hi-HT.sIx xs.length 0 lo),IsTupD.new _ _⟩
noncomputable def rLtT (K:PySem.W.Frag):R2:=fun x y H Q=>∃a b ns ms,x=.ref a∧y=.ref b∧SqT K H a (ns.map V.int)∧SqT K H b (ms.map V.int)∧Q (.bl (HT.lexLt ns ms)) H
theorem op_ltT (hu:X.A.units<cLine):OpR X (compareOp .Lt) (rLtT X.K):=by
 intro pins s σ H x y v u Q I rx ry h
 obtain⟨a,b,ns,ms,rfl,rfl,ha,hb,q⟩:=h
 cases rx
 cases ry
 obtain⟨its,r1,p1,_⟩:=I.tuple ha
 obtain⟨its2,r2,p2,_⟩:=I.tuple hb
 have i1:IntsAre its.toArray.toList ns:=intsAre_of r1
 have i2:IntsAre its2.toArray.toList ms:=intsAre_of r2
 exact HT.lt_tupInts p1 p2 i1 i2 hu ⟨.bl (HT.lexLt ns ms),H,I,rfl,q⟩
noncomputable def rCatT (K:PySem.W.Frag):R2:=fun x y H Q=>∃a b xs ys,x=.ref a∧y=.ref b∧SqT K H a xs∧SqT K H b ys∧xs≠[]∧xs.length+ys.length≤sizeLine ∧
 (ys=[]→Q (.ref a) H)∧(ys≠[]→∀p,H p=none→Q (.ref p) (upd H p (.tup (xs++ys))))
theorem Vals.nil_iff {xs:List V} {us:List Value} (r:Vals xs us):us=[]↔xs=[]:=by
 cases r with
 | nil=>simp
 | cons _ _=>simp
theorem op_catT:OpR X (binaryOp .Add) (rCatT X.K):=by
 intro pins s σ H x y v u Q I rx ry h
 obtain⟨a,b,xs,ys,rfl,rfl,ha,hb,hx,hz,q1,q2⟩:=h
 cases rx
 cases ry
 obtain⟨its,r1,p1,_⟩:=I.tuple ha
 obtain⟨its2,r2,p2,_⟩:=I.tuple hb
 refine HT.cat_tup p1 p2 (fun z=>hx (r1.nil_iff.mp z)) (fun z=>⟨.ref a,H,I,rfl,q1 (r2.nil_iff.mp z)⟩) (fun z=>?_) (by rw[←r1.length,←r2.length];exact hz)
 refine⟨.ref s.heap.objs.size,_,I.laid (t':=s.toks) (o:=.tup (xs++ys)) (fun b ob q=>Heap.get?_push_of_some _ q) (Nat.le_refl _) ?_,rfl,q2 (fun w=>z (r2.nil_iff.mpr w)) _ (I.hok.fresh (Nat.le_refl _))⟩
 exact⟨by rw[List.length_append];exact hz,_,r1.append r2,IsTupD.new _ _⟩
end
end L2
namespace L2
open PySem PySem.Spec PyProof.Rows
noncomputable def ixN (n:Nat) (i:Int):Option Nat:=if 0≤i then(if i<n then some i.toNat else none)else if -(n:Int)≤i then some (i+n).toNat else none
noncomputable def atI {α:Type} (xs:List α) (i:Int):Option α:=(ixN xs.length i).bind fun j=>xs[j]?
theorem ixN_seq {n:Nat} {i:Int} {j:Nat} (h:ixN n i=some j):seqIndex? i n=some j∧j<n ∧ -(n:Int)≤i∧i<n:=by
 unfold ixN at h
 by_cases h0:0≤i
 ·rw[if_pos h0]at h
  by_cases h1:i<n
  ·rw[if_pos h1]at h
   have e:i.toNat=j:=Option.some.inj h
   exact⟨by rw[seqIndex_of h0 h1,e],by lia,by lia,h1⟩
  ·rw[if_neg h1]at h;cases h
 ·rw[if_neg h0]at h
  by_cases h1:-(n:Int)≤i
  ·rw[if_pos h1]at h
   have e:(i+n).toNat=j:=Option.some.inj h
   exact⟨by rw[seqIndex_neg (by lia) h1,e],by lia,h1,by lia⟩
  ·rw[if_neg h1]at h;cases h
theorem atI_get {α:Type} {xs:List α} {i:Int} {v:α} (h:atI xs i=some v):∃j,seqIndex? i xs.length=some j∧xs[j]? = some v∧j<xs.length ∧ -(xs.length:Int)≤i∧i<xs.length:=by
 unfold atI at h
 cases e:ixN xs.length i with
 | none=>rw[e]at h;cases h
 | some j =>
  rw[e]at h
  obtain⟨h1,h2,h3,h4⟩:=ixN_seq e
  exact⟨j,h1,h,h2,h3,h4⟩
noncomputable def PlainIx (b:Expr):Prop:=∀o i,subscripted b false o i=operate [o,i] (getItem o i)
noncomputable def IxR (X:Cx) (r:R2):Prop :=
 ∀(value slice:Expr) (pins:List (Addr×Obj)) (s:Shared) (σ:St) (H:Hp) (x y:V) (v u:Value) (Q:VK),Inv X pins σ H s→RelV x v→RelV y u→r x y H Q →
  subscripted slice false v u=operate [v,u] (getItem v u)→wpAny (model X.prog X.w) X.A (subscriptTail value slice v u) (EP X pins σ Q) X.xe s
noncomputable def MtR (X:Cx) (id:String) (r:V→List V→Hp→VK→Prop):Prop :=
 ∀(pins:List (Addr×Obj)) (s:Shared) (σ:St) (H:Hp) (x:V) (xs:List V) (v:Value) (us:List Value) (Q:VK),Inv X pins σ H s→RelV x v→Vals xs us→r x xs H Q →
  wpAny (model X.prog X.w) X.A (call (.builtin id) (v::us)) (EP X pins σ Q) X.xe s
section
variable {X : Cx} {a b : Expr} {ta tb : TE} {pos : Pos}
theorem IxR.or {r r':R2} (h:IxR X r) (h':IxR X r'):IxR X (fun x y H Q=>r x y H Q∨r' x y H Q):=by
 intro value slice pins s σ H x y v u Q I rx ry q hs
 rcases q with q | q
 ·exact h value slice pins s σ H x y v u Q I rx ry q hs
 ·exact h' value slice pins s σ H x y v u Q I rx ry q hs
theorem pe_ix {r:R2} (hr:IxR X r) (ha:PE X a ta) (hb:PE X b tb) (hs:PlainIx b):PE X (.Subscript a b pos) (tOp r ta tb):=by
 intro pins s σ H Q I h
 exact Subscript_ (binT ha hb I h fun v u s2 x y H2 I2 rx ry q=>hr a b pins s2 σ H2 x y v u Q I2 rx ry q (hs _ _))
noncomputable def rIxL (K:PySem.W.Frag):R2:=fun x y H Q=>∃p xs i v,x=.ref p∧y=.int i∧SqL K H p xs∧atI xs i=some v∧Q v H
noncomputable def rIxT (K:PySem.W.Frag):R2:=fun x y H Q=>∃p xs i v,x=.ref p∧y=.int i∧SqT K H p xs∧atI xs i=some v∧Q v H
noncomputable def rIxS:R2:=fun x y H Q=>∃z i c,x=.str z∧y=.int i∧z.length≤sizeLine∧atI z.cps.toList i=some c∧Q (.str ⟨#[c]⟩) H
theorem ix_list:IxR X (rIxL X.K):=by
 intro value slice pins s σ H x y v u Q I rx ry h hs
 obtain⟨p,xs,i,z,rfl,rfl,hq,he,q⟩:=h
 cases rx
 obtain⟨t,rfl⟩:=ry
 obtain⟨its,r,pl,hz⟩:=I.list hq
 obtain⟨j,h1,h2,h3,h4,h5⟩:=atI_get he
 obtain⟨w,ew,rw'⟩:=r.get h2
 have hl:=r.length
 have hn:=line63
 have fin:EP X pins σ Q w s:=⟨z,H,I,rw',q⟩
 by_cases h0:0≤i
 ·have hj:i.toNat=j:=by
   rw[seqIndex_of h0 h5]at h1
   exact Option.some.inj h1
  exact item_listR pl.isList h0 (by lia) (by rw[hj];simpa using ew) fin hs
 ·have hj:(i+(its.toArray.size:Int)).toNat=j:=by
   rw[seqIndex_neg (by lia) h4]at h1
   rw[List.size_toArray,←hl]
   exact Option.some.inj h1
  exact subscriptTail_builtinR (x:=w) pl.isList.typeIs slot_list_getitem.lookup
   (wpAny_getItem_list_neg (Q:=fun r s'=>r=w∧EP X pins σ Q r s') pl.isList (by lia) (by rw[List.size_toArray]<;>lia) (by lia) (by rw[hj];simpa using ew) ⟨rfl,fin⟩) hs
theorem ix_tup:IxR X (rIxT X.K):=by
 intro value slice pins s σ H x y v u Q I rx ry h hs
 obtain⟨p,xs,i,z,rfl,rfl,hq,he,q⟩:=h
 cases rx
 obtain⟨t,rfl⟩:=ry
 obtain⟨its,r,pl,hz⟩:=I.tuple hq
 obtain⟨j,h1,h2,h3,h4,h5⟩:=atI_get he
 obtain⟨w,ew,rw'⟩:=r.get h2
 have hl:=r.length
 have hn:=line63
 have fin:EP X pins σ Q w s:=⟨z,H,I,rw',q⟩
 exact subscriptTail_builtinR (x:=w) pl.typeIs slot_tuple_getitem.lookup
  (getItem_tuple (j:=j) (Q:=fun r s'=>r=w∧EP X pins σ Q r s') pl (by lia) (by lia) (by rw[List.size_toArray,←hl];exact h1) (by simpa using ew) ⟨rfl,fin⟩) hs
theorem ix_str:IxR X rIxS:=by
 intro value slice pins s σ H x y v u Q I rx ry h hs
 obtain⟨z,i,c,rfl,rfl,hz,he,q⟩:=h
 obtain⟨t,rfl⟩:=rx
 obtain⟨t',rfl⟩:=ry
 obtain⟨j,h1,h2,h3,h4,h5⟩:=atI_get he
 have hl:z.cps.toList.length=z.length:=by simp[Str.length]
 rw[hl]at h1 h4 h5
 have hn:=line63
 exact tail_any (typeIs_str s z t) slot_str_getitem.lookup (getItem_str (c:=c) (by
  have e1:decide (i < -(2 ^ 63:Int))=false:=decide_eq_false (by lia)
  have e2:decide (i≥2 ^ 63)=false:=decide_eq_false (by lia)
  rw[e1,e2,Bool.or_false]) (by rw[h1];simpa using h2) ⟨.str ⟨#[c]⟩,H,I.tok _,⟨_,rfl⟩,q⟩) hs
noncomputable def rIx (K:PySem.W.Frag):R2:=fun x y H Q=>rIxL K x y H Q∨rIxT K x y H Q∨rIxS x y H Q
theorem ix_seq:IxR X (rIx X.K):=ix_list.or (ix_tup.or ix_str)
theorem mapSeq_set (its:List Value) (n j:Nat) (u:Value):Obj.mapSeq (·.setIfInBounds j u) {cls:=.type "list",data:=.seq its.toArray n}={cls:=.type "list",data:=.seq (its.set j u).toArray n}:=by
 simp[Obj.mapSeq]
theorem Inv.lst {pins:List (Addr×Obj)} {σ:St} {H:Hp} {s:Shared} {p:Addr} {xs:List V} (I:Inv X pins σ H s) (h:H p=some (.lst xs)) :
  ∃(its:List Value) (n:Nat),Vals xs its∧s.heap.get? p=some {cls:=.type "list",data:=.seq its.toArray n}∧xs.length≤sizeLine:=by
 obtain⟨z,its,n,r,e⟩:=I.hok p _ h
 exact⟨its,n,r,e,z⟩
theorem Inv.lstUpd {pins:List (Addr×Obj)} {σ:St} {H:Hp} {s:Shared} {p:Addr} {xs ys:List V} {its its':List Value} {n n':Nat} {f:Obj→Obj} (I:Inv X pins σ H s) (h:H p=some (.lst xs))
  (ho:s.heap.get? p=some {cls:=.type "list",data:=.seq its.toArray n}) (hf:f {cls:=.type "list",data:=.seq its.toArray n}={cls:=.type "list",data:=.seq its'.toArray n'}) (r:Vals ys its') (hz:ys.length≤sizeLine) (t:Nat) :
  Inv X pins σ (upd H p (.lst ys)) {s with heap:=s.heap.update p f,toks:=t}:=by
 have e:(s.heap.update p f).get? p=some {cls:=.type "list",data:=.seq its'.toArray n'}:=by
  rw[Heap.get?_update_self f ho (by rw[hf]<;>rfl),hf]
 refine I.write (x:=p) (e:=p) (by rw[h];trivial) (.inl rfl) (fun b u hb q=>(Heap.get?_update_other _ _ (Ne.symm hb)).trans q) ⟨_,e⟩ ?_
 exact⟨hz,its',n',r,e⟩
noncomputable def rSetL:V→V→V→Hp→(Hp→Prop)→Prop:=fun o i v H Q=>∃p xs k j,o=.ref p∧i=.int k∧H p=some (.lst xs)∧ixN xs.length k=some j∧Q (upd H p (.lst (xs.set j v)))
theorem set_list:PSet X rSetL:=by
 intro pins s σ H o i v ov iv u Q I ro ri rv h
 obtain⟨p,xs,k,j,rfl,rfl,hp,hj,q⟩:=h
 cases ro
 obtain⟨t,rfl⟩:=ri
 obtain⟨its,n,r,ho,hz⟩:=I.lst hp
 obtain⟨h1,h2,h3,h4⟩:=ixN_seq hj
 have hl:=r.length
 have hn:=line63
 have I':Inv X pins σ (upd H p (.lst (xs.set j v))) {s with heap:=s.heap.update p (Obj.mapSeq (·.setIfInBounds j u))} :=
  I.lstUpd hp ho (mapSeq_set its n j u) (r.set rv j) (by rw[List.length_set];exact hz) s.toks
 by_cases h0:0≤k
 ·have hk:k.toNat=j:=by
   rw[seqIndex_of h0 h4]at h1
   exact Option.some.inj h1
  exact PySem.W.ki_setAt ho h0 (by lia) (by rw[List.size_toArray,←hl];exact h4) (by rw[hk];exact⟨_,I',q⟩)
 ·have hk:(k+(its.toArray.size:Int)).toNat=j:=by
   rw[seqIndex_neg (by lia) h3]at h1
   rw[List.size_toArray,←hl]
   exact Option.some.inj h1
  exact PySem.W.ki_setBack ho (by lia) (by rw[List.size_toArray,←hl];exact h3) (by lia) (by rw[hk];exact⟨_,I',q⟩)
theorem slice_bounds (lo hi:Option Int) (n:Nat):(sliceBounds lo hi none n).1=((HT.sIx n 0 lo:Nat):Int)∧(sliceBounds lo hi none n).2.1=((HT.sIx n n hi:Nat):Int)∧(sliceBounds lo hi none n).2.2=1:=by
 refine⟨?_,?_,rfl⟩
 ·cases lo with
  | none=>simp[sliceBounds,HT.sIx]
  | some i =>
   simp only[sliceBounds,HT.sIx,Option.getD_none,show(1:Int) > 0 by decide,if_true]
   by_cases h:i<0
   ·simp only[h,if_true]<;>lia
   ·simp only[h,if_false]<;>lia
 ·cases hi with
  | none=>simp[sliceBounds,HT.sIx]
  | some i =>
   simp only[sliceBounds,HT.sIx,Option.getD_none,show(1:Int) > 0 by decide,if_true]
   by_cases h:i<0
   ·simp only[h,if_true]<;>lia
   ·simp only[h,if_false]<;>lia
theorem slicePick_cut (its:List Value) (lo hi:Option Int):slicePick its.toArray lo hi none=((its.drop (HT.sIx its.length 0 lo)).take (HT.sIx its.length its.length hi-HT.sIx its.length 0 lo)).toArray:=by
 obtain⟨h1,h2,h3⟩:=slice_bounds lo hi its.toArray.size
 unfold slicePick
 rw[h1,h2,h3]
 simp only[sliceRange_one,pick_run,List.size_toArray]<;>rfl
noncomputable def rSlL (K:PySem.W.Frag):V→Option Int→Option Int→Hp→VK→Prop:=fun x lo hi H Q=>∃a xs,x=.ref a∧SqL K H a xs∧∀p,H p=none→Q (.ref p) (upd H p (.lst (cutV xs lo hi)))
theorem sl_list:SlR X (rSlL X.K):=by
 intro pins s σ H x v vl vu lo hi sl Q I rx hs pl pu h
 obtain⟨a,xs,rfl,hx,q⟩:=h
 cases rx
 obtain⟨its,r,ht,hz⟩:=I.list hx
 have hlen:=r.length
 refine⟨"list",_,slot_list_getitem.lookup,ht.isList.typeIs,?_⟩
 refine wpAny_getItem_list_slice ht.isList hs pl pu .none (by simp) ?_ (by rw[List.size_toArray]<;>lia)
 rw[slicePick_cut,←hlen]
 refine⟨.ref s.heap.objs.size,_,I.laid (t':=s.toks) (o:=.lst (cutV xs lo hi)) (fun b ob q=>Heap.get?_push_of_some _ q) (Nat.le_refl _) ?_,rfl,q _ (I.hok.fresh (Nat.le_refl _))⟩
 exact⟨Nat.le_trans (cutV_length xs lo hi) hz,_,0,(r.drop (HT.sIx xs.length 0 lo)).take (HT.sIx xs.length xs.length hi-HT.sIx xs.length 0 lo),Heap.get?_push_size _ rfl⟩
noncomputable def flatV:V→Bool
 | .non=>true
 | .bl _=>true
 | .int _=>true
 | .str _=>true
 | _=>false
noncomputable def eqV:V→V→Bool
 | .non,.non=>true
 | .bl a,.bl b=>a==b
 | .bl a,.int b=>(if a then 1 else 0)==b
 | .int a,.bl b=>a==(if b then 1 else 0)
 | .int a,.int b=>a==b
 | .str a,.str b=>a==b
 | _,_=>false
theorem eqAt_V {A:Around} {s:Shared} {y x:V} {u v:Value} (ry:RelV y u) (rx:RelV x v) (fy:flatV y=true) (fx:flatV x=true):SeqAt.EqAt A s u v (eqV y x):=by
 cases y with
 | non =>
  cases ry
  cases x with
  | non=>cases rx;exact SeqAt.EqAt.same _
  | bl b=>cases rx;exact SeqAt.EqAt.none_bool b
  | int b=>obtain⟨t,rfl⟩:=rx;exact SeqAt.EqAt.none_int b t
  | str b=>obtain⟨t,rfl⟩:=rx;exact SeqAt.EqAt.none_str b t
  | _=>exact absurd (show false=true from fx) Bool.false_ne_true
 | bl a =>
  cases ry
  cases x with
  | non=>cases rx;exact SeqAt.EqAt.bool_none a
  | bl b=>cases rx;exact SeqAt.EqAt.bool_bool a b
  | int b=>obtain⟨t,rfl⟩:=rx;exact SeqAt.EqAt.bool_int a b t
  | str b=>obtain⟨t,rfl⟩:=rx;exact SeqAt.EqAt.bool_str a b t
  | _=>exact absurd (show false=true from fx) Bool.false_ne_true
 | int a =>
  obtain⟨t',rfl⟩:=ry
  cases x with
  | non=>cases rx;exact SeqAt.EqAt.int_none a t'
  | bl b=>cases rx;exact SeqAt.EqAt.int_bool a t' b
  | int b=>obtain⟨t,rfl⟩:=rx;exact SeqAt.EqAt.int_int a t' b t
  | str b=>obtain⟨t,rfl⟩:=rx;exact SeqAt.EqAt.int_str a t' b t
  | _=>exact absurd (show false=true from fx) Bool.false_ne_true
 | str a =>
  obtain⟨t',rfl⟩:=ry
  cases x with
  | non=>cases rx;exact SeqAt.EqAt.str_none a t'
  | bl b=>cases rx;exact SeqAt.EqAt.str_bool a t' b
  | int b=>obtain⟨t,rfl⟩:=rx;exact SeqAt.EqAt.str_int a t' b t
  | str b=>obtain⟨t,rfl⟩:=rx;exact SeqAt.EqAt.str_str a t' b t
  | _=>exact absurd (show false=true from fx) Bool.false_ne_true
 | _=>exact absurd (show false=true from fy) Bool.false_ne_true
noncomputable def eqU (x:V) (u:Value):Bool:=match u with
 | .none=>eqV .non x
 | .bool b=>eqV (.bl b) x
 | .int i _=>eqV (.int i) x
 | .str z _=>eqV (.str z) x
 | _=>false
theorem eqU_of {x y:V} {u:Value} (r:RelV y u) (f:flatV y=true):eqU x u=eqV y x:=by
 cases y with
 | non=>cases r;rfl
 | bl b=>cases r;rfl
 | int i=>obtain⟨t,rfl⟩:=r;rfl
 | str z=>obtain⟨t,rfl⟩:=r;rfl
 | _=>exact absurd (show false=true from f) Bool.false_ne_true
theorem any_eqU {x:V}:∀{xs:List V} {us:List Value},Vals xs us→xs.all flatV=true→us.any (eqU x)=xs.any fun y=>eqV y x
 | _,_,.nil,_=>rfl
 | y::xs,u::us,.cons r t,f=>by
  rw[List.all_cons,Bool.and_eq_true]at f
  rw[List.any_cons,List.any_cons,eqU_of r f.1,any_eqU t f.2]
theorem mem_eqAt {A:Around} {s:Shared} {x:V} {v:Value} (rx:RelV x v) (fx:flatV x=true):∀{xs:List V} {us:List Value},Vals xs us→xs.all flatV=true→∀u∈us,SeqAt.EqAt A s u v (eqU x u)
 | _,_,.nil,_=>fun u hu=>by cases hu
 | y::xs,u::us,.cons r t,f=>fun u' hu=>by
  rw[List.all_cons,Bool.and_eq_true]at f
  rcases List.mem_cons.mp hu with rfl | hu
  ·rw[eqU_of r f.1];exact eqAt_V r rx f.1 fx
  ·exact mem_eqAt rx fx t f.2 u' hu
noncomputable def inV (x:V) (xs:List V):Bool:=xs.any fun y=>eqV y x
noncomputable def rIn (K:PySem.W.Frag) (neg:Bool):R2:=fun x y H Q=>∃p xs,y=.ref p∧(SqL K H p xs∨SqT K H p xs)∧flatV x=true∧xs.all flatV=true∧Q (.bl (if neg then !inV x xs else inV x xs)) H
theorem op_in_seq:OpR X (compareOp .In) (rIn X.K false):=by
 intro pins s σ H x y v u Q I rx ry h
 obtain⟨p,xs,rfl,hq,fx,fs,q⟩:=h
 cases ry
 rcases hq with hq | hq
 ·obtain⟨its,r,pl,hz⟩:=I.list hq
  refine SeqAt.in_listAt (eqU x) pl.isList (fun w hw=>mem_eqAt rx fx r fs w (by simpa using hw)) ⟨.bl _,H,I,rfl,?_⟩
  rw[show its.toArray.any (eqU x)=its.any (eqU x)by simp,any_eqU r fs]
  exact q
 ·obtain⟨its,r,pl,hz⟩:=I.tuple hq
  refine SeqAt.in_tupleAt (eqU x) pl (fun w hw=>mem_eqAt rx fx r fs w (by simpa using hw)) ⟨.bl _,H,I,rfl,?_⟩
  rw[show its.toArray.any (eqU x)=its.any (eqU x)by simp,any_eqU r fs]
  exact q
theorem op_notIn_seq:OpR X (compareOp .NotIn) (rIn X.K true):=by
 intro pins s σ H x y v u Q I rx ry h
 obtain⟨p,xs,rfl,hq,fx,fs,q⟩:=h
 cases ry
 rcases hq with hq | hq
 ·obtain⟨its,r,pl,hz⟩:=I.list hq
  refine SeqAt.notIn_listAt (eqU x) pl.isList (fun w hw=>mem_eqAt rx fx r fs w (by simpa using hw)) ⟨.bl _,H,I,rfl,?_⟩
  rw[show its.toArray.any (eqU x)=its.any (eqU x)by simp,any_eqU r fs]
  exact q
 ·obtain⟨its,r,pl,hz⟩:=I.tuple hq
  refine SeqAt.notIn_tupleAt (eqU x) pl (fun w hw=>mem_eqAt rx fx r fs w (by simpa using hw)) ⟨.bl _,H,I,rfl,?_⟩
  rw[show its.toArray.any (eqU x)=its.any (eqU x)by simp,any_eqU r fs]
  exact q
theorem call_len_seq:CallR X (.builtin "len") (fun xs H Q=>∃p ys,xs=[.ref p]∧(SqL X.K H p ys∨SqT X.K H p ys)∧Q (.int ys.length) H):=by
 intro pins s σ H xs us Q I r h
 obtain⟨p,ys,rfl,hq,q⟩:=h
 obtain⟨u,rfl,rx⟩:=vals1 r
 cases rx
 have hn:=line63
 rcases hq with hq | hq
 ·obtain⟨its,r',pl,hz⟩:=I.list hq
  have hlen:=r'.length
  exact Calls.call_len_list pl.isList (by simp only[List.size_toArray]<;>lia) ⟨.int ys.length,H,I.tok _,⟨s.toks+1,by rw[List.size_toArray,hlen]⟩,q⟩
 ·obtain⟨its,r',pl,hz⟩:=I.tuple hq
  have hlen:=r'.length
  exact len_tuple pl (by simp only[List.size_toArray]<;>lia) ⟨.int ys.length,H,I.tok _,⟨s.toks+1,by rw[List.size_toArray,hlen]⟩,q⟩
theorem call_tuple_of:CallR X (.type "tuple") (fun xs H Q=>∃p ys,xs=[.ref p]∧((SqL X.K H p ys∧∀l,H l=none→Q (.ref l) (upd H l (.tup ys)))∨(SqT X.K H p ys∧Q (.ref p) H))):=by
 intro pins s σ H xs us Q I r h
 obtain⟨p,ys,rfl,h⟩:=h
 obtain⟨u,rfl,rx⟩:=vals1 r
 cases rx
 rcases h with⟨hq,q⟩ | ⟨hq,q⟩
 ·obtain⟨its,r',pl,hz⟩:=I.list hq
  have hlen:=r'.length
  refine call_tuple_list pl.isList (fun h' kp=>?_) (by simp only[List.size_toArray]<;>lia)
  have I1:Inv X pins σ H {s with heap:=h'}:=I.kept (t':=s.toks) kp
  have I2:Inv X pins σ (upd H h'.objs.size (.tup ys)) {s with heap:=h'.push {cls:=.type "tuple",data:=.seq its.toArray}} :=
   I1.laid (t':=s.toks) (fun b o e=>Heap.get?_push_of_some _ e) (Nat.le_refl _) (show ObjOk X.prog X.w _ _ _ (.tup ys)from⟨hz,its,r',IsTupD.new _ _⟩)
  exact⟨.ref h'.objs.size,_,I2,rfl,q _ (I1.hok.fresh (Nat.le_refl _))⟩
 ·obtain⟨its,r',pl,hz⟩:=I.tuple hq
  exact call_tuple_same pl ⟨.ref p,H,I,rfl,q⟩
noncomputable def tyV (K:PySem.W.Frag) (T:String) (x:V) (H:Hp):Prop:=match x with
 | .str _=>T="str"
 | .int _=>T="int"
 | .ref p=>(T="list"∧∃xs,SqL K H p xs)∨(T="tuple"∧∃o,K.lookup p=some o∧o.cls=.type "tuple"∧o.dict=none) ∨
   (T="dict"∧((∃kvs,H p=some (.dK kvs))∨∃kvs,H p=some (.dT kvs)))∨(T="set"∧∃S n,H p=some (.set S n))
 | _=>False
theorem tyV_is {pins:List (Addr×Obj)} {σ:St} {H:Hp} {s:Shared} {T:String} {x:V} {v:Value} (I:Inv X pins σ H s) (r:RelV x v) (ty:tyV X.K T x H) :
  s.TypeIs v T∧∀a,v=.ref a→∃ob,s.heap.get? a=some ob∧ob.dict=none:=by
 cases x with
 | str z =>
  obtain⟨t,rfl⟩:=r
  cases(show T="str" from ty)
  exact⟨typeIs_str s z t,fun _ e=>nomatch e⟩
 | int i =>
  obtain⟨t,rfl⟩:=r
  cases(show T="int" from ty)
  exact⟨typeIs_int s i t,fun _ e=>nomatch e⟩
 | ref p =>
  cases r
  rcases ty with⟨rfl,xs,hq⟩ | ⟨rfl,o,hk,hc,hd⟩ | ⟨rfl,hk⟩ | ⟨rfl,S,n,hk⟩
  ·obtain⟨its,_,pl,_⟩:=I.list hq
   refine⟨pl.isList.typeIs,fun a e=>?_⟩
   cases e
   obtain⟨o,n,e,c,hd,_⟩:=pl
   exact⟨o,e,hd⟩
  ·refine⟨⟨o,I.kIn p o hk,hc⟩,fun a e=>?_⟩
   cases e
   exact⟨o,I.kIn _ o hk,hd⟩
  ·have z:∃o,s.heap.get? p=some o∧o.ExactDict:=by
    rcases hk with⟨kvs,hk⟩ | ⟨kvs,hk⟩
    ·obtain⟨_,_,_,_,o,_,_,e,ex,_⟩:=I.hok p _ hk
     exact⟨o,e,ex⟩
    ·obtain⟨_,_,_,_,o,_,_,e,ex,_⟩:=I.hok p _ hk
     exact⟨o,e,ex⟩
   obtain⟨o,e,ex⟩:=z
   refine⟨⟨o,e,ex.1⟩,fun a e2=>?_⟩
   cases e2
   exact⟨o,e,ex.2.1⟩
  ·obtain⟨o,_,_,_,e,ex,_⟩:=I.hok p _ hk
   refine⟨⟨o,e,ex.1⟩,fun a e2=>?_⟩
   cases e2
   exact⟨o,e,ex.2.1⟩
 | _=>exact False.elim ty
noncomputable def tBM0 (K:PySem.W.Frag) (T:String) (r:V→List V→Hp→VK→Prop) (to:TE):TE:=fun σ H Q=>to σ H fun x H1=>tyV K T x H1∧r x [] H1 Q
noncomputable def tBM (K:PySem.W.Frag) (T:String) (r:V→List V→Hp→VK→Prop) (to:TE) (t:TA):TE:=fun σ H Q=>to σ H fun x H1=>tyV K T x H1∧t σ H1 fun xs H2=>r x xs H2 Q
variable {o e : Expr} {es : List Expr} {to : TE} {t : TA} {name : Str} {apos cpos : Pos} {T id : String} {r : V → List V → Hp → VK → Prop}
theorem pe_bm0 (pa:PlainAttrs T) (slot:Slot T name id) (hty:typeOf (.builtin id)=pure (.type "method_descriptor")) (hm:MtR X id r) (ho:PE X o to)
  (hbase:attributeBase o name X.env (eval o X.env)=eval o X.env:=by rfl) (hline:(apos.endLine==cpos.line)=true:=by rfl):PE X (.Call (.Attribute o name apos) [] [] cpos) (tBM0 X.K T r to):=by
 intro pins s σ H Q I h
 refine wpAny_Call_method0_late hbase hline (thn (ho pins s σ H _ I h) fun v s1 ⟨x,H1,I1,r1,ty,q1⟩=>?_)
 obtain⟨h1,h2⟩:=tyV_is I1 r1 ty
 exact⟨T,id,pa,slot,hty,h1,h2,Calls.callWith_builtin rfl (PySem.evalArgs_none (hm pins s1 σ H1 x [] v [] Q I1 r1 .nil q1))⟩
theorem pe_bm (pa:PlainAttrs T) (slot:Slot T name id) (hty:typeOf (.builtin id)=pure (.type "method_descriptor")) (hm:MtR X id r) (ho:PE X o to) (ha:PA X (e::es) t)
  (hbase:attributeBase o name X.env (eval o X.env)=eval o X.env:=by rfl)
  (hfew:((backTo cpos (starEach (e::es) X.env)).all (fun x=>!x.1)&&(backToKw cpos (keywordEach [] X.env)).all (fun x=>x.1.isSome)
   && decide ((e::es).length+([]:List Keyword).length+(if([]:List Keyword).isEmpty then 0 else 1)<30))=true:=by rfl)
  (hline:(apos.endLine==cpos.line)=true:=by rfl) (hs:starEach (e::es) X.env=(false,eval e X.env)::starEach es X.env:=by rfl) (hplain:(backTo cpos (starEach es X.env)).any (·.1)=false:=by rfl) :
  PE X (.Call (.Attribute o name apos) (e::es) [] cpos) (tBM X.K T r to t):=by
 intro pins s σ H Q I h
 refine wpAny_Call_method_late hbase hfew hline rfl (thn (ho pins s σ H _ I h) fun v s1 ⟨x,H1,I1,r1,ty,q1⟩=>?_)
 obtain⟨h1,h2⟩:=tyV_is I1 r1 ty
 refine⟨T,id,pa,slot,hty,h1,h2,?_⟩
 have hA:=ha cpos pins s1 σ H1 _ I1 q1
 rw[hs]at hA ⊢
 refine Calls.callWith_builtin (by show(false || (backTo cpos (starEach es X.env)).any (·.1))=false;rw[hplain]<;>rfl) (Calls.evalArgs_plain ?_)
 exact thn hA fun us s2 ⟨vs,H2,I2,r2,q2⟩=>hm pins s2 σ H2 x vs v us Q I2 r1 r2 q2
end
end L2
namespace L2
open PySem PySem.Spec PyProof.Rows
noncomputable def MtM (X:Cx) (id:String) (r:V→List V→Hp→VK→Prop):Prop :=
 ∀(pins:List (Addr×Obj)) (s:Shared) (σ:St) (H:Hp) (x:V) (xs:List V) (v:Value) (us:List Value) (Q:VK),Inv X pins σ H s→RelV x v→Vals xs us→r x xs H Q →
  wpAny (model X.prog X.w) X.A (call (.builtin id) (v::us)) (EP X pins σ Q) X.xe s
theorem Vals.one:∀{x:V} {us:List Value},Vals [x] us→∃u,us=[u]∧RelV x u
 | _,_,.cons r .nil=>⟨_,rfl,r⟩
theorem Vals.zero:∀{us:List Value},Vals [] us→us=[]
 | _,.nil=>rfl
theorem Vals.dropLast {xs:List V} {us:List Value} (h:Vals xs us):Vals xs.dropLast us.dropLast:=by
 induction h with
 | nil=>exact .nil
 | cons r t ih =>
  cases t with
  | nil=>exact .nil
  | cons q t'=>exact .cons r ih
theorem Vals.eraseIdx:∀{xs:List V} {us:List Value} (i:Nat),Vals xs us→Vals (xs.eraseIdx i) (us.eraseIdx i)
 | _,_,_,.nil=>.nil
 | _,_,0,.cons _ t=>t
 | _,_,i+1,.cons r t=>.cons r (Vals.eraseIdx i t)
theorem Vals.reverse {xs:List V} {us:List Value} (h:Vals xs us):Vals xs.reverse us.reverse:=by
 induction h with
 | nil=>exact .nil
 | cons r t ih=>rw[List.reverse_cons,List.reverse_cons];exact Vals.append ih (.cons r .nil)
theorem Vals.rep {xs:List V} {us:List Value} (h:Vals xs us):∀k:Nat,Vals (List.replicate k xs).flatten (List.replicate k us).flatten
 | 0=>.nil
 | k+1=>by
  rw[List.replicate_succ,List.replicate_succ,List.flatten_cons,List.flatten_cons]
  exact Vals.append h (Vals.rep h k)
theorem erase_last {α:Type} (l:List α):l.eraseIdx (l.length-1)=l.dropLast:=by
 induction l with
 | nil=>rfl
 | cons a r ih =>
  cases r with
  | nil=>rfl
  | cons b r =>
   have e:(a::b::r).length-1=((b::r).length-1)+1:=by
    have h1:(a::b::r).length=r.length+2:=rfl
    have h2:(b::r).length=r.length+1:=rfl
    lia
   rw[e,List.eraseIdx_cons_succ,ih]
   all_goals rfl
theorem len_erase {α:Type}:∀(l:List α) (i:Nat),(l.eraseIdx i).length≤l.length
 | [],_=>Nat.le_refl _
 | _::_,0=>Nat.le_succ _
 | _::r,i+1=>Nat.succ_le_succ (len_erase r i)
theorem foldl_rep (its:List Value):∀(k:Nat) (acc:List Value),
  List.foldl (fun x1 x2=>x1++x2) acc.toArray (List.replicate k its.toArray)=(acc++(List.replicate k its).flatten).toArray
 | 0,acc=>by simp
 | k+1,acc=>by
  have e:acc.toArray++its.toArray=(acc++its).toArray:=by simp
  have e2:(acc++its)++(List.replicate k its).flatten=acc++(List.replicate (k+1) its).flatten:=by
   rw[List.replicate_succ,List.flatten_cons,List.append_assoc]
  rw[←e2,←foldl_rep its k (acc++its),←e,List.replicate_succ,List.foldl_cons]
section
variable {X : Cx} {pins : List (Addr × Obj)} {σ : St} {H : Hp} {s : Shared} {l b : Addr} {xs ys zs : List V}
theorem Inv.lset {its its':List Value} {n:Nat} {f:Array Value→Array Value} {t':Nat} (I:Inv X pins σ H s) (hH:H l=some (.lst xs))
  (e:s.heap.get? l=some {cls:=.type "list",data:=.seq its.toArray n}) (hf:f its.toArray=its'.toArray) (hv:Vals ys its') (hz:ys.length≤sizeLine) :
  Inv X pins σ (upd H l (.lst ys)) {s with heap:=s.heap.update l (Obj.mapSeq f),toks:=t'}:=by
 have q:=PySem.IsL.update e f
 rw[hf]at q
 refine I.write (x:=l) (e:=l) (by rw[hH];exact trivial) (.inl rfl) (fun b' u hb hu=>(Heap.get?_update_other s.heap (Obj.mapSeq f) (Ne.symm hb)).trans hu) ⟨_,q⟩ ?_
 exact⟨hz,its',_,hv,q⟩
theorem Inv.lnew {its:List Value} {t':Nat} (I:Inv X pins σ H s) (hv:Vals ys its) (hz:ys.length≤sizeLine) :
  Inv X pins σ (upd H s.heap.objs.size (.lst ys)) {s with heap:=s.heap.push {cls:=.type "list",data:=.seq its.toArray},toks:=t'} :=
 I.laid (fun _ _ q=>Heap.get?_push_of_some _ q) (Nat.le_refl _) ⟨hz,its,0,hv,Heap.get?_push_size _ rfl⟩
theorem Inv.fresh (I:Inv X pins σ H s):H s.heap.objs.size=none:=I.hok.fresh (Nat.le_refl _)
theorem Inv.lstM (I:Inv X pins σ H s) (hH:H l=some (.lst xs)):xs.length≤sizeLine∧∃(its:List Value) (n:Nat),Vals xs its∧xs.length=its.length∧s.heap.get? l=some {cls:=.type "list",data:=.seq its.toArray n}:=by
 obtain⟨z,its,n,r,e⟩:=I.hok l _ hH
 exact⟨z,its,n,r,r.length,e⟩
theorem notLongL {n:Nat} (h:n≤sizeLine):Builtin.List.listTooLong n=false:=by
 unfold Builtin.List.listTooLong
 exact decide_eq_false (by lia)
end
section
variable {X : Cx}
noncomputable def rAppend:V→List V→Hp→VK→Prop:=fun x vs H Q=>∃l xs y,x=.ref l∧vs=[y]∧H l=some (.lst xs)∧xs.length<sizeLine∧Q .non (upd H l (.lst (xs++[y])))
theorem mt_append:MtM X "list.append" rAppend:=by
 intro pins s σ H x vs v us Q I rx rv h
 obtain⟨l,xs,y,rfl,rfl,hH,hz,q⟩:=h
 cases rx
 obtain⟨u,rfl,ru⟩:=rv.one
 obtain⟨z,its,n,r,hl,e⟩:=I.lstM hH
 refine call_meets F.slot_list_append ⟨_,e,rfl⟩ F.entry_list_append (F.args_list_append_2 _ _) (PySem.list_append l its.toArray n u (by rw[List.size_toArray];lia)) ⟨e,?_⟩
 refine⟨.non,_,I.lset (its':=its++[u]) hH e (by simp) (r.append (.cons ru .nil)) ?_,rfl,q⟩
 rw[List.length_append,List.length_singleton]
 lia
noncomputable def rPop:V→List V→Hp→VK→Prop:=fun x vs H Q=>∃l xs y,x=.ref l∧vs=[]∧H l=some (.lst xs)∧xs[xs.length-1]? = some y∧Q y (upd H l (.lst xs.dropLast))
theorem mt_pop:MtM X "list.pop" rPop:=by
 intro pins s σ H x vs v us Q I rx rv h
 obtain⟨l,xs,y,rfl,rfl,hH,hy,q⟩:=h
 cases rx
 have hus:=rv.zero
 subst hus
 obtain⟨z,its,n,r,hl,e⟩:=I.lstM hH
 obtain⟨u,hu,ru⟩:=r.get hy
 have hy':its.toArray[its.toArray.size-1]? = some u:=by
  show its.toArray[its.length-1]? = some u
  rw[←Array.getElem?_toList,←hl]
  exact hu
 refine call_meets F.slot_list_pop ⟨_,e,rfl⟩ F.entry_list_pop (F.args_list_pop_1 _) (MeetsSeq.list_pop_last l its.toArray n u hy' (by rw[List.size_toArray];lia)) ⟨e,?_⟩
 refine⟨y,_,I.lset (its':=its.dropLast) hH e ?_ r.dropLast ?_,ru,q⟩
 ·show its.toArray.eraseIdxIfInBounds (its.toArray.size-1)=its.dropLast.toArray
  rw[List.size_toArray,List.eraseIdxIfInBounds_toArray,erase_last]
 ·rw[List.length_dropLast]
  lia
noncomputable def rPopAt:V→List V→Hp→VK→Prop:=fun x vs H Q=>∃l xs i k y,x=.ref l∧vs=[.int i]∧H l=some (.lst xs) ∧ -(2 ^ 63)≤i∧i<2 ^ 63∧seqIndex? i xs.length=some k∧xs[k]? = some y∧Q y (upd H l (.lst (xs.eraseIdx k)))
theorem mt_popAt:MtM X "list.pop" rPopAt:=by
 intro pins s σ H x vs v us Q I rx rv h
 obtain⟨l,xs,i,k,y,rfl,rfl,hH,h1,h2,hk,hy,q⟩:=h
 cases rx
 obtain⟨u,rfl,ru⟩:=rv.one
 obtain⟨t,rfl⟩:=ru
 obtain⟨z,its,n,r,hl,e⟩:=I.lstM hH
 obtain⟨w,hw,rw'⟩:=r.get hy
 refine call_meets F.slot_list_pop ⟨_,e,rfl⟩ F.entry_list_pop (F.args_list_pop_2 _ _)
  (MeetsSeq.list_pop_at l its.toArray n i t k w (fitsIndex_both h1 h2) (by rw[List.size_toArray,←hl];exact hk) (by rw[←Array.getElem?_toList];exact hw) (by rw[List.size_toArray];lia)) ⟨e,?_⟩
 refine⟨y,_,I.lset (its':=its.eraseIdx k) hH e ?_ (r.eraseIdx k) ?_,rw',q⟩
 ·show its.toArray.eraseIdxIfInBounds k=(its.eraseIdx k).toArray
  rw[List.eraseIdxIfInBounds_toArray]
 ·have:=len_erase xs k
  lia
noncomputable def rCat:R2:=fun x y H Q=>∃l b xs zs,x=.ref l∧y=.ref b∧H l=some (.lst xs)∧H b=some (.lst zs)∧xs.length+zs.length≤sizeLine∧∀p,H p=none→Q (.ref p) (upd H p (.lst (xs++zs)))
theorem op_cat:OpR X (binaryOp .Add) rCat:=by
 intro pins s σ H x y v u Q I rx ry h
 obtain⟨l,b,xs,zs,rfl,rfl,hH,hB,hz,q⟩:=h
 cases rx
 cases ry
 obtain⟨z,its,n,r,hl,e⟩:=I.lstM hH
 obtain⟨z2,its2,n2,r2,hl2,e2⟩:=I.lstM hB
 refine PySem.P.add_list e e2 ?_ (by rw[List.size_toArray,List.size_toArray];lia)
 have ea:its.toArray++its2.toArray=(its++its2).toArray:=by simp
 rw[ea]
 exact⟨.ref _,_,I.lnew (t':=s.toks) (r.append r2) (by rw[List.length_append];lia),rfl,q _ I.fresh⟩
theorem len_rep {α:Type} (xs:List α) (k:Nat):(List.replicate k xs).flatten.length=k*xs.length:=by
 induction k with
 | zero=>simp
 | succ k ih=>rw[List.replicate_succ,List.flatten_cons,List.length_append,ih,Nat.succ_mul,Nat.add_comm]
end
end L2
namespace L2
open PySem PySem.Spec PyProof.Rows
section
variable {κ : Type} [DecidableEq κ]
noncomputable def valV (kvs:List (κ×V)) (k:κ):Option V:=(kvs.find? fun kv=>decide (kv.1=k)).map (·.2)
noncomputable def putK (kvs:List (κ×V)) (k:κ) (v:V):List (κ×V) :=
 if(kvs.any fun kv=>decide (kv.1=k))=true then kvs.map (fun kv=>if kv.1=k then(kv.1,v)else kv)else kvs++[(k,v)]
theorem valV_pos {p:κ×V} {r:List (κ×V)} {k:κ} (e:p.1=k):valV (p::r) k=some p.2:=by simp[valV,List.find?_cons,e]
theorem valV_neg {p:κ×V} {r:List (κ×V)} {k:κ} (e:¬p.1=k):valV (p::r) k=valV r k:=by simp[valV,List.find?_cons,e]
theorem valV_any (k:κ):∀kvs:List (κ×V),(kvs.any fun kv=>decide (kv.1=k))=(valV kvs k).isSome
 | []=>rfl
 | p::r=>by
  rw[List.any_cons]
  by_cases e:p.1=k
  ·simp only[valV_pos e,decide_eq_true e,Bool.true_or,Option.isSome_some]
  ·rw[valV_neg e,decide_eq_false e,Bool.false_or];exact valV_any k r
theorem length_putK (kvs:List (κ×V)) (k:κ) (v:V):(putK kvs k v).length≤kvs.length+1:=by
 unfold putK
 split
 ·rw[List.length_map];lia
 ·rw[List.length_append,List.length_cons,List.length_nil];lia
theorem RelO.isSome_eq {o:Option V} {u:Option Value} (r:RelO o u):o.isSome=u.isSome:=by
 cases o with
 | none=>cases u with
  | none=>rfl
  | some _=>exact(show False from r).elim
 | some _=>cases u with
  | none=>exact(show False from r).elim
  | some _=>rfl
theorem KV.val {kvs:List (κ×V)} {vs:List (κ×Value)} (r:KV kvs vs) (k:κ):RelO (valV kvs k) (valueAt vs k):=by
 unfold KV at r
 induction r with
 | nil=>exact True.intro
 | @cons p q ps qs h t ih =>
  obtain⟨h1,h2⟩:=h
  by_cases e:p.1=k
  ·have e':q.1=k:=h1.symm.trans e
   have b:valueAt (q::qs) k=some q.2:=by simp[valueAt,List.find?_cons,e']
   rw[valV_pos e,b];exact h2
  ·have e':¬q.1=k:=fun z=>e (h1.trans z)
   have b:valueAt (q::qs) k=valueAt qs k:=by simp[valueAt,List.find?_cons,e']
   rw[valV_neg e,b];exact ih
theorem KV.any {kvs:List (κ×V)} {vs:List (κ×Value)} (r:KV kvs vs) (k:κ):(kvs.any fun kv=>decide (kv.1=k))=vs.any fun kv=>decide (kv.1=k):=by
 unfold KV at r
 induction r with
 | nil=>rfl
 | cons h t ih=>rw[List.any_cons,List.any_cons,ih,h.1]
theorem KV.repl {kvs:List (κ×V)} {vs:List (κ×Value)} (r:KV kvs vs) (k:κ) {y:V} {u:Value} (ry:RelV y u) :
  KV (kvs.map fun kv=>if kv.1=k then(kv.1,y)else kv) (vs.map fun kv=>if kv.1=k then(kv.1,u)else kv):=by
 unfold KV at r ⊢
 induction r with
 | nil=>exact .nil
 | @cons p q ps qs h t ih =>
  rw[List.map_cons,List.map_cons]
  refine .cons ?_ ih
  obtain⟨h1,h2⟩:=h
  by_cases e:p.1=k
  ·rw[if_pos e,if_pos (h1.symm.trans e)];exact⟨h1,ry⟩
  ·rw[if_neg e,if_neg (fun z=>e (h1.trans z))];exact⟨h1,h2⟩
theorem KV.put {kvs:List (κ×V)} {vs:List (κ×Value)} (r:KV kvs vs) (k:κ) {y:V} {u:Value} (ry:RelV y u):KV (putK kvs k y) (stored vs k u):=by
 unfold putK stored
 rw[r.any k]
 by_cases e:(vs.any fun kv=>decide (kv.1=k))=true
 ·rw[if_pos e,if_pos e];exact r.repl k ry
 ·rw[if_neg e,if_neg e];exact Paired.snoc r ⟨rfl,ry⟩
theorem KV.length {kvs:List (κ×V)} {vs:List (κ×Value)} (r:KV kvs vs):kvs.length=vs.length:=Paired.length r
end
theorem kV_is {P:Program} {w:World} {k:Key} {u:Value} (r:RelV (kV k) u):(mixKind P w).is k u=true:=by
 cases k with
 | inl i=>obtain⟨t,e⟩:=(show ∃t,u=Value.int i t from r);subst e;exact mixKind_int P w i t
 | inr x=>obtain⟨t,e⟩:=(show ∃t,u=Value.str x t from r);subst e;exact mixKind_str P w x t
theorem items_are {P:Program} {w:World}:∀{ks:List Key} {us:List Value},Vals (ks.map kV) us→ItemsAre (mixKind P w) ks us
 | [],_,r=>by rw[List.map_nil]at r;cases r;exact .nil
 | k::ks,_,r=>by
  rw[List.map_cons]at r
  cases r with
  | cons h t=>exact .cons (kV_is h) (items_are t)
noncomputable abbrev KT (H:Hp):List (List Key×V)→List (List Key×Addr×Value)→Prop:=Paired fun p q=>p.1=q.1∧H q.2.1=some (.tup (p.1.map kV))∧RelV p.2 q.2.2
theorem KT.val {H:Hp} {kvs:List (List Key×V)} {xs:List (List Key×Addr×Value)} (r:KT H kvs xs) (k:List Key):RelO (valV kvs k) ((atKey xs k).map (·.2)):=by
 induction r with
 | nil=>exact True.intro
 | @cons p q ps qs h t ih =>
  obtain⟨h1,_,h2⟩:=h
  by_cases e:p.1=k
  ·have e':q.1=k:=h1.symm.trans e
   have b:atKey (q::qs) k=some q.2:=by simp[atKey,List.find?_cons,e']
   rw[valV_pos e,b];exact h2
  ·have e':¬q.1=k:=fun z=>e (h1.trans z)
   have b:atKey (q::qs) k=atKey qs k:=by simp[atKey,List.find?_cons,e']
   rw[valV_neg e,b];exact ih
theorem KT.repl {H:Hp} {kvs:List (List Key×V)} {xs:List (List Key×Addr×Value)} (r:KT H kvs xs) (k:List Key) {y:V} {u:Value} (ry:RelV y u) :
  KT H (kvs.map fun kv=>if kv.1=k then(kv.1,y)else kv) (xs.map (putAt k u)):=by
 induction r with
 | nil=>exact .nil
 | @cons p q ps qs h t ih =>
  rw[List.map_cons,List.map_cons]
  refine .cons ?_ ih
  obtain⟨h1,h2,h3⟩:=h
  unfold putAt
  by_cases e:p.1=k
  ·rw[if_pos e,if_pos (h1.symm.trans e)];exact⟨h1,h2,ry⟩
  ·rw[if_neg e,if_neg (fun z=>e (h1.trans z))];exact⟨h1,h2,h3⟩
theorem KT.put {H:Hp} {kvs:List (List Key×V)} {xs:List (List Key×Addr×Value)} (r:KT H kvs xs) (k:List Key) {b:Addr} {y:V} {u:Value} (hb:H b=some (.tup (k.map kV))) (ry:RelV y u) :
  KT H (putK kvs k y) (storedH xs k b u):=by
 have e:(kvs.any fun kv=>decide (kv.1=k))=(atKey xs k).isSome:=by
  rw[valV_any,(r.val k).isSome_eq,Option.isSome_map]
 unfold putK storedH
 rw[e]
 by_cases q:(atKey xs k).isSome=true
 ·rw[if_pos q,if_pos q];exact r.repl k ry
 ·rw[if_neg q,if_neg q];exact Paired.snoc r ⟨rfl,hb,ry⟩
theorem KT.keeps {H H':Hp} {kvs:List (List Key×V)} {xs:List (List Key×Addr×Value)} (r:KT H kvs xs) (ht:∀b ys,H b=some (.tup ys)→H' b=some (.tup ys)):KT H' kvs xs :=
 Paired.mapP r fun _ _ z=>⟨z.1,ht _ _ z.2.1,z.2.2⟩
section
variable {P : Program} {w : World} {H : Hp} {h : Heap} {a : Addr}
theorem rd_of {u:HO} (ok:HOk P w H h) (e:Rd H a u):ObjOk P w H h a u:=e.ok ok
theorem dk_rd {kvs:List (Key×V)} (ok:HOk P w H h) (e:Rd H a (.dK kvs)):kvs.length≤sizeLine∧(a==sysModules)=false∧∃vs,KV kvs vs∧h.DictOf (mixKind P w) a vs :=
 show ObjOk P w H h a (.dK kvs)from rd_of ok e
theorem dk_of {kvs:List (Key×V)} (ok:HOk P w H h) (e:H a=some (.dK kvs)):kvs.length≤sizeLine∧(a==sysModules)=false∧∃vs,KV kvs vs∧h.DictOf (mixKind P w) a vs:=dk_rd ok (.inl e)
theorem key_of {ks:List Key} (ok:HOk P w H h) (e:H a=some (.tup (ks.map kV))):(tupleKind (mixKind P w)).is h ks a:=by
 obtain⟨_,its,r,o,h1,h2,_,n,h3⟩:=(show ObjOk P w H h a (.tup (ks.map kV))from ok a _ e)
 exact⟨o,its.toArray,n,h1,h2,h3,by simpa using items_are r⟩
theorem dt_rd {kvs:List (List Key×V)} (ok:HOk P w H h) (e:Rd H a (.dT kvs)):kvs.length≤sizeLine∧(a==sysModules)=false ∧
  ∃xs,KT H kvs xs∧h.DictOfH (tupleKind (mixKind P w)) a xs:=by
 obtain⟨z,y,xs,r,o,es,ep,h1,h2,h3,h4,h5⟩:=(show ObjOk P w H h a (.dT kvs)from rd_of ok e)
 refine⟨z,y,xs,r,o,es,ep,h1,h2,h3,h4,fun x hx=>?_,h5⟩
 have all:∀{l:List (List Key×V)} {m:List (List Key×Addr×Value)},KT H l m→∀x∈m,(tupleKind (mixKind P w)).is h x.1 x.2.1:=by
  intro l m q
  induction q with
  | nil=>intro x hx;exact nomatch hx
  | @cons p q ps qs hq t ih =>
   intro x hx
   rcases List.mem_cons.mp hx with e | hx
   ·subst e
    exact key_of ok (by rw[←hq.1];exact hq.2.1)
   ·exact ih x hx
 exact all r x hx
theorem dt_of {kvs:List (List Key×V)} (ok:HOk P w H h) (e:H a=some (.dT kvs)):kvs.length≤sizeLine∧(a==sysModules)=false ∧
  ∃xs,KT H kvs xs∧h.DictOfH (tupleKind (mixKind P w)) a xs:=dt_rd ok (.inl e)
end
noncomputable def DGet (H:Hp) (a:Addr) (y:V) (r:Option V):Prop :=
 (∃kvs k,Rd H a (.dK kvs)∧y=kV k∧r=valV kvs k)∨∃kvs k b,Rd H a (.dT kvs)∧y=.ref b∧H b=some (.tup (k.map kV))∧r=valV kvs k
noncomputable def DPut (H:Hp) (a:Addr) (y v:V) (H':Hp):Prop :=
 (∃kvs k,H a=some (.dK kvs)∧y=kV k∧kvs.length<sizeLine∧H'=upd H a (.dK (putK kvs k v))) ∨
 ∃kvs k b,H a=some (.dT kvs)∧y=.ref b∧H b=some (.tup (k.map kV))∧kvs.length<sizeLine∧H'=upd H a (.dT (putK kvs k v))
theorem DGet.k {H:Hp} {a:Addr} {kvs:List (Key×V)} {k:Key} (e:H a=some (.dK kvs)):DGet H a (kV k) (valV kvs k):=.inl ⟨kvs,k,.inl e,rfl,rfl⟩
theorem DPut.k {H:Hp} {a:Addr} {kvs:List (Key×V)} {k:Key} {v:V} (e:H a=some (.dK kvs)) (hl:kvs.length<sizeLine):DPut H a (kV k) v (upd H a (.dK (putK kvs k v))):=.inl ⟨kvs,k,e,rfl,hl,rfl⟩
section
variable {X : Cx} {pins : List (Addr × Obj)} {σ : St} {H : Hp} {s : Shared} {a : Addr} {y v : V} {u r : Value} {o : Option V} {A : Around} {E : Value → Shared → Prop}
theorem d_in {Q:Value→Shared→Prop} (hu:A.units+1<cLine) (I:Inv X pins σ H s) (g:DGet H a y o) (ry:RelV y u) (h:∀s',Inv X pins σ H s'→Q (.bool o.isSome) s') :
  wpAny (model X.prog X.w) A (compareOp .In u (.ref a)) Q E s:=by
 rcases g with⟨kvs,k,e,ey,l⟩ | ⟨kvs,k,b,e,ey,eb,l⟩
 ·subst ey
  obtain⟨z,hd,vs,rel,dd⟩:=dk_rd I.hok e
  refine wpAny_in_of (kV_is ry) hd dd.mapOf ?_
  rw[←(rel.val k).isSome_eq,←l]
  exact h _ (I.tok _)
 ·subst ey
  cases(show u=Value.ref b from ry)
  obtain⟨z,hd,xs,rel,dd⟩:=dt_rd I.hok e
  refine wpAny_in_heap (tupleKind_room_in1 hu) (key_of I.hok eb) hd dd ?_
  have q:=(rel.val k).isSome_eq
  rw[Option.isSome_map]at q
  rw[←q,←l]
  exact h _ (I.tok _)
theorem d_notIn {Q:Value→Shared→Prop} (hu:A.units+1<cLine) (I:Inv X pins σ H s) (g:DGet H a y o) (ry:RelV y u) (h:∀s',Inv X pins σ H s'→Q (.bool (!o.isSome)) s') :
  wpAny (model X.prog X.w) A (compareOp .NotIn u (.ref a)) Q E s:=by
 rcases g with⟨kvs,k,e,ey,l⟩ | ⟨kvs,k,b,e,ey,eb,l⟩
 ·subst ey
  obtain⟨z,hd,vs,rel,dd⟩:=dk_rd I.hok e
  refine wpAny_notIn_of (kV_is ry) hd dd.mapOf ?_
  rw[←(rel.val k).isSome_eq,←l]
  exact h _ (I.tok _)
 ·subst ey
  cases(show u=Value.ref b from ry)
  obtain⟨z,hd,xs,rel,dd⟩:=dt_rd I.hok e
  refine wpAny_notIn_heap (tupleKind_room_in1 hu) (key_of I.hok eb) hd dd ?_
  have q:=(rel.val k).isSome_eq
  rw[Option.isSome_map]at q
  rw[←q,←l]
  exact h _ (I.tok _)
theorem d_write {h':Heap} {t':Nat} {ob:HO} (I:Inv X pins σ H s) (mu:Mut (H a)) (hs:Heap.SameBut a s.heap h') (he:∃q,h'.get? a=some q) (new:ObjOk X.prog X.w (upd H a ob) h' a ob) :
  Inv X pins σ (upd H a ob) {s with heap:=h',toks:=t'} :=
 I.write (x:=a) (e:=a) mu (.inl rfl) (fun b q hb z=>(hs.2 b hb).trans z) he new
theorem dk_new {P:Program} {w:World} {H':Hp} {h':Heap} {kvs:List (Key×V)} {vs:List (Key×Value)} (z:kvs.length≤sizeLine) (hd:(a==sysModules)=false) (rel:KV kvs vs) (dd:h'.DictOf (mixKind P w) a vs) :
  ObjOk P w H' h' a (.dK kvs):=⟨z,hd,vs,rel,dd⟩
theorem d_setItem {H':Hp} {Q:Unit→Shared→Prop} (hu:A.units+1<cLine) (I:Inv X pins σ H s) (g:DPut H a y v H') (ry:RelV y u) (rv:RelV v r) (h:∀s',Inv X pins σ H' s'→Q () s') :
  wpAny (model X.prog X.w) A (setItem (.ref a) u r) Q E s:=by
 rcases g with⟨kvs,k,e,ey,l,eH⟩ | ⟨kvs,k,b,e,ey,eb,l,eH⟩
 ·subst ey eH
  obtain⟨z,hd,vs,rel,dd⟩:=dk_of I.hok e
  have hz:vs.length≤sizeLine:=by rw[←rel.length];exact z
  have hl:(putK kvs k v).length≤sizeLine:=by have:=length_putK kvs k v;lia
  refine wpAny_setItem_pairs (hsz:=hz) (kV_is ry) dd fun h' dd' hs=>h _ ?_
  have he:∃q,h'.get? a=some q:=let ⟨q,_,_,hq,_⟩:=dd';⟨q,hq⟩
  exact d_write I (by rw[e];exact True.intro) hs he (dk_new hl hd (rel.put k rv) dd')
 ·subst ey eH
  cases(show u=Value.ref b from ry)
  obtain⟨z,hd,xs,rel,dd⟩:=dt_of I.hok e
  have hz:xs.length≤sizeLine:=by rw[←Paired.length rel];exact z
  have hl:(putK kvs k v).length≤sizeLine:=by have:=length_putK kvs k v;lia
  refine wpAny_setItem_heap (hsz:=hz) (tupleKind_room_in1 hu) (key_of I.hok eb) dd fun h' dd' hs=>h _ ?_
  obtain⟨q,es,ep,hq,h2,h3,h4,_,h5⟩:=dd'
  refine d_write I (by rw[e];exact True.intro) hs ⟨q,hq⟩ ⟨hl,hd,_,(rel.put k eb rv).keeps fun c ys ec=>?_,q,es,ep,hq,h2,h3,h4,h5⟩
  rw[upd_ne (ne_of ec e (fun z=>nomatch z))]
  exact ec
end
noncomputable def IsD (H:Hp) (a:Addr):Prop:=(∃kvs,Rd H a (.dK kvs))∨∃kvs,Rd H a (.dT kvs)
end L2
namespace Att
open PySem PySem.W PySem.Calls PyProof.Rows
theorem ints_of_wellAll {P:Params} {h:Heap}:∀(ns:List Int) (vs:List Value),WellAll P h vs (ns.map WData.int)→IntsAre vs ns:=by
 intro ns
 induction ns with
 | nil =>
  intro vs w
  rw[List.map_nil]at w
  cases w
  exact .nil
 | cons n ns ih =>
  intro vs w
  rw[List.map_cons]at w
  cases w with
  | cons a b =>
   cases a
   exact .cons _ _ (ih _ b)
theorem script_of {l:OpenLaw} {n:Nat} (hn:l.most=some n) {P:Params} {h:Heap} {args:List WData} {vals:List Value}
  (hpre:l.row.toRowW.claim.pre args=true) (hwl:WellAll P h vals args) :
  ∃a vs ns,vals=[Value.ref a]∧args=[WData.list (ns.map WData.int)]∧h.get? a=some {cls:=.type "list",data:=.seq vs.toArray}∧IntsAre vs ns∧ns.length≤n:=by
 have hsh:WShape.hasAll [] args [.list .int]=true:=(pre_splitW hpre).1
 have hc:l.pre.holds [] {args:=args}=true:=(pre_splitW hpre).2
 obtain⟨d,r,rfl,h1,h2⟩:=hasAllW_cons hsh
 obtain rfl:=hasAllW_nil h2
 obtain⟨xs,rfl,h3⟩:=hasW_list h1
 obtain⟨ns,rfl⟩:=items_int h3
 have hlen:ns.length≤n:=by
  unfold OpenLaw.pre at hc
  have h4:(WTm.not (.lt (.lit (.int (n:Int))) (.len (.arg 0)))).holds [] {args:=[.list (ns.map .int)]}=true:=by
   have h4:=(holds_andW hc).1
   rw[hn]at h4
   exact h4
  have h5:=condW_of h4 (w_not (w_lt w_lit (w_len_list (w_arg rfl))))
  rw[List.length_map]at h5
  refine Nat.le_of_not_lt fun q=>?_
  have q':(n:Int)<((ns.length:Nat):Int):=by lia
  first
   | (rw[decide_eq_true q']at h5;exact absurd h5 (by decide))
   | (simp at h5;lia)
 cases hwl with
 | cons w1 w2 =>
  cases w2
  cases w1 with
  | list ho hall=>exact⟨_,_,ns,rfl,rfl,ho,ints_of_wellAll ns _ hall,hlen⟩
theorem post_true (l:OpenLaw) (args:List WData):l.row.toRowW.claim.post args (.bool true) args=true :=
 postW_of (r:=l.row.toRowW) (X:=(true==true))
  (show WShape.has [] (.bool true) .bool=true by first | rfl | decide | simp[WShape.has,WShape.arms,WShape.armsAll])
  (show(WTm.eq .res (.lit (.bool true))).value [] {args:=args,res:=some (.bool true),after:=args}=some (.bool (true==true))from w_eq_bool (w_res rfl) w_lit) rfl
theorem attach_call {l:OpenLaw} {n:Nat} {q:Program} {loose:List Str} {XP:(Str→Option Value)→Heap→Prop} {YP:World→Heap→Prop} {d:DefRec}
  (hn:l.most=some n) (hdf:d.params.defaults=[])
  (call:∀(w:World) (s₀ s₁:Shared) (mg mb:Str→Option Value) (fa:Addr) (o:Obj) (pm cd doc:Value) (a:Addr) (vs:List Value) (ns:List Int),
   Ground q loose [] XP w s₀ mg mb s₁.heap→YP w s₁.heap →
   s₁.heap.get? fa=some o→o.data=.func (docDef d.name d.params d.body d.scope pm cd doc)→s₁.heap.CodeRec cd d.name→mg d.name=some (.ref fa) →
   s₁.heap.get? a=some {cls:=.type "list",data:=.seq vs.toArray}→IntsAre vs ns→ns.length≤n→s₁.gens=#[] →
   codeAny (model l.prog w) callerA (.call (.ref fa) ⟨[.ref a],[]⟩) (fun r s'=>r=.ok (.ret (.bool true))∧OldK s₁.heap s'.heap∧s'.os=s₁.os∧AllBare s'.gens) s₁) :
  WalkO q loose XP YP l.row.toRowW d [] (fun f vs=>PySem.call f vs):=by
 intro w s₀ s₁ mg mb G Y fa o pm cd doc dV kV ho hd hcd hD hmg hg args vals as hpre hlay hrd hwl hlo
 obtain rfl:dV=.none:=Dflts.none hD hdf
 obtain rfl:kV=.none:=Dflts.noKw hD
 obtain⟨a,vs,ns,rfl,rfl,hobj,hints,hlen⟩:=script_of hn hpre hwl
 refine enter_call (codeAny_mono (call w s₀ s₁ mg mb fa o pm cd doc a vs ns G Y ho (fd_plain hd) hcd hmg hobj hints hlen hg) fun r s' hq=>?_)
 obtain⟨rfl,h2,h3,h4⟩:=hq
 exact⟨.inl ⟨.bool true,.bool true,[],rfl,fun _=>rfl,.bool true,post_true l _,fun _=>⟨List.Pairwise.nil,fun _ hm=>(nomatch hm)⟩⟩,h2,h3,h4⟩
end Att
namespace L2
open PySem PySem.Spec PyProof.Rows
noncomputable def FzL (K:PySem.W.Frag) (H:Hp) (a:Addr) (xs:List V):Prop :=
 (∃o,H a=some (.frz o (.lst xs))) ∨
  ∃(its:List Value) (n:Nat),K.lookup a=some {cls:=.type "list",data:=.seq its.toArray n}∧xs.length≤sizeLine∧Vals xs its
theorem vals_ints:∀{vs:List Value} {ns:List Int},IntsAre vs ns→Vals (ns.map V.int) vs
 | _,_,.nil=>.nil
 | _,_,.cons n t h=>.cons ⟨t,rfl⟩ (vals_ints h)
noncomputable def Only (H:Hp):Prop:=∀b,H b=none∨∃o xs,H b=some (.frz o (.lst xs))
theorem law_call {P:Program} {w:World} {K:PySem.W.Frag} {mg mb:Str→Option Value} {CX:CXT} {k:Nat} {fa a:Addr} {fd:FuncData} {x:Str} {sp:Sp} {s₁:Shared} {vs:List Value} {ns:List Int}
  (KX:K.In s₁.heap) (hns:s₁.heap.Ns mainGlobals mg) (hb:s₁.heap.Ns builtinsNs mb) (hbb:∀x:Str,x≠"__name__"→mb x=bootBuiltins x) (hlim:s₁.heap.NoLimit) (hg:s₁.gens=#[])
  (ha:s₁.heap.get? a=some {cls:=.type "list",data:=.seq vs.toArray}) (hi:IntsAre vs ns) (hl:ns.length≤sizeLine) (hr:Room k callerA)
  (F:∀base:Heap,K.In base→base.Ns mainGlobals mg→FnOk P w K mg base CX k fa fd [x] sp) (hbind:∀(s:Shared) (u:Value),BindsTo s fd ⟨[u],[]⟩ [(x,u)])
  (hsp:∀H:Hp,Only H→FzL K H a (ns.map V.int)→sp [.ref a] H (fun v _=>v=.bl true) fun _ _ _=>False)
  (hCX:∀H e s',CX [] H s₁ (fun _ _ _=>False) e s'→False) :
  codeAny (model P w) callerA (.call (.ref fa) ⟨[.ref a],[]⟩) (fun r s'=>r=.ok (.ret (.bool true))∧OldK s₁.heap s'.heap∧s'.os=s₁.os∧AllBare s'.gens) s₁:=by
 have rv:=vals_ints hi
 have lenV:=hi.length
 -- from an abstract heap in which nothing but the script may be tracked
 have core:∀H:Hp,Only H→FzL K H a (ns.map V.int)→HOk P w H s₁.heap→(∀b,H b≠none→b=a)→(H a≠none→K.lookup a=none) →
   codeAny (model P w) callerA (.call (.ref fa) ⟨[.ref a],[]⟩) (fun r s'=>r=.ok (.ret (.bool true))∧OldK s₁.heap s'.heap∧s'.os=s₁.os∧AllBare s'.gens) s₁:=by
  intro H hO hS hok hA hK
  have base_of:∀{b:Addr} {o:Obj},s₁.heap.get? b=some o→H b=none→(hidT s₁.heap H).get? b=some o:=fun e n=>hidT_get e n
  have noA:∀{b:Addr} {o:Obj} {es:Array DictEntry} {ep:Nat},s₁.heap.get? b=some o→o.data=.dict es ep→H b=none:=fun {b o es ep} e d=>by
   cases q:H b with
   | none=>rfl
   | some u =>
    have e':b=a:=hA b (by rw[q];simp)
    subst e'
    rw[ha]at e;cases e
    have d':Data.seq vs.toArray _=Data.dict es ep:=d
    cases d'
  have nsK:∀{b:Addr} {m:Str→Option Value},s₁.heap.Ns b m→(hidT s₁.heap H).Ns b m:=fun {b m} ⟨o,es,ep,e,d,r⟩=>⟨o,es,ep,base_of e (noA e d),d,r⟩
  have hKb:K.In (hidT s₁.heap H):=fun b o e=>base_of (KX b o e) (by
   cases q:H b with
   | none=>rfl
   | some u =>
    have e':b=a:=hA b (by rw[q];simp)
    subst e'
    rw[hK (by rw[q];simp)]at e;cases e)
  have hM:Mod K mg (hidT s₁.heap H):=⟨hKb,nsK hns,⟨mb,nsK hb,hbb⟩,let ⟨mc,h1,h2⟩:=hlim;⟨mc,nsK h1,h2⟩⟩
  have e0:Env0 P w K mg (hidT s₁.heap H) callerA [] s₁ H:=⟨rfl,hM,fun b o e=>of_hidT e,Nat.le_of_eq (hidT_size _ _),trivial,fun b hb=>absurd (show b∈([]:List Addr)from hb) (by simp),hok,.of_eq hg⟩
  refine codeAny_mono ((F _ hKb (nsK hns)).run callerA [] s₁ H ⟨[.ref a],[]⟩ [.ref a] [.ref a] _ _ hr e0 (hbind s₁ (.ref a)) (.cons rfl .nil) (hsp H hO hS)) fun r s' h=>?_
  cases r with
  | error e=>exact(hCX H e s' h).elim
  | ok fl =>
   cases fl with
   | next=>exact False.elim h
   | brk=>exact False.elim h
   | cont=>exact False.elim h
   | ret u =>
    obtain⟨v,H',os,bare,un,hok',r',q⟩:=h
    have q':v=.bl true:=q
    subst q'
    obtain rfl:u=Value.bool true:=r'
    refine⟨rfl,OldK.of_keep fun b o e=>?_,os,bare⟩
    cases q:H b with
    | none=>exact un.keep b o e q (by intro z;exact absurd (show b∈([]:List Addr)from z) (by simp)) (by simp)
    | some u =>
     rcases hO b with z | ⟨ob,xs,z⟩
     ·rw[q]at z;cases z
     ·have z2:=un.frzs b ob _ z
      obtain⟨e1,_⟩:=hok b _ z
      obtain⟨e2,_⟩:=hok' b _ z2
      rw[e]at e1;cases e1
      exact e2
 cases hk:K.lookup a with
 | some o =>
  -- the script is one of the module's own objects
  have e:=KX a o hk
  rw[ha]at e
  cases e
  refine core (fun _=>none) (fun _=>.inl rfl) (.inr ⟨vs,_,hk,by rw[List.length_map];exact hl,rv⟩) (fun b u z=>by have z':(none:Option HO)=some u:=z;cases z') (fun b z=>absurd rfl z) fun z=>absurd rfl z
 | none =>
  refine core (fun b=>if b=a then some (.frz {cls:=.type "list",data:=.seq vs.toArray} (.lst (ns.map V.int)))else none) (fun b=>?_) (.inl ⟨{cls:=.type "list",data:=.seq vs.toArray},if_pos rfl⟩) (fun b u z=>?_) (fun b z=>?_) fun _=>hk
  ·by_cases hb:b=a
   ·exact .inr ⟨_,_,if_pos hb⟩
   ·exact .inl (if_neg hb)
  ·by_cases hb:b=a
   ·have z':=(if_pos hb).symm.trans z
    cases z'
    subst hb
    exact⟨ha,by rw[List.length_map];exact hl,vs,_,rv,ha⟩
   ·have z':=(if_neg hb).symm.trans z
    cases z'
  ·by_cases hb:b=a
   ·exact hb
   ·exact absurd (if_neg hb) z
end L2
namespace L2
open PySem PySem.Spec PyProof.Rows
noncomputable abbrev KOf {K:PySem.W.Frag} {h:Heap} (_:K.In h):PySem.W.Frag:=K
theorem walk_of {l:PySem.W.OpenLaw} {n k:Nat} {q:Program} {loose:List Str} {XP:(Str→Option Value)→Heap→Prop} {YP:World→Heap→Prop} {d:DefRec} {K:Params→PySem.W.Frag} {CX:World→CXT} {sp:World→Sp} {x:Str}
  (hn:l.most=some n) (hn2:n≤sizeLine) (hdf:d.params.defaults=[]) (hr:Room k callerA)
  (hY:∀(w:World) (h:Heap),YP w h→(K w.params).In h)
  (F:∀(w:World) (mg:Str→Option Value) (fa:Addr) (h:Heap),(K w.params).In h→h.Ns mainGlobals mg→mg d.name=some (.ref fa) →
   ∃fd:FuncData,(∀(s:Shared) (u:Value),BindsTo s fd ⟨[u],[]⟩ [(x,u)]) ∧
    ∀base:Heap,(K w.params).In base→base.Ns mainGlobals mg→FnOk l.prog w (K w.params) mg base (CX w) k fa fd [x] (sp w))
  (hsp:∀(w:World) (H:Hp) (a:Addr) (ns:List Int),ns.length≤n→Only H→FzL (K w.params) H a (ns.map V.int)→sp w [.ref a] H (fun v _=>v=.bl true) fun _ _ _=>False)
  (hCX:∀(w:World) (H:Hp) (s:Shared) (e:Value) (s':Shared),CX w [] H s (fun _ _ _=>False) e s'→False) :
  PySem.W.WalkO q loose XP YP l.row.toRowW d [] (fun f vs=>PySem.call f vs):=by
 refine Att.attach_call hn hdf fun w s₀ s₁ mg mb fa o pm cd doc a vs ns G Y ho hd hcd hmg hobj hints hlen hg=>?_
 have KX:=hY w _ Y
 obtain⟨fd,hb,hF⟩:=F w mg fa _ KX G.T.g hmg
 exact law_call KX G.T.g G.T.b G.T.builtins G.T.nolimit hg hobj hints (Nat.le_trans hlen hn2) hr hF hb (fun H hO hS=>hsp w H a ns hlen hO hS) fun H e s'=>hCX w H s₁ e s'
end L2
namespace L2
open PySem PySem.Spec PyProof.Rows
noncomputable def defArgs (s:Stmt):Arguments:=match s with
 | .FunctionDef _ a _ _ _ _ _ _ _ _=>a
 | _=>{posonlyargs:=[],args:=[],vararg:=none,kwonlyargs:=[],kw_defaults:=[],kwarg:=none,defaults:=[]}
noncomputable def defBody (s:Stmt):List Stmt:=match s with
 | .FunctionDef _ _ b _ _ _ _ _ _ _=>b
 | _=>[]
noncomputable def defScope (s:Stmt):Scope:=match s with
 | .FunctionDef _ _ _ _ _ _ sc _ _ _=>sc
 | _=>{kind:=.function,names:=[],isGenerator:=false,isCoroutine:=false}
noncomputable abbrev CX0:CXT:=fun _ _ _ _ _ _=>False
noncomputable abbrev E0:XK:=fun _ _ _=>False
theorem pass0 {X:Cx}:Passes CX0 X E0:=fun _ _ _ _ _ _ _ h=>h.elim
structure Fun (K:PySem.W.Frag) (x qual:Str) (st:Stmt) (f:Addr) (fd:FuncData):Prop where
 ex:∃(oc:Value) (od:Option Addr) (kV doc pm:Value) (an:Option Addr) (cdv ct:Value) (osl:Array (Option Value)),
  fd=PySem.W.fnOf x qual (defArgs st) (defBody st) (defScope st) .none kV doc pm an cdv ct∧K.lookup f=some ⟨oc,od,.func fd,osl⟩∧PySem.W.codeIn K cdv qual=true
 kp:PySem.W.keepIn K (.ref f)=true
section
variable {P : Program} {w : World} {K : PySem.W.Frag} {mg : Str → Option Value} {base : Heap}
theorem Fun.ok {x qual:Str} {st:Stmt} {f:Addr} {fd:FuncData} {N ps:List Str} {k:Nat} {sp:Sp} (F:Fun K x qual st f fd) (S:FnScope N ps (defScope st)) (len:∀vs H Q E,sp vs H Q E→vs.length=ps.length)
  (hbody:∀(cdv:Value) (A:Around) (outer:List Env) (s:Shared) (H:Hp) (vs:List V) (Q:VK) (E:XK),Room k (A.deeper (envOfC qual (defScope st) s.heap.objs.size f cdv))→sp vs H Q E →
   ∃t,PSs (cxOf CX0 P w K mg base N qual (defScope st) f cdv A outer s H E).nox (defBody st) t∧t {nx:=fun _ H'=>Q .non H',rt:=Q} (start N vs) H):FnOk P w K mg base CX0 (k+1) f fd ps sp:=by
 obtain⟨oc,od,kV,doc,pm,an,cdv,ct,osl,rfl,lk,hcd⟩:=F.ex
 refine fn_of lk hcd S len fun A outer s H vs Q E hr hsp=>?_
 obtain⟨t,h,q⟩:=hbody cdv A outer s H vs Q E hr hsp
 exact⟨t,h.nox,q⟩
theorem fun_mk {x qual:Str} {st:Stmt} {f:Addr} {oc:Value} {od an:Option Addr} {osl:Array (Option Value)} {kV doc pm cdv ct:Value} (l:K.lookup f=some ⟨oc,od,.func (PySem.W.fnOf x qual (defArgs st) (defBody st) (defScope st) .none kV doc pm an cdv ct),osl⟩)
  (c:PySem.W.codeIn K cdv qual=true) (k:PySem.W.keepIn K (.ref f)=true):Fun K x qual st f (PySem.W.fnOf x qual (defArgs st) (defBody st) (defScope st) .none kV doc pm an cdv ct):=⟨⟨oc,od,kV,doc,pm,an,cdv,ct,osl,rfl,l,c⟩,k⟩
end
theorem small1000 {n:Nat} (h:n≤1000):n<sizeLine:=Nat.lt_of_le_of_lt h (by decide)
section
variable {X : Cx}
theorem pv (i:Nat) {x:Str} {pos:Pos} (hN:X.N[i]? = some x:=by rfl) (hv:Vis X.env.scope x:=by first | exact Or.inl rfl | exact Or.inr (Or.inl rfl) | exact Or.inr (Or.inr rfl)) (hd:(x==("__debug__":Str))=false:=by decide)
  (hcd:(x==("__classdict__":Str))=false:=by decide):PE X (.Name x pos) (tVar i):=pe_var hN hv hd hcd
end
end L2
namespace Lp
open PySem
inductive D where
 | non | bl (b:Bool) | int (i:Int) | str (x:Str)
 | tup (ds:List D) | lst (ds:List D) | loc (n:Nat)
 deriving Inhabited
noncomputable def D.pureN:Nat→D→Bool
 | 0,d=>match d with | .tup _=>false | .lst _=>false | .loc _=>false | _=>true
 | k+1,d=>match d with | .tup ds=>ds.all (D.pureN k) | .lst ds=>ds.all (D.pureN k) | .loc _=>false | _=>true
noncomputable abbrev D.pure (d:D):Bool:=D.pureN 8 d
inductive O where
 | l (ds:List D)
 | r (ds:List D)
 | d (kvs:List (D×D))
 | dt (kvs:List (D×D))
 | dead
 deriving Inhabited
noncomputable abbrev Sto:=List O
noncomputable abbrev Sl:=List (Option D)
inductive Res (α:Type) where
 | ok (a:α) (μ:Sto)
 | exc (c:Nat) (ds:List D) (μ:Sto)
 | stuck
namespace Res
variable {α β : Type}
noncomputable def bind (x:Res α) (f:α→Sto→Res β):Res β:=match x with
 | .ok a μ=>f a μ
 | .exc c ds μ=>.exc c ds μ
 | .stuck=>.stuck
@[simp] theorem bind_ok (a:α) (μ:Sto) (f:α→Sto→Res β):(Res.ok a μ).bind f=f a μ:=rfl
@[simp] theorem bind_exc (c:Nat) (ds:List D) (μ:Sto) (f:α→Sto→Res β):(Res.exc c ds μ:Res α).bind f=.exc c ds μ:=rfl
@[simp] theorem bind_stuck (f:α→Sto→Res β):(Res.stuck:Res α).bind f=.stuck:=rfl
theorem bind_assoc {γ:Type} (x:Res α) (f:α→Sto→Res β) (g:β→Sto→Res γ):(x.bind f).bind g=x.bind fun a μ=>(f a μ).bind g:=by
 cases x<;>rfl
end Res
inductive Mk where | z | l | r
 deriving DecidableEq,Inhabited
inductive Bt where
 | len | tuple | list | sum | min | min1 | max | all | any | sorted | sortedSet | int | listRev | listRange | tupleRange
 deriving DecidableEq,Inhabited
inductive Mt where
 | append | pop | extend | extendT | insert | remove | reverse | clear | count | countL | get
 deriving DecidableEq,Inhabited
inductive Cl where
 | int | bool | tuple | list | str | own (c:Nat)
 deriving DecidableEq,Inhabited
inductive Tg where
 | one (i:Nat) | many (is:List Nat)
 deriving DecidableEq,Inhabited
inductive Cp where
 | eq | ne | eqM | neM | lt | le | gt | ge | is | isnot | in_ | notin
 deriving DecidableEq,Inhabited
mutual
inductive Ex where
 | var (i:Nat)
 | frz (i:Nat)
 | cst (d:D)
 | bin (op:Operator) (m:Mk) (a b:Ex)
 | neg (a:Ex)
 | not (a:Ex)
 | and (a b:Ex)
 | or (a b:Ex)
 | ite (c a b:Ex)
 | cmp (a:Ex) (r:Cps)
 | call (keep:Bool) (f:Nat) (es:Exs)
 | blt (b:Bt) (m:Mk) (es:Exs)
 | isi (a:Ex) (c:Cl)
 | meth (mt:Mt) (o:Ex) (es:Exs)
 | ix (a b:Ex)
 | dix (a b:Ex)
 | sl (m:Mk) (a:Ex) (lo hi:ExO)
 | tup (es:Exs)
 | lst (m:Mk) (es:Exs)
 | dic (t:Bool) (es:Exs)
 | inT (neg:Bool) (es:Exs) (d:Ex)
 | comp (m:Mk) (cap:List Nat) (nl:Nat) (tg:Tg) (it:It) (cs:Exs) (elt:Ex)
inductive Exs where
 | nil
 | cons (e:Ex) (es:Exs)
inductive Cps where
 | nil
 | cons (op:Cp) (e:Ex) (r:Cps)
inductive ExO where
 | no
 | so (e:Ex)
inductive It where
 | seq (e:Ex)
 | rng (a:Ex)
 | rng2 (a b:Ex)
 | rng3 (a b c:Ex)
 | zip (a b:Ex)
 | enum (a:Ex)
 | rev (a:Ex)
 | vals (a:Ex)
end
mutual
inductive Sm where
 | set (i:Nat) (e:Ex)
 | unp (is:List Nat) (e:Ex)
 | setx (o i v:Ex)
 | augx (op:Operator) (o i v:Ex)
 | setxT (o:Ex) (i:Exs) (v:Ex)
 | ex (e:Ex)
 | ite (c:Ex) (a b:Sms)
 | loop (tg:Tg) (it:It) (b:Sms)
 | ret (e:Ex)
 | raise (c:Nat) (es:Exs)
 | pass | brk | cont
 | never
inductive Sms where
 | nil
 | cons (s:Sm) (r:Sms)
end
@[irreducible] def lim:Nat:=2 ^ 24
theorem lim_eq:lim=2 ^ 24:=by with_unfolding_all rfl
theorem lim_big:1000000≤lim:=by rw[lim_eq];decide
noncomputable def seqOf (μ:Sto):D→Option (List D)
 | .tup ds=>some ds
 | .lst ds=>some ds
 | .loc n=>match μ[n]? with
  | some (.l ds)=>some ds
  | some (.r ds)=>some ds
  | _=>none
 | _=>none
noncomputable def listOf (μ:Sto):D→Option (List D)
 | .lst ds=>some ds
 | .loc n=>match μ[n]? with
  | some (.l ds)=>some ds
  | some (.r ds)=>some ds
  | _=>none
 | _=>none
noncomputable def onSome {α β:Type} (o:Option α) (k:α→Res β):Res β:=match o with
 | some a=>k a
 | none=>.stuck
@[simp] theorem onSome_some {α β:Type} (a:α) (k:α→Res β):onSome (some a) k=k a:=rfl
@[simp] theorem onSome_none {α β:Type} (k:α→Res β):onSome none k=.stuck:=rfl
noncomputable def mkL (m:Mk) (ds:List D) (μ:Sto):Res D:=match m with
 | .z=>.ok (.lst ds) μ
 | .l=>if ds.all (D.pureN 8)=true then .ok (.loc μ.length) (μ++[.l ds])else .stuck
 | .r=>.ok (.loc μ.length) (μ++[.r ds])
mutual
noncomputable def deq:D→D→Bool
 | .non,.non=>true
 | .bl a,.bl b=>a==b
 | .int a,.int b=>decide (a=b)
 | .bl a,.int b=>decide ((if a then 1 else 0:Int)=b)
 | .int a,.bl b=>decide (a=(if b then 1 else 0:Int))
 | .str a,.str b=>decide (a=b)
 | .tup a,.tup b=>deqs a b
 | .lst a,.lst b=>deqs a b
 | _,_=>false
noncomputable def deqs:List D→List D→Bool
 | [],[]=>true
 | a::r,b::q=>deq a b&&deqs r q
 | _,_=>false
end
noncomputable def rs1 (μ:Sto):Nat→D→D
 | 0,d=>d
 | _,.loc n=>match μ[n]? with
  | some (.l ds)=>.lst ds
  | some (.r ds)=>.lst ds
  | _=>.loc n
 | k+1,.tup ds=>.tup (ds.map (rs1 μ k))
 | k+1,.lst ds=>.lst (ds.map (rs1 μ k))
 | _,d=>d
noncomputable def rs (μ:Sto) (d:D):D:=rs1 μ 8 (rs1 μ 8 (rs1 μ 8 d))
noncomputable def intsD:List D→Option (List Int)
 | []=>some []
 | .int i::r=>(intsD r).map (i::·)
 | _=>none
noncomputable def boolsD:List D→Option (List Bool)
 | []=>some []
 | .bl i::r=>(boolsD r).map (i::·)
 | _=>none
noncomputable def lexLt:List Int→List Int→Bool
 | _,[]=>false
 | [],_::_=>true
 | x::xs,y::ys=>if x=y then lexLt xs ys else decide (x<y)
noncomputable def rowsOf:List D→Option (List (List Int))
 | []=>some []
 | .tup ds::r=>(intsD ds).bind fun x=>(rowsOf r).map (x::·)
 | _=>none
noncomputable def ixN (n:Nat) (i:Int):Option Nat:=if 0≤i then(if i<n then some i.toNat else none)else if -(n:Int)≤i then some (i+n).toNat else none
noncomputable def sIx (n d:Nat):Option Int→Nat
 | none=>d
 | some v=>if v<0 then(v+(n:Int)).toNat else min v.toNat n
noncomputable def cut (ds:List D) (lo hi:Option Int):List D:=(ds.drop (sIx ds.length 0 lo)).take (sIx ds.length ds.length hi-sIx ds.length 0 lo)
noncomputable def CMul (i j:Int):Prop:=(-(2 ^ 64)<i∧i<2 ^ 64)∨(-(2 ^ 64)<j∧j<2 ^ 64)
instance (i j:Int):Decidable (CMul i j):=by unfold CMul;infer_instance
noncomputable def opI (op:Operator) (i j:Int) (μ:Sto):Res D:=match op with
 | .Add=>.ok (.int (i+j)) μ
 | .Sub=>.ok (.int (i-j)) μ
 | .Mult=>if CMul i j then .ok (.int (i*j)) μ else .stuck
 | .FloorDiv=>if 0<j∧j<1073741824 then .ok (.int (i / j)) μ else .stuck
 | .Mod=>if 0<j then .ok (.int (i % j)) μ else .stuck
 | .Pow=>if 0≤j∧j≤1000000∧i.natAbs<2 ^ 64 then .ok (.int (i ^ j.toNat)) μ else .stuck
 | .RShift=>if 0≤j then .ok (.int (i / 2 ^ j.toNat)) μ else .stuck
 | _=>.stuck
noncomputable def opD (op:Operator) (m:Mk) (a b:D) (μ:Sto):Res D:=match a,b with
 | .int i,.int j=>opI op i j μ
 | .tup xs,.tup ys=>match op with
  | .Add=>if xs.length+ys.length≤lim then .ok (.tup (xs++ys)) μ else .stuck
  | _=>.stuck
 | x,.int j=>match op,listOf μ x with
  | .Mult,some xs=>if xs.length*j.toNat≤lim ∧ -(2 ^ 63)≤j∧j<2 ^ 63 then mkL m (List.replicate j.toNat xs).flatten μ else .stuck
  | _,_=>.stuck
 | x,y=>match op,listOf μ x,listOf μ y with
  | .Add,some xs,some ys=>if xs.length+ys.length≤lim then mkL m (xs++ys) μ else .stuck
  | _,_,_=>.stuck
noncomputable def flat:D→Bool
 | .tup _=>false
 | .lst _=>false
 | .loc _=>false
 | _=>true
noncomputable def walkOf (μ:Sto) (x:D):Option (List D×Option (Nat×O)):=match x with
 | .tup ds=>some (ds,none)
 | .lst ds=>some (ds,none)
 | .loc n=>match μ[n]? with
  | some (.l ds)=>some (ds,some (n,.l ds))
  | some (.r ds)=>some (ds,some (n,.r ds))
  | _=>none
 | _=>none
noncomputable def dkey:D→Bool
 | .int _=>true
 | .str _=>true
 | _=>false
noncomputable def dkeyT:D→Bool
 | .tup ds=>ds.all dkey
 | _=>false
noncomputable def dget (k:D):List (D×D)→Option D
 | []=>none
 | (x,v)::r=>if deq x k then some v else dget k r
noncomputable def dput (k v:D) (kvs:List (D×D)):List (D×D) :=
 if(kvs.any fun p=>deq p.1 k)=true then kvs.map (fun p=>if deq p.1 k=true then(p.1,v)else p)else kvs++[(k,v)]
noncomputable def dictAt (μ:Sto) (o k:D):Option (List (D×D)):=match o with
 | .loc n=>match μ[n]? with
  | some (.d kvs)=>if dkey k=true then some kvs else none
  | _=>none
 | _=>none
noncomputable def dictAtT (μ:Sto) (o:D) (ks:List D):Option (List (D×D)):=match o with
 | .loc n=>match μ[n]? with
  | some (.dt kvs)=>if ks.all dkey=true then some kvs else none
  | _=>none
 | _=>none
noncomputable def optAll:List (Option D)→Option (List D)
 | []=>some []
 | none::_=>none
 | some d::r=>match optAll r with
  | some ds=>some (d::ds)
  | none=>none
noncomputable def derefN (μ:Sto):Nat→D→Option D
 | 0,d=>if flat d=true then some d else none
 | k+1,d=>match d with
  | .tup ds=>(optAll (ds.map (derefN μ k))).map .tup
  | .lst ds=>(optAll (ds.map (derefN μ k))).map .lst
  | .loc n=>match μ[n]? with
   | some (.l ds)=>(optAll (ds.map (derefN μ k))).map .lst
   | some (.r ds)=>(optAll (ds.map (derefN μ k))).map .lst
   | _=>none
  | d=>some d
noncomputable def cpD (op:Cp) (a b:D) (μ:Sto):Res D:=match op with
 | .eq=>if a.pure=true∧b.pure=true then .ok (.bl (deq a b)) μ else .stuck
 | .ne=>if a.pure=true∧b.pure=true then .ok (.bl (!deq a b)) μ else .stuck
 | .eqM=>match derefN μ 8 a,derefN μ 8 b with
  | some x,some y=>.ok (.bl (deq x y)) μ
  | _,_=>.stuck
 | .neM=>match derefN μ 8 a,derefN μ 8 b with
  | some x,some y=>.ok (.bl (!deq x y)) μ
  | _,_=>.stuck
 | .lt=>match a,b with
  | .int i,.int j=>.ok (.bl (decide (i<j))) μ
  | .tup x,.tup y=>match intsD x,intsD y with
   | some xs,some ys=>.ok (.bl (lexLt xs ys)) μ
   | _,_=>.stuck
  | _,_=>.stuck
 | .le=>match a,b with
  | .int i,.int j=>.ok (.bl (decide (i≤j))) μ
  | .tup x,.tup y=>match intsD x,intsD y with
   | some xs,some ys=>.ok (.bl (!lexLt ys xs)) μ
   | _,_=>.stuck
  | _,_=>.stuck
 | .gt=>match a,b with
  | .int i,.int j=>.ok (.bl (decide (j<i))) μ
  | _,_=>.stuck
 | .ge=>match a,b with
  | .int i,.int j=>.ok (.bl (decide (j≤i))) μ
  | .tup x,.tup y=>match intsD x,intsD y with
   | some xs,some ys=>.ok (.bl (!lexLt xs ys)) μ
   | _,_=>.stuck
  | _,_=>.stuck
 | .is=>match b with
  | .non=>.ok (.bl (match a with | .non=>true | _=>false)) μ
  | .bl k=>match a with
   | .bl j=>.ok (.bl (j==k)) μ
   | .non=>.ok (.bl false) μ
   | _=>.stuck
  | _=>.stuck
 | .isnot=>match b with
  | .non=>.ok (.bl (match a with | .non=>false | _=>true)) μ
  | .bl k=>match a with
   | .bl j=>.ok (.bl (!(j==k))) μ
   | .non=>.ok (.bl true) μ
   | _=>.stuck
  | _=>.stuck
 | .in_=>match seqOf μ b with
  | some ds=>if flat a=true∧ds.all flat=true then .ok (.bl (ds.any fun y=>deq y a)) μ else .stuck
  | none=>match dictAt μ b a with
   | some kvs=>.ok (.bl (dget a kvs).isSome) μ
   | none=>.stuck
 | .notin=>match seqOf μ b with
  | some ds=>if flat a=true∧ds.all flat=true then .ok (.bl (!ds.any fun y=>deq y a)) μ else .stuck
  | none=>match dictAt μ b a with
   | some kvs=>.ok (.bl (!(dget a kvs).isSome)) μ
   | none=>.stuck
noncomputable def insI (x:Int):List Int→List Int
 | []=>[x]
 | y::r=>if x≤y then x::y::r else y::insI x r
noncomputable def sortI:List Int→List Int
 | []=>[]
 | x::r=>insI x (sortI r)
noncomputable def insR (x:List Int):List (List Int)→List (List Int)
 | []=>[x]
 | y::r=>if lexLt y x=true then y::insR x r else x::y::r
noncomputable def sortR:List (List Int)→List (List Int)
 | []=>[]
 | x::r=>insR x (sortR r)
noncomputable def minL:Int→List Int→Int
 | x,[]=>x
 | x,y::r=>minL (if y<x then y else x) r
noncomputable def one1 (f:D→Sto→Res D) (ds:List D) (μ:Sto):Res D:=match ds with
 | [x]=>f x μ
 | _=>.stuck
@[simp] theorem one1_one (f:D→Sto→Res D) (x:D) (μ:Sto):one1 f [x] μ=f x μ:=rfl
noncomputable def seq1 (f:List D→Sto→Res D) (x:D) (μ:Sto):Res D:=match seqOf μ x with
 | some xs=>f xs μ
 | none=>.stuck
noncomputable def int1 (f:List Int→Sto→Res D) (x:D) (μ:Sto):Res D:=match(seqOf μ x).bind intsD with
 | some ns=>f ns μ
 | none=>.stuck
noncomputable def bool1 (f:List Bool→Sto→Res D) (x:D) (μ:Sto):Res D:=match(seqOf μ x).bind boolsD with
 | some ns=>f ns μ
 | none=>.stuck
noncomputable def listRev1 (m:Mk) (x:D) (μ:Sto):Res D:=match listOf μ x with
 | some xs=>mkL m xs.reverse μ
 | none=>.stuck
noncomputable def minD (ds:List D) (μ:Sto):Res D:=match ds with
 | [.int i,.int j]=>.ok (.int (if j<i then j else i)) μ
 | _=>.stuck
noncomputable def maxD (ds:List D) (μ:Sto):Res D:=match ds with
 | [.int i,.int j]=>.ok (.int (if j > i then j else i)) μ
 | _=>.stuck
noncomputable def sorted1 (m:Mk) (xs:List D) (μ:Sto):Res D:=match rowsOf xs with
 | some rs=>if rs.all (fun r=>!r.isEmpty)=true then mkL m ((sortR rs).map fun r=>.tup (r.map .int)) μ else .stuck
 | none=>.stuck
noncomputable def dedI (ns:List Int):List Int:=ns.foldl (fun σ k=>if σ.any (·==k)then σ else σ++[k]) []
noncomputable def sortS1 (m:Mk):D→Sto→Res D:=int1 fun ns μ=>if ns.length<64 then mkL m ((sortI (dedI ns)).map .int) μ else .stuck
noncomputable def sortL1 (m:Mk) (x:D) (μ:Sto):Res D:=match listOf μ x with
 | some xs=>if xs.length<64 then sorted1 m xs μ else .stuck
 | none=>.stuck
noncomputable def min11:D→Sto→Res D:=int1 fun ns μ=>match ns with
 | n::r=>.ok (.int (minL n r)) μ
 | []=>.stuck
noncomputable def toInt1 (x:D) (μ:Sto):Res D:=match x with
 | .bl b=>.ok (.int (if b then 1 else 0)) μ
 | .int i=>.ok (.int i) μ
 | _=>.stuck
noncomputable def range1 (f:List D→Sto→Res D) (x:D) (μ:Sto):Res D:=match x with
 | .int j=>if -(lim:Int)≤j∧j≤lim then f ((List.range j.toNat).map fun(i:Nat)=>D.int i) μ else .stuck
 | _=>.stuck
noncomputable def btD (b:Bt) (m:Mk) (ds:List D) (μ:Sto):Res D:=match b with
 | .len=>one1 (seq1 fun xs μ=>.ok (.int xs.length) μ) ds μ
 | .tuple=>one1 (seq1 fun xs μ=>.ok (.tup xs) μ) ds μ
 | .list=>one1 (seq1 fun xs μ=>mkL m xs μ) ds μ
 | .listRev=>one1 (listRev1 m) ds μ
 | .sum=>one1 (int1 fun ns μ=>.ok (.int ns.sum) μ) ds μ
 | .min=>minD ds μ
 | .max=>maxD ds μ
 | .all=>one1 (bool1 fun bs μ=>.ok (.bl (bs.all id)) μ) ds μ
 | .any=>one1 (bool1 fun bs μ=>.ok (.bl (bs.any id)) μ) ds μ
 | .sorted=>one1 (sortL1 m) ds μ
 | .min1=>one1 min11 ds μ
 | .sortedSet=>one1 (sortS1 m) ds μ
 | .int=>one1 toInt1 ds μ
 | .listRange=>one1 (range1 fun xs μ=>mkL m xs μ) ds μ
 | .tupleRange=>one1 (range1 fun xs μ=>.ok (.tup xs) μ) ds μ
noncomputable def isiD (c:Cl) (d:D) (μ:Sto):Res D:=match d,c with
 | .int _,.int=>.ok (.bl true) μ
 | .bl _,.int=>.ok (.bl true) μ
 | .bl _,.bool=>.ok (.bl true) μ
 | .tup _,.tuple=>.ok (.bl true) μ
 | .lst _,.list=>.ok (.bl true) μ
 | .str _,.str=>.ok (.bl true) μ
 | .loc n,.list=>match μ[n]? with
  | some (.l _)=>.ok (.bl true) μ
  | some (.r _)=>.ok (.bl true) μ
  | _=>.stuck
 | .loc _,_=>.stuck
 | _,.own _=>.stuck
 | _,_=>.ok (.bl false) μ
noncomputable def putL (n:Nat) (o:O) (ds:List D) (d:D) (μ:Sto):Res D:=match o with
 | .l _=>.ok d (μ.set n (.l ds))
 | .r _=>.ok d (μ.set n (.r ds))
 | _=>.stuck
noncomputable def fits (o:O) (d:D):Bool:=match o with
 | .l _=>d.pure
 | .r _=>true
 | _=>false
noncomputable def itemsO:O→Option (List D)
 | .l ds=>some ds
 | .r ds=>some ds
 | _=>none
noncomputable def mtL (mt:Mt) (n:Nat) (ob:O) (xs:List D) (ds:List D) (μ:Sto):Res D:=match mt with
 | .append=>one1 (fun d μ=>if fits ob d=true∧xs.length<lim then putL n ob (xs++[d]) .non μ else .stuck) ds μ
 | .pop=>match ds with
  | []=>match xs.getLast? with
   | some d=>putL n ob xs.dropLast d μ
   | none=>.stuck
  | [.int i]=>if 0≤i∧i<lim then(match xs[i.toNat]? with
   | some d=>putL n ob (xs.eraseIdx i.toNat) d μ
   | none=>.stuck)else .stuck
  | _=>.stuck
 | .extend=>one1 (fun y μ=>match listOf μ y with
  | some ys=>if ys.all (fits ob)=true∧xs.length+ys.length≤lim then putL n ob (xs++ys) .non μ else .stuck
  | none=>.stuck) ds μ
 | .extendT=>one1 (fun y μ=>match y with
  | .tup ys=>if ys.all (fits ob)=true∧xs.length+ys.length≤lim then putL n ob (xs++ys) .non μ else .stuck
  | _=>.stuck) ds μ
 | .reverse=>match ds with
  | []=>putL n ob xs.reverse .non μ
  | _=>.stuck
 | .clear=>match ds with
  | []=>putL n ob [] .non μ
  | _=>.stuck
 | _=>.stuck
noncomputable def cntX (xs ds:List D) (μ:Sto):Res D:=one1 (fun x μ=>if flat x=true∧xs.all flat=true then .ok (.int (xs.countP fun y=>deq y x)) μ else .stuck) ds μ
noncomputable def cntD (o:D) (ds:List D) (μ:Sto):Res D:=match o with
 | .tup xs=>cntX xs ds μ
 | _=>.stuck
noncomputable def cntL (o:D) (ds:List D) (μ:Sto):Res D:=match listOf μ o with
 | some xs=>cntX xs ds μ
 | none=>.stuck
noncomputable def methOk (mt:Mt) (x:D) (μ:Sto):Bool:=match mt with
 | .get=>match x with
  | .loc n=>match μ[n]? with
   | some (.d _)=>true
   | _=>false
  | _=>false
 | .count=>match x with
  | .tup _=>true
  | _=>false
 | _=>(listOf μ x).isSome
noncomputable def getD2 (o:D) (ds:List D) (μ:Sto):Res D:=match ds with
 | [k,x]=>match dictAt μ o k with
  | some kvs=>.ok ((dget k kvs).getD x) μ
  | none=>.stuck
 | _=>.stuck
noncomputable def mtLoc (mt:Mt) (o:D) (ds:List D) (μ:Sto):Res D:=match o with
 | .loc n=>match μ[n]? with
  | none=>.stuck
  | some ob=>match itemsO ob with
   | none=>.stuck
   | some xs=>mtL mt n ob xs ds μ
 | _=>.stuck
noncomputable def mtD (mt:Mt) (o:D) (ds:List D) (μ:Sto):Res D:=match mt with
 | .count=>cntD o ds μ
 | .countL=>cntL o ds μ
 | .get=>getD2 o ds μ
 | mt=>mtLoc mt o ds μ
noncomputable def setDT (a:D) (ks:List D) (v:D) (μ:Sto):Res Unit:=match a with
 | .loc n=>match μ[n]? with
  | some (.dt kvs)=>if ks.all dkey=true∧v.pure=true∧kvs.length<lim then .ok () (μ.set n (.dt (dput (.tup ks) v kvs)))else .stuck
  | _=>.stuck
 | _=>.stuck
noncomputable def inDT (neg:Bool) (ks:List D) (a:D) (μ:Sto):Res D:=match dictAtT μ a ks with
 | some kvs=>.ok (.bl (neg ^^ (dget (.tup ks) kvs).isSome)) μ
 | none=>.stuck
noncomputable def ixD (a b:D) (μ:Sto):Res D:=match b with
 | .int i=>match seqOf μ a with
  | some xs=>match ixN xs.length i with
   | some j=>match xs[j]? with
    | some d=>.ok d μ
    | none=>.stuck
   | none=>.stuck
  | none=>.stuck
 | _=>.stuck
noncomputable def ixL (a b:D) (μ:Sto):Res D:=match a with
 | .loc n=>ixD (.loc n) b μ
 | _=>.stuck
noncomputable def dixD (a b:D) (μ:Sto):Res D:=match dictAt μ a b with
 | some kvs=>match dget b kvs with
  | some v=>.ok v μ
  | none=>.stuck
 | none=>.stuck
noncomputable def augI (op:Operator) (a b:D) (μ:Sto):Res D:=match a,b with
 | .int i,.int j=>match op with
  | .Add=>.ok (.int (i+j)) μ
  | .Sub=>.ok (.int (i-j)) μ
  | _=>.stuck
 | _,_=>.stuck
noncomputable def slD (m:Mk) (a:D) (lo hi:Option Int) (μ:Sto):Res D:=match a with
 | .tup xs=>.ok (.tup (cut xs lo hi)) μ
 | x=>match listOf μ x with
  | some xs=>mkL m (cut xs lo hi) μ
  | none=>.stuck
noncomputable def setD (a b v:D) (μ:Sto):Res Unit:=match a with
 | .loc n=>match μ[n]? with
  | none=>.stuck
  | some (.d kvs)=>if dkey b=true∧v.pure=true∧kvs.length<lim then .ok () (μ.set n (.d (dput b v kvs)))else .stuck
  | some ob=>match itemsO ob,b with
   | some xs,.int i=>match ixN xs.length i with
    | some j=>if fits ob v=true then(putL n ob (xs.set j v) .non μ).bind fun _ μ=>.ok () μ else .stuck
    | none=>.stuck
   | _,_=>.stuck
 | _=>.stuck
noncomputable def bindT (tg:Tg) (d:D) (σ:Sl):Option Sl:=match tg with
 | .one i=>some (σ.set i (some d))
 | .many is=>match d with
  | .tup ds=>if ds.length=is.length then some ((is.zip ds).foldl (fun s p=>s.set p.1 (some p.2)) σ)else none
  | _=>none
noncomputable abbrev Gd:=Option (Nat×O)
noncomputable def gd (g:Gd) (μ:Sto):Prop:=match g with
 | none=>True
 | some (n,o)=>μ[n]? = some o
@[simp] theorem gd_none (μ:Sto):gd none μ=True:=rfl
open Classical in
noncomputable def mapR (g:Gd) (f:D→Sto→Res (List D)):List D→Sto→Res (List D)
 | [],μ=>if gd g μ then .ok [] μ else .stuck
 | d::ds,μ=>if gd g μ then(f d μ).bind fun xs μ1=>(mapR g f ds μ1).bind fun ys μ2=>.ok (xs++ys) μ2 else .stuck
inductive Fl where
 | nx (σ:Sl) | rt (d:D) | bk (σ:Sl) | ct (σ:Sl)
open Classical in
noncomputable def loopR (g:Gd) (f:D→Sl→Sto→Res Fl):List D→Sl→Sto→Res Fl
 | [],σ,μ=>if gd g μ then .ok (.nx σ) μ else .stuck
 | d::ds,σ,μ=>if gd g μ then(f d σ μ).bind fun fl μ1=>match fl with
  | .nx σ1=>loopR g f ds σ1 μ1
  | .ct σ1=>loopR g f ds σ1 μ1
  | .bk σ1=>.ok (.nx σ1) μ1
  | .rt v=>.ok (.rt v) μ1 else .stuck
noncomputable def dicD (t:Bool) (ds:List D) (μ:Sto):Res D:=match ds with
 | []=>.ok (.loc μ.length) (μ++[if t then .dt []else .d []])
 | [.int a,x]=>if t=false∧x.pure=true then .ok (.loc μ.length) (μ++[.d [(.int a,x)]])else .stuck
 | [.int a,x,.int b,y]=>if t=false∧x.pure=true∧y.pure=true then .ok (.loc μ.length) (μ++[.d (dput (.int b) y [(.int a,x)])])else .stuck
 | _=>.stuck
noncomputable abbrev Phi:=Nat→List D→Sto→Res D
noncomputable def D.belowN (b:Nat):Nat→D→Bool
 | 0,d=>match d with | .tup _=>false | .lst _=>false | .loc n=>decide (n<b) | _=>true
 | k+1,d=>match d with | .tup ds=>ds.all (D.belowN b k) | .lst ds=>ds.all (D.belowN b k) | .loc n=>decide (n<b) | _=>true
noncomputable def closedO (b:Nat):O→Bool
 | .r ds=>ds.all (D.belowN b 8)
 | _=>true
noncomputable def noR:O→Bool
 | .r _=>false
 | _=>true
noncomputable def backD (keep:Bool) (base:Nat) (r:Res D):Res D:=match r with
 | .ok d μ'=>if keep=true then .ok d μ' else if D.belowN base 8 d=true∧(μ'.take base).all (closedO base)=true then .ok d (μ'.take base)else .stuck
 | x=>x
noncomputable def tstD (d:D) (μ:Sto):Res Bool:=match d with
 | .bl b=>.ok b μ
 | _=>.stuck
section
variable (φ : Phi)
mutual
noncomputable def evE:Ex→Sl→Sto→Res D
 | .var i,σ,μ=>match σ[i]? with
  | some (some d)=>.ok d μ
  | _=>.stuck
 | .frz i,σ,μ=>match σ[i]? with
  | some (some (.loc n))=>match μ[n]? with
   | some (.l ds)=>.ok (.lst ds) (μ.set n .dead)
   | some (.r ds)=>.ok (.lst ds) (μ.set n .dead)
   | _=>.stuck
  | _=>.stuck
 | .cst d,_,μ=>.ok d μ
 | .bin op m a b,σ,μ=>(evE a σ μ).bind fun x μ=>(evE b σ μ).bind fun y μ=>opD op m x y μ
 | .neg a,σ,μ=>(evE a σ μ).bind fun x μ=>match x with
  | .int i=>.ok (.int (-i)) μ
  | _=>.stuck
 | .not a,σ,μ=>(evE a σ μ).bind fun x μ=>match x with
  | .bl b=>.ok (.bl (!b)) μ
  | _=>.stuck
 | .and a b,σ,μ=>(evE a σ μ).bind fun x μ=>match x with
  | .bl c=>if c=true then evE b σ μ else .ok (.bl false) μ
  | _=>.stuck
 | .or a b,σ,μ=>(evE a σ μ).bind fun x μ=>match x with
  | .bl c=>if c=true then .ok (.bl true) μ else evE b σ μ
  | _=>.stuck
 | .ite c a b,σ,μ=>(evE c σ μ).bind fun x μ=>match x with
  | .bl c=>if c=true then evE a σ μ else evE b σ μ
  | _=>.stuck
 | .cmp a r,σ,μ=>(evE a σ μ).bind fun x μ=>evC r x σ μ
 | .call keep f es,σ,μ=>(evEs es σ μ).bind fun ds μ=>backD keep μ.length (φ f ds μ)
 | .blt b m es,σ,μ=>(evEs es σ μ).bind fun ds μ=>btD b m ds μ
 | .isi a c,σ,μ=>(evE a σ μ).bind fun x μ=>isiD c x μ
 | .meth mt o es,σ,μ=>(evE o σ μ).bind fun x μ=>if methOk mt x μ=true then(evEs es σ μ).bind fun ds μ=>mtD mt x ds μ else .stuck
 | .ix a b,σ,μ=>(evE a σ μ).bind fun x μ=>(evE b σ μ).bind fun y μ=>ixD x y μ
 | .dix a b,σ,μ=>(evE a σ μ).bind fun x μ=>(evE b σ μ).bind fun y μ=>dixD x y μ
 | .sl m a lo hi,σ,μ=>(evE a σ μ).bind fun x μ=>(evO lo σ μ).bind fun l μ=>(evO hi σ μ).bind fun h μ=>slD m x l h μ
 | .tup es,σ,μ=>(evEs es σ μ).bind fun ds μ=>.ok (.tup ds) μ
 | .lst m es,σ,μ=>(evEs es σ μ).bind fun ds μ=>mkL m ds μ
 | .dic t es,σ,μ=>(evEs es σ μ).bind fun ds μ=>dicD t ds μ
 | .inT neg es d,σ,μ=>(evEs es σ μ).bind fun ds μ=>(evE d σ μ).bind fun x μ=>inDT neg ds x μ
 | .comp m cap nl tg it cs elt,σ,μ=>(evI it σ μ).bind fun ds μ =>
   (mapR ds.2 (fun d μ=>onSome (bindT tg d (cap.map (fun i=>(σ[i]?).getD none)++List.replicate nl none)) fun σ' =>
    (evCs cs σ' μ).bind fun b μ=>if b=true then(evE elt σ' μ).bind fun x μ=>.ok [x] μ else .ok [] μ) ds.1 μ).bind fun xs μ=>mkL m xs μ
noncomputable def evEs:Exs→Sl→Sto→Res (List D)
 | .nil,_,μ=>.ok [] μ
 | .cons e es,σ,μ=>(evE e σ μ).bind fun d μ=>(evEs es σ μ).bind fun ds μ=>.ok (d::ds) μ
noncomputable def evC:Cps→D→Sl→Sto→Res D
 | .nil,_,_,_=>.stuck
 | .cons op e r,x,σ,μ=>(evE e σ μ).bind fun y μ=>(cpD op x y μ).bind fun z μ=>match r with
  | .nil=>.ok z μ
  | r=>match z with
   | .bl b=>if b=true then evC r y σ μ else .ok (.bl false) μ
   | _=>.stuck
noncomputable def evO:ExO→Sl→Sto→Res (Option Int)
 | .no,_,μ=>.ok none μ
 | .so e,σ,μ=>(evE e σ μ).bind fun x μ=>match x with
  | .int i=>.ok (some i) μ
  | _=>.stuck
noncomputable def evCs:Exs→Sl→Sto→Res Bool
 | .nil,_,μ=>.ok true μ
 | .cons e es,σ,μ=>(evE e σ μ).bind fun x μ=>match x with
  | .bl b=>if b=true then evCs es σ μ else .ok false μ
  | _=>.stuck
noncomputable def evI:It→Sl→Sto→Res (List D×Gd)
 | .seq e,σ,μ=>(evE e σ μ).bind fun x μ=>match walkOf μ x with
  | some w=>.ok w μ
  | none=>.stuck
 | .rng a,σ,μ=>(evE a σ μ).bind fun x μ=>match x with
  | .int j=>if -(lim:Int)≤j∧j≤lim then .ok ((List.range j.toNat).map fun(i:Nat)=>D.int i,none) μ else .stuck
  | _=>.stuck
 | .rng2 a b,σ,μ=>(evE a σ μ).bind fun x μ=>(evE b σ μ).bind fun y μ=>match x,y with
  | .int i,.int j=>if -(lim:Int)≤i∧i≤lim∧j≤lim ∧ -(lim:Int)≤j∧(j-i)≤lim then .ok ((List.range (j-i).toNat).map fun(k:Nat)=>D.int (i+k),none) μ else .stuck
  | _,_=>.stuck
 | .rng3 a b c,σ,μ=>(evE a σ μ).bind fun x μ=>(evE b σ μ).bind fun y μ=>(evE c σ μ).bind fun z μ=>match x,y,z with
  | .int i,.int j,.int k=>if 0≤i∧i≤lim∧j≤lim∧0≤j∧1≤k∧k≤1000 then .ok ((List.range (if i<j then((j-i-1) / k+1).toNat else 0)).map fun(n:Nat)=>D.int (i+n*k),none) μ else .stuck
  | _,_,_=>.stuck
 | .zip a b,σ,μ=>(evE a σ μ).bind fun x μ=>(evE b σ μ).bind fun y μ=>match walkOf μ x,seqOf [] y with
  | some w,some ys=>.ok ((w.1.zip ys).map fun p=>.tup [p.1,p.2],w.2) μ
  | _,_=>.stuck
 | .enum a,σ,μ=>(evE a σ μ).bind fun x μ=>match walkOf μ x with
  | some w=>.ok ((List.range w.1.length |>.zip w.1).map fun(p:Nat×D)=>.tup [.int p.1,p.2],w.2) μ
  | none=>.stuck
 | .rev _,_,_=>.stuck
 | .vals a,σ,μ=>(evE a σ μ).bind fun x μ=>match x with
  | .loc n=>match μ[n]? with
   | some (.d kvs)=>.ok (kvs.map (·.2),none) (μ.set n .dead)
   | _=>.stuck
  | _=>.stuck
end
mutual
noncomputable def evS:Sm→Sl→Sto→Res Fl
 | .set i e,σ,μ=>(evE φ e σ μ).bind fun d μ=>.ok (.nx (σ.set i (some d))) μ
 | .unp is e,σ,μ=>(evE φ e σ μ).bind fun d μ=>match bindT (.many is) d σ with
  | some σ'=>.ok (.nx σ') μ
  | none=>.stuck
 | .setx o i v,σ,μ=>(evE φ v σ μ).bind fun d μ=>(evE φ o σ μ).bind fun x μ=>(evE φ i σ μ).bind fun y μ=>(setD x y d μ).bind fun _ μ=>.ok (.nx σ) μ
 | .augx op o i v,σ,μ=>(evE φ o σ μ).bind fun x μ=>(evE φ i σ μ).bind fun y μ=>(ixL x y μ).bind fun old μ=>(evE φ v σ μ).bind fun d μ=>(augI op old d μ).bind fun z μ=>(setD x y z μ).bind fun _ μ=>.ok (.nx σ) μ
 | .setxT o i v,σ,μ=>(evE φ v σ μ).bind fun d μ=>(evE φ o σ μ).bind fun x μ=>(evEs φ i σ μ).bind fun y μ=>(setDT x y d μ).bind fun _ μ=>.ok (.nx σ) μ
 | .ex e,σ,μ=>(evE φ e σ μ).bind fun _ μ=>.ok (.nx σ) μ
 | .ite c a b,σ,μ=>(evE φ c σ μ).bind fun x μ=>match x with
  | .bl k=>if k=true then evSs a σ μ else evSs b σ μ
  | _=>.stuck
 | .loop tg it b,σ,μ=>(evI φ it σ μ).bind fun ds μ=>loopR ds.2 (fun d σ μ=>onSome (bindT tg d σ) fun σ'=>evSs b σ' μ) ds.1 σ μ
 | .ret e,σ,μ=>(evE φ e σ μ).bind fun d μ=>.ok (.rt d) μ
 | .raise c es,σ,μ=>(evEs φ es σ μ).bind fun ds μ=>.exc c ds μ
 | .pass,σ,μ=>.ok (.nx σ) μ
 | .brk,σ,μ=>.ok (.bk σ) μ
 | .cont,σ,μ=>.ok (.ct σ) μ
 | .never,_,_=>.stuck
noncomputable def evSs:Sms→Sl→Sto→Res Fl
 | .nil,σ,μ=>.ok (.nx σ) μ
 | .cons s r,σ,μ=>(evS s σ μ).bind fun fl μ=>match fl with
  | .nx σ'=>evSs r σ' μ
  | fl=>.ok fl μ
end
end
structure Df where
 np:Nat
 nn:Nat
 body:Sms
noncomputable def runD (φ:Phi) (f:Df) (ds:List D) (μ:Sto):Res D :=
 if ds.length=f.np then(evSs φ f.body (ds.map some++List.replicate (f.nn-f.np) none) μ).bind fun fl μ=>match fl with
  | .nx _=>.ok .non μ
  | .rt d=>.ok d μ
  | _=>.stuck
 else .stuck
noncomputable def callN (T:List Df):Nat→Phi
 | 0=>fun _ _ _=>.stuck
 | n+1=>fun f ds μ=>match T[f]? with
  | some d=>runD (callN T n) d ds μ
  | none=>.stuck
end Lp
set_option maxHeartbeats 4000000
namespace Lp
open PySem PySem.Spec PyProof.Rows L2
noncomputable abbrev St:=L2.St
theorem _root_.L2.FzL.sq {K:PySem.W.Frag} {H:Hp} {a:Addr} {xs:List V} (h:FzL K H a xs):SqL K H a xs:=by
 rcases h with⟨o,h⟩ | ⟨its,n,h,hz,hv⟩
 ·exact .inl (.inr ⟨o,h⟩)
 ·exact .inr ⟨_,its.toArray,n,h,rfl,rfl,rfl,by rw[List.size_toArray,←hv.length];exact hz,by simpa using hv⟩
noncomputable def LsL (K:PySem.W.Frag) (H:Hp) (a:Addr) (xs:List V):Prop:=H a=some (.lst xs)∨FzL K H a xs
theorem LsL.sq {K:PySem.W.Frag} {H:Hp} {a:Addr} {xs:List V} (h:LsL K H a xs):SqL K H a xs:=by
 rcases h with h | h
 ·exact .of h
 ·exact h.sq
theorem _root_.L2.Inv.ls {X:Cx} {pins:List (Addr×Obj)} {σ:St} {H:Hp} {s:Shared} {a:Addr} {xs:List V} (I:Inv X pins σ H s) (h:LsL X.K H a xs) :
  xs.length≤sizeLine∧∃(its:List Value) (n:Nat),Vals xs its∧xs.length=its.length∧s.heap.get? a=some {cls:=.type "list",data:=.seq its.toArray n}:=by
 rcases h with h | ⟨o,h⟩ | ⟨its,n,h,hz,hv⟩
 ·obtain⟨z,its,n,hv,e⟩:=I.hok a _ h
  exact⟨z,its,n,hv,hv.length,e⟩
 ·obtain⟨_,z,its,n,hv,e⟩:=I.hok a _ h
  exact⟨z,its,n,hv,hv.length,e⟩
 ·exact⟨hz,its,n,hv,hv.length,I.kIn a _ h⟩
structure Ext (H H':Hp):Prop where
 tups:∀b xs,H b=some (.tup xs)→H' b=some (.tup xs)
 frzs:∀b o u,H b=some (.frz o u)→H' b=some (.frz o u)
theorem Ext.refl (H:Hp):Ext H H:=⟨fun _ _ h=>h,fun _ _ _ h=>h⟩
theorem Ext.trans {H H1 H2:Hp} (a:Ext H H1) (b:Ext H1 H2):Ext H H2:=⟨fun c xs h=>b.tups c xs (a.tups c xs h),fun c o u h=>b.frzs c o u (a.frzs c o u h)⟩
theorem Ext.new {H:Hp} {p:Addr} {o:HO} (h:H p=none):Ext H (upd H p o) :=
 ⟨fun b xs e=>by rw[upd_ne (ne_of_none e h)];exact e,fun b o u e=>by rw[upd_ne (ne_of_none e h)];exact e⟩
theorem Ext.lst {H:Hp} {p:Addr} {xs:List V} {o:HO} (h:H p=some (.lst xs)):Ext H (upd H p o) :=
 ⟨fun b ys e=>by rw[upd_ne (ne_of e h (by intro z;cases z))];exact e,fun b o u e=>by rw[upd_ne (ne_of e h (by intro z;cases z))];exact e⟩
theorem Ext.dK {H:Hp} {p:Addr} {xs:List (Key×V)} {o:HO} (h:H p=some (.dK xs)):Ext H (upd H p o) :=
 ⟨fun b ys e=>by rw[upd_ne (ne_of e h (by intro z;cases z))];exact e,fun b o u e=>by rw[upd_ne (ne_of e h (by intro z;cases z))];exact e⟩
theorem _root_.L2.SqT.ext {K:PySem.W.Frag} {H H':Hp} {a:Addr} {xs:List V} (h:SqT K H a xs) (e:Ext H H'):SqT K H' a xs:=by
 rcases h with(h | ⟨o,h⟩) | h
 ·exact .inl (.inl (e.tups _ _ h))
 ·exact .inl (.inr ⟨o,e.frzs _ _ _ h⟩)
 ·exact .inr h
theorem _root_.L2.FzL.ext {K:PySem.W.Frag} {H H':Hp} {a:Addr} {xs:List V} (h:FzL K H a xs) (e:Ext H H'):FzL K H' a xs:=by
 rcases h with⟨o,h⟩ | h
 ·exact .inl ⟨o,e.frzs _ _ _ h⟩
 ·exact .inr h
section
variable (K : PySem.W.Frag) (ι : List Addr) (H : Hp)
mutual
noncomputable def IsD:D→V→Prop
 | .non,v=>v=.non
 | .bl b,v=>v=.bl b
 | .int i,v=>v=.int i
 | .str x,v=>v=.str x
 | .tup ds,v=>∃a xs,v=.ref a∧SqT K H a xs∧IsDs ds xs
 | .lst ds,v=>∃a xs,v=.ref a∧FzL K H a xs∧IsDs ds xs
 | .loc n,v=>∃a,v=.ref a∧ι[n]? = some a
noncomputable def IsDs:List D→List V→Prop
 | [],xs=>xs=[]
 | d::ds,xs=>∃v r,xs=v::r∧IsD d v∧IsDs ds r
end
end
section
variable {K : PySem.W.Frag} {ι ι' : List Addr} {H H' : Hp}
mutual
theorem IsD.mono (hp:ι <+: ι') (he:Ext H H'):∀(d:D) (v:V),IsD K ι H d v→IsD K ι' H' d v
 | .non,_,h=>by simpa[IsD]using h
 | .bl b,_,h=>by simpa[IsD]using h
 | .int i,_,h=>by simpa[IsD]using h
 | .str x,_,h=>by simpa[IsD]using h
 | .tup ds,v,h=>by
  simp only[IsD]at h ⊢
  obtain⟨a,xs,e,q,r⟩:=h
  exact⟨a,xs,e,q.ext he,IsDs.mono hp he ds xs r⟩
 | .lst ds,v,h=>by
  simp only[IsD]at h ⊢
  obtain⟨a,xs,e,q,r⟩:=h
  exact⟨a,xs,e,q.ext he,IsDs.mono hp he ds xs r⟩
 | .loc n,v,h=>by
  simp only[IsD]at h ⊢
  obtain⟨a,e,q⟩:=h
  obtain⟨t,rfl⟩:=hp
  exact⟨a,e,by rw[List.getElem?_append_left (List.getElem?_eq_some_iff.mp q).1];exact q⟩
theorem IsDs.mono (hp:ι <+: ι') (he:Ext H H'):∀(ds:List D) (xs:List V),IsDs K ι H ds xs→IsDs K ι' H' ds xs
 | [],xs,h=>by simpa[IsDs]using h
 | d::ds,xs,h=>by
  simp only[IsDs]at h ⊢
  obtain⟨v,r,e,q,t⟩:=h
  exact⟨v,r,e,IsD.mono hp he d v q,IsDs.mono hp he ds r t⟩
end
theorem IsDs.length:∀{ds:List D} {xs:List V},IsDs K ι H ds xs→xs.length=ds.length
 | [],xs,h=>by simp only[IsDs]at h;subst h;rfl
 | d::ds,xs,h=>by
  simp only[IsDs]at h
  obtain⟨v,r,rfl,_,t⟩:=h
  simp[IsDs.length t]
theorem IsDs.get:∀{ds:List D} {xs:List V} {i:Nat} {d:D},IsDs K ι H ds xs→ds[i]? = some d→∃v,xs[i]? = some v∧IsD K ι H d v
 | [],_,_,_,_,e=>by simp at e
 | d::ds,xs,0,_,h,e=>by
  simp only[IsDs]at h
  obtain⟨v,r,rfl,q,_⟩:=h
  simp at e;subst e
  exact⟨v,rfl,q⟩
 | d::ds,xs,i+1,x,h,e=>by
  simp only[IsDs]at h
  obtain⟨v,r,rfl,_,t⟩:=h
  obtain⟨w,h1,h2⟩:=IsDs.get (i:=i) (d:=x) t (by simpa using e)
  exact⟨w,by simpa using h1,h2⟩
theorem IsDs.append:∀{ds es:List D} {xs ys:List V},IsDs K ι H ds xs→IsDs K ι H es ys→IsDs K ι H (ds++es) (xs++ys)
 | [],_,_,_,h,g=>by simp only[IsDs]at h;subst h;exact g
 | d::ds,es,xs,ys,h,g=>by
  simp only[IsDs]at h
  obtain⟨v,r,rfl,q,t⟩:=h
  simp only[List.cons_append,IsDs]
  exact⟨v,r++ys,rfl,q,IsDs.append t g⟩
theorem IsDs.one {d:D} {v:V} (h:IsD K ι H d v):IsDs K ι H [d] [v]:=by
 simp only[IsDs];exact⟨v,[],rfl,h,rfl⟩
theorem IsDs.take:∀{ds:List D} {xs:List V} (n:Nat),IsDs K ι H ds xs→IsDs K ι H (ds.take n) (xs.take n)
 | _,_,0,_=>by simp[IsDs]
 | [],_,n+1,h=>by simp only[IsDs]at h;subst h;simp[IsDs]
 | d::ds,xs,n+1,h=>by
  simp only[IsDs]at h
  obtain⟨v,r,rfl,q,t⟩:=h
  simp only[List.take_succ_cons,IsDs]
  exact⟨v,_,rfl,q,IsDs.take n t⟩
theorem IsDs.drop:∀{ds:List D} {xs:List V} (n:Nat),IsDs K ι H ds xs→IsDs K ι H (ds.drop n) (xs.drop n)
 | _,_,0,h=>by simpa using h
 | [],_,n+1,h=>by simp only[IsDs]at h;subst h;simp[IsDs]
 | d::ds,xs,n+1,h=>by
  simp only[IsDs]at h
  obtain⟨v,r,rfl,q,t⟩:=h
  simpa using IsDs.drop n t
theorem IsDs.set {d:D} {v:V} (hd:IsD K ι H d v):∀{ds:List D} {xs:List V} (n:Nat),IsDs K ι H ds xs→IsDs K ι H (ds.set n d) (xs.set n v)
 | [],_,n,h=>by simp only[IsDs]at h;subst h;simp[IsDs]
 | e::ds,xs,0,h=>by
  simp only[IsDs]at h
  obtain⟨w,r,rfl,q,t⟩:=h
  simp only[List.set_cons_zero,IsDs]
  exact⟨v,r,rfl,hd,t⟩
 | e::ds,xs,n+1,h=>by
  simp only[IsDs]at h
  obtain⟨w,r,rfl,q,t⟩:=h
  simp only[List.set_cons_succ,IsDs]
  exact⟨w,_,rfl,q,IsDs.set hd n t⟩
theorem IsDs.eraseIdx:∀{ds:List D} {xs:List V} (n:Nat),IsDs K ι H ds xs→IsDs K ι H (ds.eraseIdx n) (xs.eraseIdx n)
 | [],_,n,h=>by simp only[IsDs]at h;subst h;simp[IsDs]
 | e::ds,xs,0,h=>by
  simp only[IsDs]at h
  obtain⟨w,r,rfl,q,t⟩:=h
  simpa using t
 | e::ds,xs,n+1,h=>by
  simp only[IsDs]at h
  obtain⟨w,r,rfl,q,t⟩:=h
  simp only[List.eraseIdx_cons_succ,IsDs]
  exact⟨w,_,rfl,q,IsDs.eraseIdx n t⟩
theorem IsDs.reverse:∀{ds:List D} {xs:List V},IsDs K ι H ds xs→IsDs K ι H ds.reverse xs.reverse
 | [],_,h=>by simp only[IsDs]at h;subst h;simp[IsDs]
 | e::ds,xs,h=>by
  simp only[IsDs]at h
  obtain⟨w,r,rfl,q,t⟩:=h
  simp only[List.reverse_cons]
  exact(IsDs.reverse t).append (.one q)
theorem IsDs.dropLast {ds:List D} {xs:List V} (h:IsDs K ι H ds xs):IsDs K ι H ds.dropLast xs.dropLast:=by
 rw[List.dropLast_eq_take,List.dropLast_eq_take,h.length]
 exact h.take _
theorem IsDs.rep {ds:List D} {xs:List V} (h:IsDs K ι H ds xs):∀k:Nat,IsDs K ι H (List.replicate k ds).flatten (List.replicate k xs).flatten
 | 0=>by simp[IsDs]
 | k+1=>by
  simp only[List.replicate_succ,List.flatten_cons]
  exact h.append (IsDs.rep h k)
theorem IsDs.ints:∀(ns:List Int),IsDs K ι H (ns.map D.int) (ns.map V.int)
 | []=>by simp[IsDs]
 | n::r=>by
  simp only[List.map_cons,IsDs]
  exact⟨_,_,rfl,by simp[IsD],IsDs.ints r⟩
theorem IsD.puren:∀(k:Nat) (d:D) (v:V),D.pureN k d=true→IsD K ι H d v→IsD K ι' H d v:=by
 have list:∀(k:Nat),(∀(d:D) (v:V),D.pureN k d=true→IsD K ι H d v→IsD K ι' H d v) →
   ∀(ds:List D) (xs:List V),ds.all (D.pureN k)=true→IsDs K ι H ds xs→IsDs K ι' H ds xs:=by
  intro k ih ds
  induction ds with
  | nil=>intro xs _ h;simpa[IsDs]using h
  | cons d ds ihd =>
   intro xs hp h
   simp only[IsDs]at h ⊢
   simp only[List.all_cons,Bool.and_eq_true]at hp
   obtain⟨v,r,e,q,t⟩:=h
   exact⟨v,r,e,ih d v hp.1 q,ihd r hp.2 t⟩
 intro k
 induction k with
 | zero =>
  intro d v hp h
  cases d<;>simp_all[D.pureN,IsD]
 | succ k ih =>
  intro d v hp h
  cases d with
  | tup ds =>
   simp only[D.pureN]at hp
   simp only[IsD]at h ⊢
   obtain⟨a,xs,e,q,r⟩:=h
   exact⟨a,xs,e,q,list k ih ds xs hp r⟩
  | lst ds =>
   simp only[D.pureN]at hp
   simp only[IsD]at h ⊢
   obtain⟨a,xs,e,q,r⟩:=h
   exact⟨a,xs,e,q,list k ih ds xs hp r⟩
  | loc n=>simp[D.pureN]at hp
  | _=>simpa[IsD]using h
theorem IsD.pur {d:D} {v:V} (hp:d.pure=true) (h:IsD K ι H d v):IsD K ι' H d v:=IsD.puren 8 d v hp h
theorem IsDs.pur {ds:List D} {xs:List V} (hp:ds.all (D.pureN 8)=true) (h:IsDs K ι H ds xs):IsDs K ι' H ds xs:=by
 induction ds generalizing xs with
 | nil=>simpa[IsDs]using h
 | cons d ds ih =>
  simp only[IsDs]at h ⊢
  simp only[List.all_cons,Bool.and_eq_true]at hp
  obtain⟨v,r,e,q,t⟩:=h
  exact⟨v,r,e,IsD.pur hp.1 q,ih hp.2 t⟩
end
section
variable (K : PySem.W.Frag) (ι : List Addr) (H : Hp)
noncomputable def KvsK (kvs:List (D×D)) (xs:List (Key×V)):Prop :=
 Paired (fun(p:D×D) (q:Key×V)=>IsD K [] H p.1 (kV q.1)∧IsD K [] H p.2 q.2) kvs xs
noncomputable def KvsT (kvs:List (D×D)) (xs:List (List Key×V)):Prop :=
 Paired (fun(p:D×D) (q:List Key×V)=>(∃ds,p.1=.tup ds∧IsDs K [] H ds (q.1.map kV))∧IsD K [] H p.2 q.2) kvs xs
noncomputable def OIs (a:Addr):O→Prop
 | .l ds=>∃xs,H a=some (.lst xs)∧IsDs K [] H ds xs
 | .r ds=>∃xs,H a=some (.lst xs)∧IsDs K ι H ds xs
 | .d kvs=>∃xs,H a=some (.dK xs)∧KvsK K H kvs xs
 | .dt kvs=>∃xs,H a=some (.dT xs)∧KvsT K H kvs xs
 | .dead=>∃u,H a=some u
structure Sim (μ:Sto):Prop where
 len:ι.length=μ.length
 nd:ι.Nodup
 obj:∀(n:Nat) a o,ι[n]? = some a→μ[n]? = some o→OIs K ι H a o
noncomputable def SimL (σ:Sl) (σv:St):Prop:=∀(i:Nat) d,σ[i]? = some (some d)→∃v,σv[i]? = some (some v)∧IsD K ι H d v
end
section
variable {K : PySem.W.Frag} {ι ι' : List Addr} {H H' : Hp} {μ : Sto} {σ : Sl} {σv : St}
theorem SimL.mono (h:SimL K ι H σ σv) (hp:ι <+: ι') (he:Ext H H'):SimL K ι' H' σ σv:=fun i d e=>by
 obtain⟨v,q,r⟩:=h i d e
 exact⟨v,q,IsD.mono hp he d v r⟩
theorem SimL.set (h:SimL K ι H σ σv) (hl:σ.length=σv.length) {i:Nat} {d:D} {v:V} (hd:IsD K ι H d v):SimL K ι H (σ.set i (some d)) (σv.set i (some v)):=fun j e q=>by
 by_cases hj:i=j
 ·subst hj
  by_cases hi:i<σ.length
  ·rw[List.getElem?_set_self hi]at q
   cases q
   exact⟨v,by rw[List.getElem?_set_self (by lia)],hd⟩
  ·rw[List.getElem?_eq_none (by simp;lia)]at q;cases q
 ·rw[List.getElem?_set_ne hj]at q
  obtain⟨w,q1,q2⟩:=h j e q
  exact⟨w,by rw[List.getElem?_set_ne hj];exact q1,q2⟩
theorem OIs.ne (h:OIs K ι H a o):∃u,H a=some u:=by
 cases o with
 | l ds=>obtain⟨xs,e,_⟩:=h;exact⟨_,e⟩
 | r ds=>obtain⟨xs,e,_⟩:=h;exact⟨_,e⟩
 | d kvs=>obtain⟨xs,e,_⟩:=h;exact⟨_,e⟩
 | dt kvs=>obtain⟨xs,e,_⟩:=h;exact⟨_,e⟩
 | dead=>exact h
theorem OIs.mono {a:Addr} {o:O} (h:OIs K ι H a o) (hp:ι <+: ι') (he:Ext H H') (ha:H' a=H a):OIs K ι' H' a o:=by
 cases o with
 | l ds=>obtain⟨xs,e,q⟩:=h;exact⟨xs,ha.trans e,IsDs.mono (List.prefix_refl _) he ds xs q⟩
 | r ds=>obtain⟨xs,e,q⟩:=h;exact⟨xs,ha.trans e,IsDs.mono hp he ds xs q⟩
 | d kvs =>
  obtain⟨xs,e,q⟩:=h
  exact⟨xs,ha.trans e,Paired.mapP q fun p r z=>⟨IsD.mono (List.prefix_refl _) he _ _ z.1,IsD.mono (List.prefix_refl _) he _ _ z.2⟩⟩
 | dt kvs =>
  obtain⟨xs,e,q⟩:=h
  exact⟨xs,ha.trans e,Paired.mapP q fun p r z=>⟨let ⟨ds,e,t⟩:=z.1;⟨ds,e,IsDs.mono (List.prefix_refl _) he _ _ t⟩,IsD.mono (List.prefix_refl _) he _ _ z.2⟩⟩
 | dead=>obtain⟨u,e⟩:=h;exact⟨u,ha.trans e⟩
theorem Sim.at (h:Sim K ι H μ) {n:Nat} {o:O} (e:μ[n]? = some o):∃a,ι[n]? = some a∧OIs K ι H a o:=by
 have hn:n<ι.length:=by rw[h.len];exact(List.getElem?_eq_some_iff.mp e).1
 exact⟨ι[n],List.getElem?_eq_getElem hn,h.obj n _ o (List.getElem?_eq_getElem hn) e⟩
theorem Sim.used (h:Sim K ι H μ) {n:Nat} {a:Addr} (e:ι[n]? = some a):∃u,H a=some u:=by
 have hn:n<μ.length:=by rw[←h.len];exact(List.getElem?_eq_some_iff.mp e).1
 exact(h.obj n a _ e (List.getElem?_eq_getElem hn)).ne
theorem Sim.new (h:Sim K ι H μ) {p:Addr} {o:HO} (hp:H p=none):Sim K ι (upd H p o) μ :=
 ⟨h.len,h.nd,fun n a ob e1 e2=>by
  obtain⟨u,hu⟩:=h.used e1
  exact(h.obj n a ob e1 e2).mono (List.prefix_refl _) (.new hp) (upd_ne (ne_of_none hu hp))⟩
theorem Sim.push (h:Sim K ι H μ) {p:Addr} {u:HO} {o:O} (hp:H p=none) (ho:OIs K (ι++[p]) (upd H p u) p o):Sim K (ι++[p]) (upd H p u) (μ++[o]):=by
 have hne:∀a∈ι,a≠p:=fun a ha z=>by
  obtain⟨n,hn,e⟩:=List.mem_iff_getElem.mp ha
  obtain⟨u,hu⟩:=h.used (n:=n) (by rw[List.getElem?_eq_getElem hn,e])
  rw[z,hp]at hu;cases hu
 refine⟨by simp[h.len],?_,fun n a ob e1 e2=>?_⟩
 ·refine List.nodup_append.mpr ⟨h.nd,by simp,?_⟩
  intro a ha b hb
  have:b=p:=by simpa using hb
  subst this
  exact hne a ha
 ·by_cases hn:n<ι.length
  ·rw[List.getElem?_append_left hn]at e1
   rw[List.getElem?_append_left (by rw[←h.len];exact hn)]at e2
   exact(h.obj n a ob e1 e2).mono ⟨[p],rfl⟩ (.new hp) (upd_ne (hne a (List.mem_of_getElem? e1)))
  ·have hm:n=ι.length:=by
    have:=(List.getElem?_eq_some_iff.mp e1).1
    simp at this;lia
   subst hm
   simp at e1
   rw[h.len]at e2
   simp at e2
   subst e1;subst e2
   exact ho
theorem Sim.put (h:Sim K ι H μ) {n:Nat} {p:Addr} {u:HO} {o:O} (hn:ι[n]? = some p) (he:Ext H (upd H p u)) (ho:OIs K ι (upd H p u) p o):Sim K ι (upd H p u) (μ.set n o):=by
 refine⟨by simp[h.len],h.nd,fun k a ob e1 e2=>?_⟩
 by_cases hk:n=k
 ·subst hk
  rw[hn]at e1;cases e1
  have:n<μ.length:=by rw[←h.len];exact(List.getElem?_eq_some_iff.mp hn).1
  rw[List.getElem?_set_self this]at e2;cases e2
  exact ho
 ·rw[List.getElem?_set_ne hk]at e2
  refine(h.obj k a ob e1 e2).mono (List.prefix_refl _) he (upd_ne fun z=>hk ?_)
  subst z
  obtain⟨h1,e1'⟩:=List.getElem?_eq_some_iff.mp e1
  obtain⟨h2,e2'⟩:=List.getElem?_eq_some_iff.mp hn
  exact(List.getElem_inj h.nd).mp (e2'.trans e1'.symm)
end
end Lp
namespace Lp
open PySem PySem.Spec PyProof.Rows L2
noncomputable def Post {α β:Type} (K:PySem.W.Frag) (R:List Addr→Hp→α→β→Prop) (ι:List Addr) (H:Hp) (r:Res α) (Q:β→Hp→Prop):Prop:=match r with
 | .ok d μ'=>∀ι' v H',ι <+: ι'→Ext H H'→Sim K ι' H' μ'→R ι' H' d v→Q v H'
 | .exc _ _ _=>False
 | .stuck=>False
noncomputable abbrev RD (K:PySem.W.Frag):List Addr→Hp→D→V→Prop:=fun ι H d v=>IsD K ι H d v
noncomputable abbrev RDs (K:PySem.W.Frag):List Addr→Hp→List D→List V→Prop:=fun ι H d v=>IsDs K ι H d v
noncomputable abbrev RB:List Addr→Hp→Bool→Bool→Prop:=fun _ _ d v=>d=v
noncomputable abbrev RO:List Addr→Hp→Option Int→Option Int→Prop:=fun _ _ d v=>d=v
section
variable {α β γ δ : Type} {K : PySem.W.Frag} {R : List Addr → Hp → α → β → Prop} {S : List Addr → Hp → γ → δ → Prop} {ι ι' : List Addr} {H H' : Hp}
theorem Post.mono {r:Res α} {Q:β→Hp→Prop} (h:Post K R ι H r Q) (hp:ι <+: ι') (he:Ext H H'):Post K R ι' H' r Q:=by
 cases r with
 | ok d μ=>exact fun ι2 v H2 p e s q=>h ι2 v H2 (hp.trans p) (he.trans e) s q
 | exc _ _ _=>exact h
 | stuck=>exact h
theorem Post.imp {r:Res α} {Q Q':β→Hp→Prop} (h:Post K R ι H r Q) (hq:∀v H',Q v H'→Q' v H'):Post K R ι H r Q':=by
 cases r with
 | ok d μ=>exact fun ι2 v H2 p e s q=>hq _ _ (h ι2 v H2 p e s q)
 | exc _ _ _=>exact h
 | stuck=>exact h
theorem Post.ok {d:α} {μ:Sto} {v:β} {Q:β→Hp→Prop} (h:Post K R ι H (.ok d μ) Q) (hs:Sim K ι H μ) (hr:R ι H d v):Q v H:=h ι v H (List.prefix_refl _) (.refl _) hs hr
theorem Post.bind {x:Res α} {f:α→Sto→Res γ} {Q:δ→Hp→Prop} (h:Post K S ι H (x.bind f) Q) :
  ∃d μ1,x=.ok d μ1∧Post K S ι H (f d μ1) Q:=by
 cases x with
 | ok d μ=>exact⟨d,μ,rfl,h⟩
 | exc _ _ _=>exact h.elim
 | stuck=>exact h.elim
end
noncomputable def tE (K:PySem.W.Frag) (φ:Phi) (x:Ex):TE:=fun σv H Q=>∃ι σ μ,Sim K ι H μ∧SimL K ι H σ σv∧Post K (RD K) ι H (evE φ x σ μ) Q
noncomputable def tEs (K:PySem.W.Frag) (φ:Phi) (x:Exs):TA:=fun σv H Q=>∃ι σ μ,Sim K ι H μ∧SimL K ι H σ σv∧Post K (RDs K) ι H (evEs φ x σ μ) Q
noncomputable def tEo (K:PySem.W.Frag) (φ:Phi) (x:ExO):TO:=fun σv H Q=>∃ι σ μ,Sim K ι H μ∧SimL K ι H σ σv∧Post K RO ι H (evO φ x σ μ) Q
noncomputable def tT (K:PySem.W.Frag) (φ:Phi) (x:Ex):TT:=fun σv H Q=>∃ι σ μ,Sim K ι H μ∧SimL K ι H σ σv∧Post K RB ι H ((evE φ x σ μ).bind fun d μ=>tstD d μ) Q
theorem PE.imp {X:Cx} {e:Expr} {t t':TE} (h:PE X e t) (i:∀σ H Q,t' σ H Q→t σ H Q):PE X e t':=fun pins s σ H Q I q=>h pins s σ H Q I (i σ H Q q)
theorem PA.imp {X:Cx} {e:List Expr} {t t':TA} (h:PA X e t) (i:∀σ H Q,t' σ H Q→t σ H Q):PA X e t':=fun pos pins s σ H Q I q=>h pos pins s σ H Q I (i σ H Q q)
theorem PT.imp {X:Cx} {e:Expr} {t t':TT} (h:PT X e t) (i:∀σ H Q,t' σ H Q→t σ H Q):PT X e t':=fun pins s σ H Q I q=>h pins s σ H Q I (i σ H Q q)
theorem PW.imp {X:Cx} {e:Expr} {t t':TT} (h:PW X e t) (i:∀σ H Q,t' σ H Q→t σ H Q):PW X e t':=fun wh pins s σ H Q I q=>h wh pins s σ H Q I (i σ H Q q)
section
variable {X : Cx} {φ : Phi} {a b c : Expr} {xa xb xc : Ex} {pos : Pos}
theorem s_var {i:Nat} {x:Str} (hN:X.N[i]? = some x) (hv:Vis X.env.scope x) (hd:(x==("__debug__":Str))=false) (hcd:(x==("__classdict__":Str))=false):PE X (.Name x pos) (tE X.K φ (.var i)) :=
 PE.imp (pe_var hN hv hd hcd) fun σv H Q ⟨ι,σ,μ,hS,hL,h⟩=>by
  simp only[evE]at h
  split at h
  ·rename_i d e
   obtain⟨v,e1,e2⟩:=hL i d e
   exact⟨v,e1,h.ok hS e2⟩
  ·exact h.elim
theorem s_int {i:Int} {j:Nat}:PE X (.Constant (.int i) j pos) (tE X.K φ (.cst (.int i))) :=
 PE.imp pe_int fun σv H Q ⟨ι,σ,μ,hS,hL,h⟩=>by simp only[evE]at h;exact h.ok hS (by simp[IsD])
theorem s_bl {i:Bool} {j:Nat}:PE X (.Constant (.bool i) j pos) (tE X.K φ (.cst (.bl i))) :=
 PE.imp pe_bl fun σv H Q ⟨ι,σ,μ,hS,hL,h⟩=>by simp only[evE]at h;exact h.ok hS (by simp[IsD])
theorem two {σv:St} {H:Hp} {ι:List Addr} {σ:Sl} {μ:Sto} {f:D→D→Sto→Res D} {Q:VK} {R:V→V→Hp→Prop} (hS:Sim X.K ι H μ) (hL:SimL X.K ι H σ σv)
  (h:Post X.K (RD X.K) ι H ((evE φ xa σ μ).bind fun x μ=>(evE φ xb σ μ).bind fun y μ=>f x y μ) Q)
  (k:∀ι' H' d e x y μ',Sim X.K ι' H' μ'→IsD X.K ι' H' d x→IsD X.K ι' H' e y→Post X.K (RD X.K) ι' H' (f d e μ') Q→R x y H') :
  tE X.K φ xa σv H fun x H1=>tE X.K φ xb σv H1 fun y H2=>R x y H2:=by
 obtain⟨d,μ1,e1,h⟩:=h.bind
 refine⟨ι,σ,μ,hS,hL,?_⟩
 rw[e1]
 intro ι1 x H1 p1 x1 s1 d1
 obtain⟨e,μ2,e2,h⟩:=h.bind
 refine⟨ι1,σ,μ1,s1,hL.mono p1 x1,?_⟩
 rw[e2]
 intro ι2 y H2 p2 x2 s2 d2
 exact k ι2 H2 d e x y μ2 s2 (IsD.mono p2 x2 d x d1) d2 (h.mono (p1.trans p2) (x1.trans x2))
noncomputable def rOp (K:PySem.W.Frag) (f:D→D→Sto→Res D):R2:=fun x y H Q=>∃ι d e μ,Sim K ι H μ∧IsD K ι H d x∧IsD K ι H e y∧Post K (RD K) ι H (f d e μ) Q
theorem s_bin {op:Operator} {m:Mk} (ho:OpR X (binaryOp op) (rOp X.K (opD op m))) (ha:PE X a (tE X.K φ xa)) (hb:PE X b (tE X.K φ xb)):PE X (.BinOp a op b pos) (tE X.K φ (.bin op m xa xb)) :=
 PE.imp (pe_op ho ha hb) fun σv H Q ⟨ι,σ,μ,hS,hL,h⟩=>by
  simp only[evE]at h
  exact two hS hL h fun ι' H' d e x y μ' s d1 d2 p=>⟨ι',d,e,μ',s,d1,d2,p⟩
theorem s_ix (ho:IxR X (rOp X.K ixD)) (ha:PE X a (tE X.K φ xa)) (hb:PE X b (tE X.K φ xb)) (hs:PlainIx b):PE X (.Subscript a b pos) (tE X.K φ (.ix xa xb)) :=
 PE.imp (pe_ix ho ha hb hs) fun σv H Q ⟨ι,σ,μ,hS,hL,h⟩=>by
  simp only[evE]at h
  exact two hS hL h fun ι' H' d e x y μ' s d1 d2 p=>⟨ι',d,e,μ',s,d1,d2,p⟩
theorem s_nil:PA X [] (tEs X.K φ .nil) :=
 PA.imp pa_nil fun σv H Q ⟨ι,σ,μ,hS,hL,h⟩=>by simp only[evEs]at h;exact h.ok hS (by simp[IsDs])
theorem s_cons {es:List Expr} {xs:Exs} (ha:PE X a (tE X.K φ xa)) (hb:PA X es (tEs X.K φ xs)) (hs:starEach (a::es) X.env=(false,eval a X.env)::starEach es X.env):PA X (a::es) (tEs X.K φ (.cons xa xs)) :=
 PA.imp (pa_cons ha hb hs) fun σv H Q ⟨ι,σ,μ,hS,hL,h⟩=>by
  simp only[evEs]at h
  obtain⟨d,μ1,e1,h⟩:=h.bind
  refine⟨ι,σ,μ,hS,hL,?_⟩
  rw[e1]
  intro ι1 x H1 p1 x1 s1 d1
  obtain⟨e,μ2,e2,h⟩:=h.bind
  refine⟨ι1,σ,μ1,s1,hL.mono p1 x1,?_⟩
  rw[e2]
  intro ι2 y H2 p2 x2 s2 d2
  refine h ι2 (x::y) H2 (p1.trans p2) (x1.trans x2) s2 ?_
  show IsDs _ _ _ _ _
  simp only[IsDs]
  exact⟨x,y,rfl,IsD.mono p2 x2 d x d1,d2⟩
theorem s_tup {es:List Expr} {xs:Exs} {k:Nat} (h:PA X es (tEs X.K φ xs)) (hl:∀σ μ ds μ',evEs φ xs σ μ=.ok ds μ'→ds.length≤sizeLine):PE X (.Tuple es k pos) (tE X.K φ (.tup xs)) :=
 PE.imp (pe_tup h) fun σv H Q ⟨ι,σ,μ,hS,hL,h⟩=>by
  simp only[evE]at h
  obtain⟨ds,μ1,e1,h⟩:=h.bind
  refine⟨ι,σ,μ,hS,hL,?_⟩
  rw[e1]
  intro ι1 vs H1 p1 x1 s1 d1
  have hd:IsDs X.K ι1 H1 ds vs:=d1
  refine⟨by rw[hd.length];exact hl σ μ ds μ1 e1,fun p hp=>?_⟩
  refine h ι1 (.ref p) (upd H1 p (.tup vs)) p1 (x1.trans (.new hp)) (s1.new hp) ?_
  show IsD _ _ _ _ _
  simp only[IsD]
  exact⟨p,vs,rfl,.of upd_same,IsDs.mono (List.prefix_refl _) (.new hp) ds vs d1⟩
theorem tT_of {x:Ex} {σv:St} {H:Hp} {Q:Bool→Hp→Prop} (h:tT X.K φ x σv H Q):tE X.K φ x σv H fun v H'=>∃k,v=.bl k∧Q k H':=by
 obtain⟨ι,σ,μ,hS,hL,h⟩:=h
 obtain⟨d,μ1,e1,h⟩:=h.bind
 refine⟨ι,σ,μ,hS,hL,?_⟩
 rw[e1]
 intro ι1 x H1 p1 x1 s1 d1
 cases d with
 | bl k=>exact⟨k,by simpa[IsD]using d1,h ι1 k H1 p1 x1 s1 rfl⟩
 | _=>exact h.elim
theorem s_truth {x:Ex} (ha:PE X a (tE X.K φ x)) (he:∀whole,isTrue a X.env whole=(do let v ←whole;standAt a.pos;holding [v] (truthy v))):PT X a (tT X.K φ x) :=
 PT.imp (pt_truth ha he) fun σv H Q h=>by
  have q:=tT_of h
  obtain⟨ι,σ,μ,hS,hL,q⟩:=q
  exact⟨ι,σ,μ,hS,hL,q.imp fun v H' ⟨k,e,z⟩=>⟨k,by subst e;exact rfl,z⟩⟩
theorem s_pnot (ha:PT X a (tT X.K φ xa)):PT X (.UnaryOp .Not a pos) (tT X.K φ (.not xa)) :=
 PT.imp (pt_not ha) fun σv H Q ⟨ι,σ,μ,hS,hL,h⟩=>by
  simp only[evE]at h
  rw[Res.bind_assoc]at h
  obtain⟨d,μ1,e1,h⟩:=h.bind
  refine⟨ι,σ,μ,hS,hL,?_⟩
  rw[e1]
  cases d with
  | bl k=>exact fun ι1 x H1 p1 x1 s1 d1=>h ι1 (!x) H1 p1 x1 s1 (by cases d1;rfl)
  | _=>exact h.elim
theorem s_enot (ha:PE X a (tE X.K φ xa)):PE X (.UnaryOp .Not a pos) (tE X.K φ (.not xa)) :=
 PE.imp (pe_not ha) fun σv H Q ⟨ι,σ,μ,hS,hL,h⟩=>by
  simp only[evE]at h
  obtain⟨d,μ1,e1,h⟩:=h.bind
  refine⟨ι,σ,μ,hS,hL,?_⟩
  rw[e1]
  intro ι1 x H1 p1 x1 s1 d1
  cases d with
  | bl k=>exact⟨k,by simpa[IsD]using d1,h ι1 (.bl !k) H1 p1 x1 s1 (by simp[IsD])⟩
  | _=>exact h.elim
theorem s_eand {rest:List Expr} (ha:PE X a (tE X.K φ xa)) (hb:PE X (.BoolOp .And (b::rest) pos) (tE X.K φ xb)):PE X (.BoolOp .And (a::b::rest) pos) (tE X.K φ (.and xa xb)) :=
 PE.imp (pe_and ha hb) fun σv H Q ⟨ι,σ,μ,hS,hL,h⟩=>by
  simp only[evE]at h
  obtain⟨d,μ1,e1,h⟩:=h.bind
  refine⟨ι,σ,μ,hS,hL,?_⟩
  rw[e1]
  intro ι1 x H1 p1 x1 s1 d1
  cases d with
  | bl k =>
   refine⟨k,by simpa[IsD]using d1,?_⟩
   cases k with
   | true=>exact⟨ι1,σ,μ1,s1,hL.mono p1 x1,(show Post _ _ _ _ (evE φ xb σ μ1) _ from h).mono p1 x1⟩
   | false=>exact h ι1 (.bl false) H1 p1 x1 s1 (by simp[IsD])
  | _=>exact h.elim
theorem s_por {rest:List Expr} (ha:PT X a (tT X.K φ xa)) (hb:PW X (.BoolOp .Or (b::rest) pos) (tT X.K φ xb)):PW X (.BoolOp .Or (a::b::rest) pos) (tT X.K φ (.or xa xb)) :=
 PW.imp (pw_or ha hb) fun σv H Q ⟨ι,σ,μ,hS,hL,h⟩=>by
  simp only[evE]at h
  rw[Res.bind_assoc]at h
  obtain⟨d,μ1,e1,h⟩:=h.bind
  refine⟨ι,σ,μ,hS,hL,?_⟩
  rw[e1]
  cases d with
  | bl k =>
   intro ι1 x H1 p1 x1 s1 d1
   cases d1
   cases k with
   | true=>exact h ι1 true H1 p1 x1 s1 rfl
   | false=>exact⟨ι1,σ,μ1,s1,hL.mono p1 x1,(show Post _ _ _ _ ((evE φ xb σ μ1).bind _) _ from h).mono p1 x1⟩
  | _=>exact h.elim
end
end Lp
namespace Lp
open PySem PySem.Spec PyProof.Rows L2
noncomputable def PostS (K:PySem.W.Frag) (ι:List Addr) (H:Hp) (r:Res Fl) (E:Ends):Prop:=match r with
 | .ok (.nx σ') μ'=>∀ι' σv H',ι <+: ι'→Ext H H'→Sim K ι' H' μ'→SimL K ι' H' σ' σv→σ'.length=σv.length→E.nx σv H'
 | .ok (.bk σ') μ'=>∀ι' σv H',ι <+: ι'→Ext H H'→Sim K ι' H' μ'→SimL K ι' H' σ' σv→σ'.length=σv.length→E.bk σv H'
 | .ok (.ct σ') μ'=>∀ι' σv H',ι <+: ι'→Ext H H'→Sim K ι' H' μ'→SimL K ι' H' σ' σv→σ'.length=σv.length→E.ct σv H'
 | .ok (.rt d) μ'=>∀ι' v H',ι <+: ι'→Ext H H'→Sim K ι' H' μ'→IsD K ι' H' d v→E.rt v H'
 | .exc _ _ _=>False
 | .stuck=>False
theorem PostS.mono {K:PySem.W.Frag} {ι ι':List Addr} {H H':Hp} {r:Res Fl} {E:Ends} (h:PostS K ι H r E) (hp:ι <+: ι') (he:Ext H H'):PostS K ι' H' r E:=by
 cases r with
 | ok f μ=>cases f<;>exact fun ι2 v H2 p e=>h ι2 v H2 (hp.trans p) (he.trans e)
 | exc _ _ _=>exact h
 | stuck=>exact h
theorem PostS.bind {α:Type} {K:PySem.W.Frag} {ι:List Addr} {H:Hp} {E:Ends} {x:Res α} {f:α→Sto→Res Fl} (h:PostS K ι H (x.bind f) E):∃d μ1,x=.ok d μ1∧PostS K ι H (f d μ1) E:=by
 cases x with
 | ok d μ=>exact⟨d,μ,rfl,h⟩
 | exc _ _ _=>exact h.elim
 | stuck=>exact h.elim
noncomputable def tS (K:PySem.W.Frag) (φ:Phi) (x:Sm):TS:=fun E σv H=>∃ι σ μ,Sim K ι H μ∧SimL K ι H σ σv∧σ.length=σv.length∧PostS K ι H (evS φ x σ μ) E
noncomputable def tSs (K:PySem.W.Frag) (φ:Phi) (x:Sms):TS:=fun E σv H=>∃ι σ μ,Sim K ι H μ∧SimL K ι H σ σv∧σ.length=σv.length∧PostS K ι H (evSs φ x σ μ) E
theorem PS.imp {X:Cx} {e:Stmt} {t t':TS} (h:PS X e t) (i:∀E σ H,t' E σ H→t E σ H):PS X e t':=fun pins s σ H E I q=>h pins s σ H E I (i E σ H q)
theorem PSs.imp {X:Cx} {e:List Stmt} {t t':TS} (h:PSs X e t) (i:∀E σ H,t' E σ H→t E σ H):PSs X e t':=fun pins s σ H E I q=>h pins s σ H E I (i E σ H q)
section
variable {X : Cx} {φ : Phi} {e : Expr} {x : Ex} {pos : Pos} {s : Stmt} {ss : List Stmt} {xs : Sm} {xss : Sms}
theorem k_nil:PSs X [] (tSs X.K φ .nil) :=
 PSs.imp pss_nil fun E σv H ⟨ι,σ,μ,hS,hL,hl,h⟩=>by
  simp only[evSs]at h
  exact h ι σv H (List.prefix_refl _) (.refl _) hS hL hl
theorem k_cons (h1:PS X s (tS X.K φ xs)) (h2:PSs X ss (tSs X.K φ xss)):PSs X (s::ss) (tSs X.K φ (.cons xs xss)) :=
 PSs.imp (pss_cons h1 h2) fun E σv H ⟨ι,σ,μ,hS,hL,hl,h⟩=>by
  simp only[evSs]at h
  refine⟨ι,σ,μ,hS,hL,hl,?_⟩
  obtain⟨f,μ1,e1,h⟩:=h.bind
  rw[e1]
  cases f with
  | nx σ'=>exact fun ι1 σ1 H1 p1 x1 s1 l1 z1=>⟨ι1,σ',μ1,s1,l1,z1,(show PostS _ _ _ (evSs φ xss σ' μ1) _ from h).mono p1 x1⟩
  | rt d=>exact h
  | bk σ'=>exact h
  | ct σ'=>exact h
theorem k_expr (he:PE X e (tE X.K φ x)) (hs:swapsWith e none pos.line X.env=pure false):PS X (.Expr e pos) (tS X.K φ (.ex x)) :=
 PS.imp (ps_expr he hs) fun E σv H ⟨ι,σ,μ,hS,hL,hl,h⟩=>by
  simp only[evS]at h
  obtain⟨d,μ1,e1,h⟩:=h.bind
  refine⟨ι,σ,μ,hS,hL,?_⟩
  rw[e1]
  exact fun ι1 v H1 p1 x1 s1 d1=>h ι1 σv H1 p1 x1 s1 (hL.mono p1 x1) hl
theorem k_ret (he:PE X e (tE X.K φ x)):PS X (.Return (some e) pos) (tS X.K φ (.ret x)) :=
 PS.imp (ps_ret he) fun E σv H ⟨ι,σ,μ,hS,hL,hl,h⟩=>by
  simp only[evS]at h
  obtain⟨d,μ1,e1,h⟩:=h.bind
  refine⟨ι,σ,μ,hS,hL,?_⟩
  rw[e1]
  exact h
theorem k_if {c:Expr} {xc:Ex} {a b:List Stmt} {xa xb:Sms} (hc:PT X c (tT X.K φ xc)) (ha:PSs X a (tSs X.K φ xa)) (hb:PSs X b (tSs X.K φ xb)):PS X (.If c a b pos) (tS X.K φ (.ite xc xa xb)) :=
 PS.imp (ps_if hc ha hb) fun E σv H ⟨ι,σ,μ,hS,hL,hl,h⟩=>by
  simp only[evS]at h
  obtain⟨d,μ1,e1,h⟩:=h.bind
  refine⟨ι,σ,μ,hS,hL,?_⟩
  rw[e1]
  cases d with
  | bl k =>
   intro ι1 x H1 p1 x1 s1 d1
   cases d1
   cases k with
   | true=>exact⟨ι1,σ,μ1,s1,hL.mono p1 x1,hl,(show PostS _ _ _ (evSs φ xa σ μ1) _ from h).mono p1 x1⟩
   | false=>exact⟨ι1,σ,μ1,s1,hL.mono p1 x1,hl,(show PostS _ _ _ (evSs φ xb σ μ1) _ from h).mono p1 x1⟩
  | _=>exact h.elim
noncomputable def slots:Tg→List Nat
 | .one i=>[i]
 | .many is=>is
noncomputable def tG (K:PySem.W.Frag) (tg:Tg):TG:=fun v σv H Q=>∃ι σ d σ',SimL K ι H σ σv∧σ.length=σv.length∧IsD K ι H d v∧bindT tg d σ=some σ' ∧
 ∀σv',SimL K ι H σ' σv'→σ'.length=σv'.length→σv'.length=σv.length→(∀j,j∉slots tg→σv'[j]? = σv[j]?)→Q σv' H
theorem PG.imp {e:Expr} {t t':TG} (h:PG X e t) (i:∀v σ H Q,t' v σ H Q→t v σ H Q):PG X e t':=by
 intro pins s σ H x u Q I r q
 exact h pins s σ H x u Q I r (i _ _ _ _ q)
theorem g_name {i:Nat} {y:Str} (hN:X.N.Nodup) (hi:X.N[i]? = some y) (hx:Loc X.env.scope y) (hf:X.fn y=true∨X.env.scope.names.lookup y=some .local):PG X (.Name y pos) (tG X.K (.one i)) :=
 PG.imp (pg_name hN hi hx hf) fun v σv H Q ⟨ι,σ,d,σ',hL,hl,hd,hb,q⟩=>by
  simp only[bindT,Option.some.injEq]at hb
  subst hb
  exact q _ (hL.set hl hd) (by simp[hl]) (by simp) fun j hj=>List.getElem?_set_ne (fun z=>hj (by simp[slots,z]))
noncomputable def tGs (K:PySem.W.Frag) (is:List Nat):TGs:=fun vs σv H Q=>∃ι σ ds,SimL K ι H σ σv∧σ.length=σv.length∧IsDs K ι H ds vs∧ds.length=is.length ∧
 ∀σv',SimL K ι H ((is.zip ds).foldl (fun s p=>s.set p.1 (some p.2)) σ) σv'→((is.zip ds).foldl (fun s p=>s.set p.1 (some p.2)) σ).length=σv'.length→σv'.length=σv.length→(∀j,j∉is→σv'[j]? = σv[j]?)→Q σv' H
theorem PGs.imp {es:List Expr} {t t':TGs} (h:PGs X es t) (i:∀v σ H Q,t' v σ H Q→t v σ H Q):PGs X es t':=by
 intro pins s σ H vs us Q I r q
 exact h pins s σ H vs us Q I r (i _ _ _ _ q)
theorem gs_nil:PGs X [] (tGs X.K []) :=
 PGs.imp pgs_nil fun vs σv H Q ⟨ι,σ,ds,hL,hl,hd,hn,q⟩=>by
  have e:ds=[]:=List.length_eq_zero_iff.mp hn
  subst e
  exact⟨by simpa[IsDs]using hd,q σv (by simpa using hL) (by simpa using hl) rfl fun _ _=>rfl⟩
theorem gs_cons {i:Nat} {is:List Nat} {es:List Expr} (h1:PG X e (gName i)) (h2:PGs X es (tGs X.K is)) (hs:(assignEach (e::es) X.env).map (·.2)=assign e X.env::(assignEach es X.env).map (·.2)):PGs X (e::es) (tGs X.K (i::is)) :=
 PGs.imp (pgs_cons h1 h2 hs) fun vs σv H Q ⟨ι,σ,ds,hL,hl,hd,hn,q⟩=>by
  cases ds with
  | nil=>simp at hn
  | cons d ds =>
   simp only[IsDs]at hd
   obtain⟨v,r,e,hd1,hd2⟩:=hd
   refine⟨v,r,e,ι,σ.set i (some d),ds,hL.set hl hd1,by simp[hl],hd2,by simpa using hn,fun σv' l z z2 ks=>q σv' (by simpa using l) (by simpa using z) (by simpa using z2) fun j hj=>?_⟩
   have hj':j≠i∧j∉is:=by simpa using hj
   rw[ks j hj'.2,List.getElem?_set_ne (Ne.symm hj'.1)]
theorem g_tup {is:List Nat} {es:List Expr} {k:Nat} (hc:X.calm=true) (h:PGs X es (tGs X.K is)) (hn:(assignEach es X.env).length=is.length) (hst:(assignEach es X.env).findIdx? (·.1)=none) :
  PG X (.Tuple es k pos) (tG X.K (.many is)) :=
 PG.imp (pg_tup hc h hn hst) fun v σv H Q ⟨ι,σ,d,σ',hL,hl,hd,hb,q⟩=>by
  cases d with
  | tup ds =>
   simp only[bindT]at hb
   split at hb
   ·rename_i hlen
    cases hb
    simp only[IsD]at hd
    obtain⟨a,xs,e,hq,hds⟩:=hd
    exact⟨a,xs,e,hq,hds.length.trans hlen,ι,σ,ds,hL,hl,hds,hlen,q⟩
   ·cases hb
  | _=>simp[bindT]at hb
theorem k_set {i:Nat} {y:Str} {pos':Pos} (hN:X.N.Nodup) (hi:X.N[i]? = some y) (hx:Loc X.env.scope y) (hf:X.fn y=true∨X.env.scope.names.lookup y=some .local) (he:PE X e (tE X.K φ x)) (hs:swapsWith e (some (.Name y pos')) pos.line X.env=pure false) :
  PS X (.Assign [.Name y pos'] e pos) (tS X.K φ (.set i x)) :=
 PS.imp (ps_set hN hi hx he hs hf) fun E σv H ⟨ι,σ,μ,hS,hL,hl,h⟩=>by
  simp only[evS]at h
  obtain⟨d,μ1,e1,h⟩:=h.bind
  refine⟨ι,σ,μ,hS,hL,?_⟩
  rw[e1]
  exact fun ι1 v H1 p1 x1 s1 d1=>h ι1 _ H1 p1 x1 s1 ((hL.mono p1 x1).set hl d1) (by simp[hl])
theorem k_unp {is:List Nat} {tg:Expr} (hg:PG X tg (tG X.K (.many is))) (he:PE X e (tE X.K φ x)) (hs:swapsWithSole [tg] e pos.line X.env=pure false) (hw:swappedStores [tg] e X.env=pure none)
  (h1:(assignEach [tg] X.env).map (·.2)=[assign tg X.env]):PS X (.Assign [tg] e pos) (tS X.K φ (.unp is x)) :=
 PS.imp (ps_asg he hg hs hw h1) fun E σv H ⟨ι,σ,μ,hS,hL,hl,h⟩=>by
  simp only[evS]at h
  obtain⟨d,μ1,e1,h⟩:=h.bind
  refine⟨ι,σ,μ,hS,hL,?_⟩
  rw[e1]
  intro ι1 v H1 p1 x1 s1 d1
  split at h
  ·rename_i σ' eb
   exact⟨ι1,σ,d,σ',hL.mono p1 x1,hl,d1,eb,fun σv' l z _ _=>h ι1 σv' H1 p1 x1 s1 l z⟩
  ·exact h.elim
noncomputable def rSet (K:PySem.W.Frag):TSet:=fun o i v H Q=>∃ι a b d μ,Sim K ι H μ∧IsD K ι H a o∧IsD K ι H b i∧IsD K ι H d v∧Post K (fun _ _ _ (_:Unit)=>True) ι H (setD a b d μ) fun _ H'=>Q H'
theorem k_setx {o i:Expr} {xo xi:Ex} {tp:Pos} (hset:PSet X (rSet X.K)) (ho:PE X o (tE X.K φ xo)) (hi:PE X i (tE X.K φ xi)) (he:PE X e (tE X.K φ x))
  (ha:∀v,assign (.Subscript o i tp) X.env v=(do
   let ov ←holding [v] (eval o X.env)
   let iv ←holding [v,ov] (eval i X.env)
   standAt tp
   holding [v,ov,iv] (setItem ov iv v)
   release [v,ov,iv] [])) (hs:swapsWithSole [.Subscript o i tp] e pos.line X.env=pure false) (hw:swappedStores [.Subscript o i tp] e X.env=pure none)
  (h1:(assignEach [.Subscript o i tp] X.env).map (·.2)=[assign (.Subscript o i tp) X.env]):PS X (.Assign [.Subscript o i tp] e pos) (tS X.K φ (.setx xo xi x)) :=
 PS.imp (ps_asg he (pg_sub ho hi hset ha) hs hw h1) fun E σv H ⟨ι,σ,μ,hS,hL,hl,h⟩=>by
  simp only[evS]at h
  obtain⟨d,μ1,e1,h⟩:=h.bind
  refine⟨ι,σ,μ,hS,hL,?_⟩
  rw[e1]
  intro ι1 v H1 p1 x1 s1 d1
  obtain⟨a,μ2,e2,h⟩:=h.bind
  refine⟨ι1,σ,μ1,s1,hL.mono p1 x1,?_⟩
  rw[e2]
  intro ι2 va H2 p2 x2 s2 d2
  obtain⟨b,μ3,e3,h⟩:=h.bind
  refine⟨ι2,σ,μ2,s2,(hL.mono p1 x1).mono p2 x2,?_⟩
  rw[e3]
  intro ι3 vb H3 p3 x3 s3 d3
  obtain⟨_,μ4,e4,h⟩:=h.bind
  refine⟨ι3,a,b,d,μ3,s3,IsD.mono p3 x3 _ _ d2,d3,IsD.mono p3 x3 _ _ (IsD.mono p2 x2 _ _ d1),?_⟩
  rw[e4]
  exact fun ι4 _ H4 p4 x4 s4 _=>h ι4 σv H4 (((p1.trans p2).trans p3).trans p4) (((x1.trans x2).trans x3).trans x4) s4 ((((hL.mono p1 x1).mono p2 x2).mono p3 x3).mono p4 x4) hl
structure Walk (K:PySem.W.Frag) (ι0:List Addr) (H0:Hp) (J:L2.It) (ds:List D) (g:Gd):Prop where
 len:ds.length≤sizeLine
 go:∀(i:Nat) ι H μ,ι0 <+: ι→Ext H0 H→Sim K ι H μ→gd g μ→i<ds.length→J.go i H
 yld:∀(i:Nat) ι H μ x H',ι0 <+: ι→Ext H0 H→Sim K ι H μ→gd g μ→i<ds.length→J.yld i H x H'→Ext H H'∧Sim K ι H' μ∧∃d,ds[i]? = some d∧IsD K ι H' d x
 stop:∀ι H μ,ι0 <+: ι→Ext H0 H→Sim K ι H μ→gd g μ→J.stop ds.length H
noncomputable def tI (K:PySem.W.Frag) (φ:Phi) (it:It):TI:=fun σv H R=>∃ι σ μ,Sim K ι H μ∧SimL K ι H σ σv ∧
 match evI φ it σ μ with
 | .ok (ds,g) μ'=>∀ι' H' J,ι <+: ι'→Ext H H'→Sim K ι' H' μ'→Walk K ι' H' J ds g→R J H'
 | _=>False
theorem PI.imp {tg it:Expr} {t t':TI} (h:PI X tg it t) (i:∀σ H R,t' σ H R→t σ H R):PI X tg it t':=fun pins s σ H R I q=>h pins s σ H R I (i _ _ _ q)
theorem k_for {tg it:Expr} {body:List Stmt} {xt:Tg} {xi:It} {xb:Sms} (hp:PassesOwn (model X.prog X.w) X.A X.env X.xe) (hc:X.calm=true) (hi:PI X tg it (tI X.K φ xi)) (hg:PG X tg (tG X.K xt)) (hb:PSs X body (tSs X.K φ xb))
  (hs:∀x,foldedSetIterable it X.env x=pure x):PS X (.For tg it body [] pos) (tS X.K φ (.loop xt xi xb)) :=
 PS.imp (ps_for hp hc hi hg hb hs) fun E σv H ⟨ι,σ,μ,hS,hL,hl,h⟩=>by
  simp only[evS]at h
  obtain⟨⟨ds,g⟩,μ1,e1,h⟩:=h.bind
  refine⟨ι,σ,μ,hS,hL,?_⟩
  rw[e1]
  intro ι1 H1 J p1 x1 s1 wk
  refine⟨fun i m σv' H'=>m=ds.length-i∧i≤ds.length∧∃ι' σ' μ',ι1 <+: ι'∧Ext H1 H'∧Sim X.K ι' H' μ'∧SimL X.K ι' H' σ' σv'∧σ'.length=σv'.length ∧
   PostS X.K ι' H' (loopR g (fun d σ μ=>onSome (bindT xt d σ) fun σ'=>evSs φ xb σ' μ) (ds.drop i) σ' μ') E,⟨ds.length,by simp,Nat.zero_le _,ι1,σ,μ1,List.prefix_refl _,.refl _,s1,hL.mono p1 x1,hl,?_⟩,?_⟩
  ·simpa using(show PostS _ _ _ (loopR g _ ds σ μ1) _ from h).mono p1 x1
  ·rintro i m σv' H' ⟨rfl,hi,ι',σ',μ',p',x',s',l',z',h'⟩
   by_cases hlt:i<ds.length
   ·obtain⟨d,ed⟩:∃d,ds[i]? = some d:=⟨ds[i],List.getElem?_eq_getElem hlt⟩
    have edrop:ds.drop i=d::ds.drop (i+1):=by
     rw[List.drop_eq_getElem_cons hlt]
     rw[List.getElem?_eq_getElem hlt]at ed
     cases ed;rfl
    rw[edrop]at h'
    simp only[loopR]at h'
    split at h'
    ·rename_i hgd
     right
     refine⟨wk.go i ι' H' μ' p' x' s' hgd hlt,?_⟩
     obtain⟨fl,μ2,e2,h2⟩:=h'.bind
     refine⟨fun σ2 H2=>ds.length-(i+1)<ds.length-i∧∃ι2 σs,ι1 <+: ι2∧Ext H1 H2∧Sim X.K ι2 H2 μ2∧SimL X.K ι2 H2 σs σ2∧σs.length=σ2.length ∧
      PostS X.K ι2 H2 (loopR g (fun d σ μ=>onSome (bindT xt d σ) fun σ'=>evSs φ xb σ' μ) (ds.drop (i+1)) σs μ2) E,?_,?_⟩
     ·rintro σ2 H2 ⟨_,ι2,σs,q1,q2,q3,q4,q5,q6⟩
      exact⟨ds.length-(i+1),by lia,rfl,hlt,ι2,σs,μ2,q1,q2,q3,q4,q5,q6⟩
     ·intro v H2 hy
      obtain⟨x2,s2,d',ed',hd'⟩:=wk.yld i ι' H' μ' v H2 p' x' s' hgd hlt hy
      rw[ed]at ed';cases ed'
      cases eb:bindT xt d σ' with
      | none=>rw[eb]at e2;cases e2
      | some σb =>
       rw[eb]at e2
       refine⟨ι',σ',d,σb,l'.mono (List.prefix_refl _) x2,z',hd',eb,fun σv2 l2 z2 _ _=>⟨ι',σb,μ',s2,l2,z2,?_⟩⟩
       have e2':evSs φ xb σb μ'=.ok fl μ2:=e2
       rw[e2']
       cases fl with
       | nx σ3=>exact fun ι3 σv3 H3 p3 x3 s3 l3 z3=>⟨by lia,ι3,σ3,p'.trans p3,(x'.trans x2).trans x3,s3,l3,z3,(show PostS _ _ _ (loopR g _ (ds.drop (i+1)) σ3 μ2) _ from h2).mono p3 (x2.trans x3)⟩
       | ct σ3=>exact fun ι3 σv3 H3 p3 x3 s3 l3 z3=>⟨by lia,ι3,σ3,p'.trans p3,(x'.trans x2).trans x3,s3,l3,z3,(show PostS _ _ _ (loopR g _ (ds.drop (i+1)) σ3 μ2) _ from h2).mono p3 (x2.trans x3)⟩
       | bk σ3=>exact(show PostS _ _ _ (.ok (.nx σ3) μ2) _ from h2).mono (List.prefix_refl _) x2
       | rt w=>exact(show PostS _ _ _ (.ok (.rt w) μ2) _ from h2).mono (List.prefix_refl _) x2
    ·exact h'.elim
   ·have ei:i=ds.length:=by lia
    subst ei
    simp only[List.drop_length,loopR]at h'
    split at h'
    ·rename_i hgd
     exact .inl ⟨wk.stop ι' H' μ' p' x' s' hgd,h' ι' σv' H' (List.prefix_refl _) (.refl _) s' l' z'⟩
    ·exact h'.elim
end
end Lp
namespace Lp
open PySem PySem.Spec PyProof.Rows L2
theorem lim_line:lim=sizeLine:=by rw[lim_eq];rfl
section
variable {X : Cx} {pins : List (Addr × Obj)} {σ : St} {H : Hp} {s : Shared} {φ : Phi}
theorem _root_.L2.Inv.freeze {p:Addr} {xs:List V} (I:Inv X pins σ H s) (h:H p=some (.lst xs)):∃o,Inv X pins σ (upd H p (.frz o (.lst xs))) s:=by
 have hp:=I.hok p _ h
 obtain⟨hz,its,n,hv,hget⟩:=id hp
 refine⟨{cls:=.type "list",data:=.seq its.toArray n},I.ok,I.os,I.bare,⟨I.base.keep,I.base.slot,fun b o e hn hx=>?_,I.base.there,fun b ys e=>?_,fun b o u e=>?_,fun b ps e=>?_⟩,I.loc,I.cell,?_,fun x c e=>?_,fun q hq=>?_,fun b u e=>?_,I.len⟩
 ·have q:=I.base.free b o e hn hx
  rw[upd_ne (fun z=>by subst z;rw[h]at q;cases q)]
  exact q
 ·have q:=I.base.tups b ys e
  rw[upd_ne (ne_of q h (by intro z;cases z))];exact q
 ·have q:=I.base.frzs b o u e
  rw[upd_ne (ne_of q h (by intro z;cases z))];exact q
 ·obtain⟨more,q⟩:=I.base.tbls b ps e
  exact⟨more,by rw[upd_ne (ne_of q h (by intro z;cases z))];exact q⟩
 ·rw[upd_ne (fun z=>by rw[←z,I.free]at h;cases h)];exact I.free
 ·rw[upd_ne (fun z=>by rw[←z,I.freeC x c e]at h;cases h)];exact I.freeC x c e
 ·obtain⟨e1,e2,e3⟩:=I.pin q hq
  refine⟨e1,?_,e3⟩
  rw[upd_ne (fun z=>by rw[←z,e2]at h;cases h)];exact e2
 ·by_cases hb:b=p
  ·subst hb
   rw[upd_same]at e;cases e
   exact⟨hget,hz,its,n,hv,hget⟩
  ·rw[upd_ne hb]at e
   refine(I.hok b u e).stay (fun c v _ q=>q) (fun c q=>?_) (fun c ys q=>?_)
   ·rw[upd_ne (ne_of q h (by intro z;cases z))];exact q
   ·rw[upd_ne (ne_of q h (by intro z;cases z))];exact q
noncomputable def FQ (Q:VK):VK:=fun v H=>Q v H∨∃p xs,v=.ref p∧H p=some (.lst xs)∧∀o,Q v (upd H p (.frz o (.lst xs)))
theorem EP_fq {Q:VK} {u:Value} (h:EP X pins σ (FQ Q) u s):EP X pins σ Q u s:=by
 obtain⟨v,H',I,r,q⟩:=h
 rcases q with q | ⟨p,xs,rfl,e,q⟩
 ·exact⟨v,H',I,r,q⟩
 ·obtain⟨o,I'⟩:=L2.Inv.freeze I e
  exact⟨_,_,I',r,q o⟩
theorem EP_fq' {A:Around} {E:Value→Shared→Prop} {M:Model} {t:Sem Value} {Q:VK} (h:wpAny M A t (EP X pins σ (FQ Q)) E s):wpAny M A t (EP X pins σ Q) E s:=thn h fun _ _ z=>EP_fq z
theorem PE.fq {e:Expr} {t:TE} (h:PE X e t):PE X e (fun σ H Q=>t σ H (FQ Q)):=fun pins s σ H Q I q=>thn (h pins s σ H _ I q) fun _ _ z=>EP_fq z
theorem SlR.fq {r:V→Option Int→Option Int→Hp→VK→Prop} (h:SlR X r):SlR X (fun x l u H Q=>r x l u H (FQ Q)):=by
 intro pins s σ H x v vl vu lo hi sl Q I rx h1 h2 h3 q
 obtain⟨T,id,e1,e2,e3⟩:=h pins s σ H x v vl vu lo hi sl _ I rx h1 h2 h3 q
 exact⟨T,id,e1,e2,thn e3 fun _ _ z=>EP_fq z⟩
theorem mk_post {K:PySem.W.Frag} {ι:List Addr} {μ:Sto} {ds:List D} {xs:List V} {m:Mk} {Q:VK} {p:Addr} (hS:Sim K ι H μ) (hd:IsDs K ι H ds xs) (h:Post K (RD K) ι H (mkL m ds μ) Q) (hp:H p=none) :
  FQ Q (.ref p) (upd H p (.lst xs)):=by
 cases m with
 | z =>
  refine .inr ⟨p,xs,rfl,upd_same,fun o=>?_⟩
  rw[upd_upd]
  refine h ι (.ref p) _ (List.prefix_refl _) (.new hp) (hS.new hp) ?_
  show IsD _ _ _ _ _
  simp only[IsD]
  exact⟨p,xs,rfl,.inl ⟨o,upd_same⟩,IsDs.mono (List.prefix_refl _) (.new hp) ds xs hd⟩
 | l =>
  simp only[mkL]at h
  split at h
  ·rename_i hpure
   refine .inl (h (ι++[p]) (.ref p) _ ⟨[p],rfl⟩ (.new hp) (hS.push hp ⟨xs,upd_same,IsDs.pur hpure (IsDs.mono (List.prefix_refl _) (.new hp) ds xs hd)⟩) ?_)
   show IsD _ _ _ _ _
   simp only[IsD]
   exact⟨p,rfl,by rw[←hS.len];simp⟩
  ·exact h.elim
 | r =>
  simp only[mkL]at h
  refine .inl (h (ι++[p]) (.ref p) _ ⟨[p],rfl⟩ (.new hp) (hS.push hp ⟨xs,upd_same,IsDs.mono ⟨[p],rfl⟩ (.new hp) ds xs hd⟩) ?_)
  show IsD _ _ _ _ _
  simp only[IsD]
  exact⟨p,rfl,by rw[←hS.len];simp⟩
theorem s_lst {es:List Expr} {xs:Exs} {m:Mk} {pos:Pos} (h:PA X es (tEs X.K φ xs)) (hl:∀σ μ ds μ',evEs φ xs σ μ=.ok ds μ'→ds.length≤sizeLine):PE X (.List es pos) (tE X.K φ (.lst m xs)) :=
 PE.imp (PE.fq (pe_lst h)) fun σv H Q ⟨ι,σ,μ,hS,hL,h⟩=>by
  simp only[evE]at h
  obtain⟨ds,μ1,e1,h⟩:=h.bind
  refine⟨ι,σ,μ,hS,hL,?_⟩
  rw[e1]
  intro ι1 vs H1 p1 x1 s1 d1
  have hd:IsDs X.K ι1 H1 ds vs:=d1
  exact⟨by rw[hd.length];exact hl σ μ ds μ1 e1,fun p hp=>mk_post s1 hd (h.mono p1 x1) hp⟩
theorem seq_of {K:PySem.W.Frag} {ι:List Addr} {μ:Sto} {d:D} {v:V} {ds:List D} (hS:Sim K ι H μ) (hd:IsD K ι H d v) (h:seqOf μ d=some ds) :
  ∃a xs,v=.ref a∧(LsL K H a xs∨SqT K H a xs)∧IsDs K ι H ds xs:=by
 cases d with
 | tup es =>
  cases h
  simp only[IsD]at hd
  obtain⟨a,xs,e,q,r⟩:=hd
  exact⟨a,xs,e,.inr q,r⟩
 | lst es =>
  cases h
  simp only[IsD]at hd
  obtain⟨a,xs,e,q,r⟩:=hd
  exact⟨a,xs,e,.inl (.inr q),r⟩
 | loc n =>
  simp only[IsD]at hd
  obtain⟨a,e,q⟩:=hd
  simp only[seqOf]at h
  split at h
  ·rename_i es em
   cases h
   obtain⟨a',q',ho⟩:=hS.at em
   rw[q]at q';cases q'
   obtain⟨xs,e1,e2⟩:=ho
   exact⟨a,xs,e,.inl (.inl e1),IsDs.mono (List.nil_prefix) (.refl _) _ _ e2⟩
  ·rename_i es em
   cases h
   obtain⟨a',q',ho⟩:=hS.at em
   rw[q]at q';cases q'
   obtain⟨xs,e1,e2⟩:=ho
   exact⟨a,xs,e,.inl (.inl e1),e2⟩
  ·cases h
 | _=>simp[seqOf]at h
theorem list_of {K:PySem.W.Frag} {ι:List Addr} {μ:Sto} {d:D} {v:V} {ds:List D} (hS:Sim K ι H μ) (hd:IsD K ι H d v) (h:listOf μ d=some ds) :
  ∃a xs,v=.ref a∧LsL K H a xs∧IsDs K ι H ds xs:=by
 cases d with
 | lst es =>
  cases h
  simp only[IsD]at hd
  obtain⟨a,xs,e,q,r⟩:=hd
  exact⟨a,xs,e,.inr q,r⟩
 | loc n =>
  simp only[IsD]at hd
  obtain⟨a,e,q⟩:=hd
  simp only[listOf]at h
  split at h
  ·rename_i es em
   cases h
   obtain⟨a',q',ho⟩:=hS.at em
   rw[q]at q';cases q'
   obtain⟨xs,e1,e2⟩:=ho
   exact⟨a,xs,e,.inl e1,IsDs.mono (List.nil_prefix) (.refl _) _ _ e2⟩
  ·rename_i es em
   cases h
   obtain⟨a',q',ho⟩:=hS.at em
   rw[q]at q';cases q'
   obtain⟨xs,e1,e2⟩:=ho
   exact⟨a,xs,e,.inl e1,e2⟩
  ·cases h
 | _=>simp[listOf]at h
theorem OpR.imp {f:Value→Value→Sem Value} {r r':R2} (h:OpR X f r) (i:∀x y H Q,r' x y H Q→r x y H Q):OpR X f r':=fun pins s σ H x y v u Q I rx ry q=>h pins s σ H x y v u Q I rx ry (i _ _ _ _ q)
theorem IxR.imp {r r':R2} (h:IxR X r) (i:∀x y H Q,r' x y H Q→r x y H Q):IxR X r':=fun e1 e2 pins s σ H x y v u Q I rx ry q=>h e1 e2 pins s σ H x y v u Q I rx ry (i _ _ _ _ q)
theorem CallR.imp {f:Value} {r r':List V→Hp→VK→Prop} (h:CallR X f r) (i:∀xs H Q,r' xs H Q→r xs H Q):CallR X f r':=fun pins s σ H xs us Q I rx q=>h pins s σ H xs us Q I rx (i _ _ _ q)
theorem MtR.imp {id:String} {r r':V→List V→Hp→VK→Prop} (h:MtR X id r) (i:∀x xs H Q,r' x xs H Q→r x xs H Q):MtR X id r':=fun pins s σ H x xs v us Q I rx rr q=>h pins s σ H x xs v us Q I rx rr (i _ _ _ _ q)
theorem atI_of {K:PySem.W.Frag} {ι:List Addr} {ds:List D} {xs:List V} {i:Int} {j:Nat} {d:D} (h:IsDs K ι H ds xs) (hi:Lp.ixN ds.length i=some j) (hj:ds[j]? = some d):∃v,atI xs i=some v∧IsD K ι H d v:=by
 obtain⟨v,e,q⟩:=h.get hj
 refine⟨v,?_,q⟩
 unfold atI
 rw[h.length,show L2.ixN ds.length i=some j from hi]
 exact e
theorem ix_ok:IxR X (rOp X.K ixD):=IxR.imp ix_seq fun x y H Q ⟨ι,d,e,μ,hS,hd,he,h⟩=>by
 unfold ixD at h
 split at h
 ·rename_i i
  have hy:y=.int i:=by simpa[IsD]using he
  subst hy
  split at h
  ·rename_i ds es
   obtain⟨a,xs,rfl,hq,hds⟩:=seq_of hS hd es
   split at h
   ·rename_i j ej
    split at h
    ·rename_i d' ed
     obtain⟨v,ev,hv⟩:=atI_of hds ej ed
     have qv:=h.ok hS hv
     rcases hq with hq | hq
     ·exact .inl ⟨a,xs,i,v,rfl,rfl,hq.sq,ev,qv⟩
     ·exact .inr (.inl ⟨a,xs,i,v,rfl,rfl,hq,ev,qv⟩)
    ·exact h.elim
   ·exact h.elim
  ·exact h.elim
 ·exact h.elim
theorem cut_of {K:PySem.W.Frag} {ι:List Addr} {ds:List D} {xs:List V} (h:IsDs K ι H ds xs) (lo hi:Option Int):IsDs K ι H (cut ds lo hi) (cutV xs lo hi):=by
 have e1:∀n d o,Lp.sIx n d o=HT.sIx n d o:=fun n d o=>by cases o<;>rfl
 unfold cut cutV
 rw[h.length,e1,e1]
 exact(h.drop _).take _
end
end Lp
namespace Lp
open PySem PySem.Spec PyProof.Rows L2
noncomputable def clOf (env:Env):List (Str×NameKind)→List (Str×Addr)→List (Str×Addr)
 | [],acc=>acc
 | (n,k)::r,acc=>clOf env r (if k==.free then(n,(env.cells.lookup n).getD 0)::acc else acc)
noncomputable def clStep (env:Env) (x:Str×NameKind) (cs:List (Str×Addr)):Sem (ForInStep (List (Str×Addr))):=match x with
 | (name,kind)=>if kind==.free then(do let a ←cellOf env name;pure (ForInStep.yield ((name,a)::cs)))else pure (ForInStep.yield cs)
theorem closure_go {env:Env}:∀(names:List (Str×NameKind)) (acc:List (Str×Addr)),(∀n,(n,NameKind.free)∈names→∃c,env.cells.lookup n=some c) →
  forIn names acc (clStep env)=pure (clOf env names acc)
 | [],acc,_=>rfl
 | (n,k)::r,acc,h=>by
  rw[List.forIn_cons]
  by_cases hk:k=.free
  ·subst hk
   obtain⟨c,hc⟩:=h n List.mem_cons_self
   have e:clStep env (n,.free) acc=pure (ForInStep.yield ((n,c)::acc)):=by
    simp only[clStep,cellOf,hc,beq_self_eq_true,if_true]
    rfl
   rw[e]
   refine Eq.trans (b:=forIn r ((n,c)::acc) (clStep env)) rfl ?_
   rw[closure_go r ((n,c)::acc) fun m hm=>h m (List.mem_cons_of_mem _ hm)]
   simp[clOf,hc]
  ·have hb:(k==NameKind.free)=false:=by simpa using hk
   have e:clStep env (n,k) acc=pure (ForInStep.yield acc):=by
    unfold clStep
    simp only[hb,Bool.false_eq_true,if_false]
   rw[e]
   refine Eq.trans (b:=forIn r acc (clStep env)) rfl ?_
   rw[closure_go r acc fun m hm=>h m (List.mem_cons_of_mem _ hm)]
   simp[clOf,hb]
theorem closure_eq {env:Env} {scope:Scope} (h:∀n,(n,NameKind.free)∈scope.names→∃c,env.cells.lookup n=some c):closureFor scope env=pure (clOf env scope.names []):=by
 have e:=closure_go (env:=env) scope.names [] h
 have e2:closureFor scope env=(forIn scope.names [] (clStep env)>>=fun cs=>pure cs):=rfl
 rw[e2,e]
 rfl
theorem clOf_sub {env:Env}:∀(names:List (Str×NameKind)) (acc:List (Str×Addr)) (x:Str) (c:Addr),(∀n,(n,NameKind.free)∈names→∃c,env.cells.lookup n=some c)→(clOf env names acc).lookup x=some c→acc.lookup x=some c∨env.cells.lookup x=some c
 | [],acc,x,c,_,h=>.inl h
 | (n,k)::r,acc,x,c,hh,h=>by
  rcases clOf_sub r _ x c (fun m hm=>hh m (List.mem_cons_of_mem _ hm)) h with q | q
  ·by_cases hk:k=.free
   ·subst hk
    obtain⟨c',hc⟩:=hh n List.mem_cons_self
    simp only[beq_self_eq_true,if_true,List.lookup_cons]at q
    by_cases hx:x=n
    ·subst hx
     simp only[beq_self_eq_true,hc,Option.getD_some,Option.some.injEq]at q
     subst q
     exact .inr hc
    ·have hb:(x==n)=false:=beq_eq_false_iff_ne.mpr hx
     rw[hb]at q
     exact .inl q
   ·have hb:(k==NameKind.free)=false:=by simpa using hk
    simp only[hb,Bool.false_eq_true,if_false]at q
    exact .inl q
  ·exact .inr q
theorem clOf_keep {env:Env}:∀(names:List (Str×NameKind)) (acc:List (Str×Addr)) (x:Str),(∃c,acc.lookup x=some c)→∃c,(clOf env names acc).lookup x=some c
 | [],acc,x,h=>h
 | (n,k)::r,acc,x,h=>by
  refine clOf_keep r _ x ?_
  by_cases hk:(k==NameKind.free)=true
  ·rw[if_pos hk,List.lookup_cons]
   cases hx:x==n with
   | true=>exact⟨_,rfl⟩
   | false=>exact h
  ·rw[if_neg hk];exact h
theorem clOf_has {env:Env}:∀(names:List (Str×NameKind)) (acc:List (Str×Addr)) (x:Str),(x,NameKind.free)∈names→∃c,(clOf env names acc).lookup x=some c
 | [],acc,x,h=>by cases h
 | (n,k)::r,acc,x,h=>by
  rcases List.mem_cons.mp h with e | e
  ·cases e
   refine clOf_keep r _ n ?_
   exact⟨(env.cells.lookup n).getD 0,by simp⟩
  ·exact clOf_has r _ x e
noncomputable def blkCx (X:Cx) (scope:Scope) (Nb:List Str) (C:Addr) (s:Shared) (H:Hp) (fp:List Addr):Cx :=
 {X with N:=Nb,s₀:=s,H₀:=H,env:=compEnvC scope (clOf X.env scope.names []) C X.env,outer:=X.stack,stack:=X.stack,ex:=fp,fn:=fun _=>false,pn:=[],xe:=fun _ _=>False}
structure CompScope (sc scope:Scope) (N Nb:List Str) (cap:List Nat) (nl:Nat):Prop where
 kind:scope.kind=.function
 nocell:∀y∈scope.names,y.2≠.cell
 uniq:∀y∈scope.names,scope.names.lookup y.1=some y.2
 free:∀n,(n,NameKind.free)∈scope.names→sc.names.lookup n=some .cell∨sc.names.lookup n=some .free
 fnames:∀n,(relabel scope {scope:=sc,locals:=0,globals:=0,cells:=[]}).names.lookup n=some .cell∨(relabel scope {scope:=sc,locals:=0,globals:=0,cells:=[]}).names.lookup n=some .free→(n,NameKind.free)∈scope.names
 nd:Nb.Nodup
 len:Nb.length=cap.length+nl
 capt:∀(j:Nat) i,cap[j]? = some i→∃x,Nb[j]? = some x∧N[i]? = some x∧(x,NameKind.free)∈scope.names
theorem relabel_eq (scope:Scope) (env env':Env) (h:env.scope=env'.scope):relabel scope env=relabel scope env':=by
 unfold relabel Env.kindOf
 rw[h]
section
variable {X : Cx} {pins : List (Addr × Obj)} {σ : St} {H : Hp} {s : Shared} {scope : Scope} {Nb : List Str} {cap : List Nat} {nl : Nat}
noncomputable def blkSt (cap:List Nat) (nl:Nat) (σ:St):St:=cap.map (fun i=>(σ[i]?).getD none)++List.replicate nl none
theorem blk_start {fp:List Addr} {h':Heap} {tk:Nat} {C:Addr} {m:Str→Option Value} {D:Addr} {n0:Nat} (I:Inv X pins σ H s) (S:CompScope X.env.scope scope X.N Nb cap nl)
  (hf:∀b∈fp,FpOk X pins H b) (hfp:∀b∈fp,∃o,s.heap.get? b=some o) (hk:∀b o,s.heap.get? b=some o→h'.get? b=some o) (hC:s.heap.objs.size≤C) (hD:s.heap.objs.size≤D) (hDC:D≠C)
  (hns:h'.Ns C m) (hm:∀x,m x=none) (hDo:h'.get? D=some {cls:=.type "list",data:=.seq #[] n0}) :
  Inv (blkCx X scope Nb C s H fp) [(D,{cls:=.type "list",data:=.seq #[] n0})] (blkSt cap nl σ) H {s with heap:=h',toks:=tk}:=by
 have hcells:∀n,(n,NameKind.free)∈scope.names→∃c,X.env.cells.lookup n=some c:=fun n hn=>by
  rcases S.free n hn with e | e
  ·exact I.ok.has n (.inl e)
  ·exact I.ok.has n (.inr e)
 have sub:∀x c,(clOf X.env scope.names []).lookup x=some c→X.env.cells.lookup x=some c:=fun x c e=>by
  rcases clOf_sub scope.names [] x c hcells e with q | q
  ·cases q
  ·exact q
 have hlt:∀b∈fp,b<s.heap.objs.size:=fun b hb=>let ⟨o,e⟩:=hfp b hb;Heap.lt_size e
 have hrel:relabel scope X.env=relabel scope {scope:=X.env.scope,locals:=0,globals:=0,cells:=[]}:=relabel_eq _ _ _ rfl
 have hcm:∀x c,X.env.cells.lookup x=some c→c<s.heap.objs.size:=fun x c e=>let ⟨v,q⟩:=I.cell x c e;q.lt
 refine⟨⟨I.ok.mod,by show(relabel scope X.env).kind=_;unfold relabel;exact S.kind,I.ok.glob,I.ok.blt,hC,fun x y c e1 e2=>I.ok.inj x y c (sub x c e1) (sub y c e2),fun x hx=>?_,fun x c hfn=>?_,I.ok.hd,I.ok.frames,.inl rfl,
  fun b hb=>⟨Nat.ne_of_lt (Nat.lt_of_lt_of_le (hlt b hb) hC),fun x c e=>(hf b hb).2.2.2.2.1 x c (sub x c e)⟩,I.bs,Nat.le_trans I.ok.bsz I.sz,fun b o e hb=>?_,fun b hb hb2=>?_,I.stack,I.stkFree⟩,
  rfl,I.bare,Un.kept hk,⟨m,hns,fun i x v e1 e2 e3=>?_⟩,fun x c e=>?_,I.hok.fresh hC,fun x c e=>I.freeC x c (sub x c e),fun p hp=>?_,I.hok.kept hk,?_⟩
 ·have hx':(relabel scope {scope:=X.env.scope,locals:=0,globals:=0,cells:=[]}).names.lookup x=some .cell∨(relabel scope {scope:=X.env.scope,locals:=0,globals:=0,cells:=[]}).names.lookup x=some .free:=by
   rw[←hrel];exact hx
  exact clOf_has scope.names [] x (S.fnames x hx')
 ·cases hfn
 ·rcases(hf b hb).2.2.2.1 with z | z
  ·exact I.ok.noex b o e z
  ·have:=Heap.lt_size e
   exact absurd (Nat.lt_of_lt_of_le this (Nat.le_trans I.ok.bsz z)) (Nat.lt_irrefl _)
 ·rcases List.mem_cons.mp (I.stkSub b hb2)with z | z
  ·exact(hf b hb).2.1 z
  ·exact(hf b hb).2.2.1 z
 ·-- a captured name
  have hi:i<cap.length:=by
   by_cases hi:i<cap.length
   ·exact hi
   ·unfold blkSt at e2
    rw[List.getElem?_append_right (by simpa using hi),List.getElem?_replicate]at e2
    split at e2<;>cases e2
  unfold blkSt at e2
  rw[List.getElem?_append_left (by simpa using hi),List.getElem?_map,List.getElem?_eq_getElem hi]at e2
  simp only[Option.map_some,Option.some.injEq]at e2
  obtain⟨y,q1,q2,q3⟩:=S.capt i _ (List.getElem?_eq_getElem hi)
  have ey:y=x:=Option.some.inj (q1.symm.trans e1)
  subst ey
  have e4:σ[cap[i]]? = some (some v):=by
   cases e5:σ[cap[i]]? with
   | none=>rw[e5]at e2;cases e2
   | some w=>rw[e5]at e2;simp at e2;rw[e2]
  obtain⟨m0,hn0,hl0⟩:=I.loc
  have hkind:X.env.kindOf y=some .cell∨X.env.kindOf y=some .free:=S.free y q3
  obtain⟨u,r,l⟩:=hl0 _ y v q2 e4 (by rcases hkind with z | z;exact .inr (.inl z);exact .inr (.inr z))
  refine⟨u,r,.inr ?_⟩
  rcases l with⟨z,_⟩ | ⟨_,c,ec,hc⟩
  ·rcases hkind with w | w<;>(rw[w]at z;cases z)
  ·obtain⟨c',ec'⟩:=clOf_has (env:=X.env) scope.names [] y q3
   have:c'=c:=by have:=sub y c' ec';rw[ec]at this;cases this;rfl
   subst this
   obtain⟨o,ho,hd⟩:=hc
   refine⟨?_,c',ec',o,hk _ _ ho,hd⟩
   -- a free name is seen as a cell or as free
   have hv:(blkCx X scope Nb C s H fp).env.kindOf y=some .local∨(blkCx X scope Nb C s H fp).env.kindOf y=some .cell∨(blkCx X scope Nb C s H fp).env.kindOf y=some .free:=e3
   rcases hv with z | z | z
   ·exfalso
    have hl:(relabel scope X.env).names.lookup y=some .local:=z
    have mem:∀(l:List (Str×NameKind)) (y:Str),(l.map fun(n,k)=>if(k==NameKind.free&&X.env.scope.kind==.function&&X.env.kindOf n==some .cell)then(n,NameKind.cell)else(n,k)).lookup y=some .local→l.lookup y=some .local:=by
     intro l
     induction l with
     | nil=>intro y h;simp at h
     | cons a r ih =>
      obtain⟨n,k⟩:=a
      intro y h
      simp only[List.map_cons]at h
      rw[List.lookup_cons]
      by_cases hc:(k==NameKind.free&&X.env.scope.kind==.function&&X.env.kindOf n==some .cell)=true
      ·rw[if_pos hc,List.lookup_cons]at h
       cases hy:y==n with
       | true=>rw[hy]at h;cases h
       | false=>rw[hy]at h;exact ih y h
      ·rw[if_neg hc,List.lookup_cons]at h
       cases hy:y==n with
       | true=>rw[hy]at h;exact h
       | false=>rw[hy]at h;exact ih y h
    have hloc:=mem scope.names y hl
    rw[S.uniq (y,NameKind.free) q3]at hloc
    cases hloc
   ·exact .inl z
   ·exact .inr z
 ·obtain⟨v,o,ho,hd⟩:=I.cell x c (sub x c e)
  exact⟨v,o,hk _ _ ho,hd⟩
 ·have e:p=(D,{cls:=.type "list",data:=.seq #[] n0}):=by
   have:p∈([]:List (Addr×Obj))++[(D,{cls:=.type "list",data:=.seq #[] n0})]:=hp
   simpa using this
  subst e
  refine⟨hDo,I.hok.fresh hD,hDC,fun z=>?_,fun v z=>by cases z⟩
  have z':D∈frs X.stack:=z
  rcases List.mem_cons.mp (I.stkSub D z')with w | w
  ·exact absurd (Nat.lt_of_lt_of_le I.lt hD) (by rw[w];exact Nat.lt_irrefl _)
  ·exact I.nofs hD w
 ·show(blkSt cap nl σ).length=Nb.length
  rw[S.len];simp[blkSt]
end
noncomputable abbrev testsOf (ifs:List Expr) (env:Env) (b:Bool):Sem Bool:=forIn ifs b fun c r=>if r=true then do let ok ←isTrue c env (eval c env);pure (ForInStep.yield ok)else pure (ForInStep.yield r)
noncomputable def PTs (X:Cx) (ifs:List Expr) (t:TT):Prop :=
 ∀(pins:List (Addr×Obj)) (s:Shared) (σ:St) (H:Hp) (Q:Bool→Hp→Prop),Inv X pins σ H s→t σ H Q→wpAny (model X.prog X.w) X.A (testsOf ifs X.env true) (TP X pins σ Q) X.xe s
theorem tests_false {M:Model} {A:Around} {E:Value→Shared→Prop} {env:Env} {Q:Bool→Shared→Prop}:∀(ifs:List Expr) {s:Shared},Q false s→wpAny M A (testsOf ifs env false) Q E s
 | [],s,h=>wpAny_pure h
 | c::r,s,h=>by
  show wpAny M A (forIn (c::r) false _) Q E s
  rw[List.forIn_cons]
  exact wpAny_bind (wpAny_pure (tests_false r h))
noncomputable def tTsNil:TT:=fun _ H Q=>Q true H
noncomputable def tTsCons (t u:TT):TT:=fun σ H Q=>t σ H fun b H1=>if b=true then u σ H1 Q else Q false H1
theorem pts_nil {X:Cx}:PTs X [] tTsNil:=fun pins s σ H Q I h=>wpAny_pure ⟨H,I,h⟩
theorem pts_cons {X:Cx} {c:Expr} {r:List Expr} {t u:TT} (h1:PT X c t) (h2:PTs X r u):PTs X (c::r) (tTsCons t u):=fun pins s σ H Q I h=>by
 show wpAny _ _ (forIn (c::r) true _) _ _ s
 rw[List.forIn_cons]
 refine wpAny_bind (wpAny_bind (thn (h1 pins s σ H _ I h) fun b s1 ⟨H1,I1,q1⟩=>wpAny_pure ?_))
 cases b with
 | true=>exact h2 pins s1 σ H1 Q I1 q1
 | false=>exact tests_false r ⟨H1,I1,q1⟩
noncomputable def Kept (σ σ':St):Prop:=σ.length=σ'.length∧∀(i:Nat) v,σ[i]? = some (some v)→σ'[i]? = some (some v)
noncomputable def tComp (wi:TI) (g:TG) (ts:TT) (te:TE) (σb:St→St):TE:=fun σ H Q=>wi σ H fun J H1=>∃W:Nat→Nat→Hp→List V→Prop,(∃m,W 0 m H1 [])∧∀i m H acc,W i m H acc →
 (J.stop i H∧acc.length≤sizeLine∧∀p,H p=none→Q (.ref p) (upd H p (.lst acc))) ∨
 (J.go i H∧acc.length<sizeLine∧∀x H',J.yld i H x H'→g x (σb σ) H' fun σ2 H2=>Kept (σb σ) σ2∧ts σ2 H2 fun b H3=>if b=true then te σ2 H3 fun v H4=>∃m',m'<m∧W (i+1) m' H4 (acc++[v])else ∃m',m'<m∧W (i+1) m' H3 acc)
section
variable {X : Cx} {scope : Scope} {Nb : List Str} {cap : List Nat} {nl : Nat}
theorem _root_.L2.HOk.track {P:Program} {w:World} {H:Hp} {h:Heap} {p:Addr} {o:HO} (x:HOk P w H h) (hp:H p=none) (new:ObjOk P w (upd H p o) h p o):HOk P w (upd H p o) h:=fun b u e=>by
 by_cases hb:b=p
 ·subst hb;rw[upd_same]at e;cases e;exact new
 ·rw[upd_ne hb]at e
  exact(x b u e).stay (fun c v _ q=>q) (fun c q=>by rw[upd_ne (ne_of_none q hp)];exact q) fun c xs q=>by rw[upd_ne (ne_of_none q hp)];exact q
theorem compTurnG {prog:Program} {w:World} {A:Around} {R:Result→Shared→Prop} {s:Shared} {elt target iter:Expr} {ifs:List Expr} {pos:Pos} {it acc:Value} {env:Env} (I:Nat→Shared→Prop)
  (turn:∀n s,I n s→wpAny (model prog w) A (pyNext it) (fun r s₁=>match r with
   | none=>R (.ok .next) s₁
   | some v=>wpAny (model prog w) A (letOwnedTupleGo target it v) (fun _ s₀=>wpAny (model prog w) A (assign target env v) (fun _ s₂ =>
     wpAny (model prog w) A (testsOf ifs env true) (fun ok s₃ =>
      if ok=true then wpAny (model prog w) A (eval elt env) (fun x s₄ =>
       wpAny (model prog w) A (call (.builtin "list.append") [acc,x]) (fun _ s₅=>∃m,m<n∧I m s₅) (fun _ _=>False) s₄) (fun _ _=>False) s₃
      else ∃m,m<n∧I m s₃) (fun _ _=>False) s₂) (fun _ _=>False) s₀) (fun _ _=>False) s₁) (fun _ _=>False) s)
  (n:Nat) (h:I n s) :
  codeAny (model prog w) A (.compLoop (.ListComp elt [⟨target,iter,ifs,0⟩] scope pos) 0 it acc env) R s:=by
 refine codeAny_loop rfl I (fun n s hI=>?_) n h
 show wpAny _ A ((compTurn (.ListComp elt [⟨target,iter,ifs,0⟩] scope pos) 0 it acc env).onRaise (fun x=>do noteFrame x env;theTreesLotGoes x)) _ _ s
 refine wpAny_noted ?_
 rw[compTurn_list]
 have no:∀{α:Type} {t:Sem α} {Q:α→Shared→Prop} {E:Value→Shared→Prop} {s:Shared},wpAny (model prog w) A t Q (fun _ _=>False) s→wpAny (model prog w) A t Q E s:=fun h=>wpAny_mono h (fun _ _ q=>q) fun _ _ q=>q.elim
 refine wpAny_bind (wpAny_standAt (wpAny_bind (wpAny_mono (turn n s hI) (fun r s₁ h₁=>?_) fun _ _ h'=>h'.elim)))
 cases r with
 | none=>exact wpAny_pure h₁
 | some v =>
  refine wpAny_bind (wpAny_mono h₁ (fun _ s₀ h₀=>?_) fun _ _ h'=>h'.elim)
  refine wpAny_bind (wpAny_mono h₀ (fun _ s₂ h₂=>wpAny_bind (wpAny_mono h₂ (fun ok s₃ h₃=>?_) fun _ _ h'=>h'.elim)) fun _ _ h'=>h'.elim)
  cases ok with
  | false=>exact wpAny_pure ⟨rfl,h₃⟩
  | true =>
   exact wpAny_bind (wpAny_bind (wpAny_mono h₃ (fun x s₄ h₄=>wpAny_bind (wpAny_mono h₄ (fun _ s₅ h₅=>wpAny_pure (wpAny_pure ⟨rfl,h₅⟩)) fun _ _ h'=>h'.elim)) fun _ _ h'=>h'.elim))
noncomputable def BlkOk (X:Cx) (scope:Scope) (Nb:List Str) (target:Expr) (ifs:List Expr) (elt:Expr) (g:TG) (ts:TT) (te:TE):Prop :=
 ∀C s H fp,PG (blkCx X scope Nb C s H fp) target g∧PTs (blkCx X scope Nb C s H fp) ifs ts∧PE (blkCx X scope Nb C s H fp) elt te
theorem comp_block {elt target iter:Expr} {ifs:List Expr} {pos:Pos} {g:TG} {ts:TT} {te:TE} {pins:List (Addr×Obj)} {σ:St} {H:Hp} {s:Shared} {it:Addr} {fp:List Addr} {tn:Nat→Heap→Prop} {J:L2.It} {Q:VK} {E:Value→Shared→Prop} {use:Option (Value→Sem Unit)} {QQ:Value→Shared→Prop}
  (S:CompScope X.env.scope scope X.N Nb cap nl) (hc:X.calm=true) (B:BlkOk X scope Nb target ifs elt g ts te) (I:Inv X pins σ H s) (T:Turn X.prog X.w X.K target J fp it tn) (t0:tn 0 s.heap) (hf:∀b∈fp,FpOk X pins H b)
  (h:∃W:Nat→Nat→Hp→List V→Prop,(∃m,W 0 m H [])∧∀i m H acc,W i m H acc →
   (J.stop i H∧acc.length≤sizeLine∧∀p,H p=none→Q (.ref p) (upd H p (.lst acc))) ∨
   (J.go i H∧acc.length<sizeLine∧∀x H',J.yld i H x H'→g x (blkSt cap nl σ) H' fun σ2 H2=>Kept (blkSt cap nl σ) σ2∧ts σ2 H2 fun b H3=>if b=true then te σ2 H3 fun v H4=>∃m',m'<m∧W (i+1) m' H4 (acc++[v])else ∃m',m'<m∧W (i+1) m' H3 acc))
  (hQ:∀(D C:Addr) (s':Shared) m,s.heap.objs.size≤C→(∀h',Heap.SameBut C s'.heap h'→EP X pins σ (fun v H=>H C=none∧Q v H) (.ref D) {s' with heap:=h'})→s'.heap.Ns C m→compPost (model X.prog X.w) X.A E use QQ (.ref D) C (.ok .next) s') :
  wpAny (model X.prog X.w) X.A (newList []) (fun acc s₃=>wpAny (model X.prog X.w) X.A (newFunctionEnv scope X.env.globals (clOf X.env scope.names []) [] X.env.qual none .none (some X.env)) (fun cenv s₄ =>
   codeAny (model X.prog X.w) X.A (.compStart (.ListComp elt [⟨target,iter,ifs,0⟩] scope pos) 0 (.ref it) acc {cenv with scope:=relabel scope X.env}) (compPost (model X.prog X.w) X.A E use QQ acc cenv.locals) s₄) E s₃) E s:=by
 refine wpAny_newObj_type (wpAny_newFunctionEnv S.nocell (by intro y hy;simp at hy) (fun h₁ hns₁ hsb₁=>?_) S.kind)
 dsimp only at hns₁ hsb₁ ⊢
 generalize hH2:s.heap.push {cls:=.type "list",dict:=none,data:=.seq ([]:List Value).toArray}=H2 at hns₁ hsb₁ ⊢
 have hC:H2.objs.size=s.heap.objs.size+1:=by rw[←hH2,Heap.size_push]
 have hDC:s.heap.objs.size≠H2.objs.size:=by rw[hC];exact Nat.ne_of_lt (Nat.lt_succ_self _)
 have hCle:s.heap.objs.size≤H2.objs.size:=by rw[hC];exact Nat.le_succ _
 have old:∀b o,s.heap.get? b=some o→h₁.get? b=some o:=fun b o e=>hsb₁.extBut b o (by rw[hC];exact Nat.ne_of_lt (Nat.lt_succ_of_lt (Heap.lt_size e))) (Heap.get?_push_of_some _ (hH2 ▸ Heap.get?_push_of_some _ e))
 have hDo:h₁.get? s.heap.objs.size=some {cls:=.type "list",data:=.seq #[]}:=hsb₁.extBut _ _ hDC (Heap.get?_push_of_some _ (hH2 ▸ Heap.get?_push_size _ rfl))
 have hfp:∀b∈fp,∃o,s.heap.get? b=some o:=fun b hb=>let ⟨o,e,_⟩:=T.obj 0 _ t0 b hb;⟨o,e⟩
 have hlt:∀b∈fp,b<s.heap.objs.size:=fun b hb=>let ⟨o,e⟩:=hfp b hb;Heap.lt_size e
 obtain⟨W,⟨m0,w0⟩,turn⟩:=h
 obtain⟨BG,BT,BE⟩:=B H2.objs.size s H fp
 have I4:=blk_start (tk:=s.toks+([]:List (Str×Value)).length) I S hf hfp old hCle (Nat.le_refl _) hDC hns₁ (fun x=>by simp) hDo
 have hcells:∀n,(n,NameKind.free)∈scope.names→∃c,X.env.cells.lookup n=some c:=fun n hn=>by
  rcases S.free n hn with e | e
  ·exact I.ok.has n (.inl e)
  ·exact I.ok.has n (.inr e)
 -- what the iterator's objects are to the block
 have stat:∀{H':Hp},(∀b∈fp,H' b=none)→∀b∈fp,FpOk (blkCx X scope Nb H2.objs.size s H fp) [] H' b:=fun hn b hb=>by
  refine⟨hn b hb,Nat.ne_of_lt (Nat.lt_of_lt_of_le (hlt b hb) hCle),fun z=>?_,.inl hb,fun x c e=>?_,fun p hp=>absurd (show p∈([]:List (Addr×Obj))++[]from hp) (by simp)⟩
  ·rcases List.mem_cons.mp (I.stkSub b z)with z | z
   ·exact(hf b hb).2.1 z
   ·exact(hf b hb).2.2.1 z
  ·rcases clOf_sub scope.names [] x c hcells e with q | q
   ·cases q
   ·exact(hf b hb).2.2.2.2.1 x c q
 have loop:∀s₃:Shared,s₃={s with heap:=h₁,toks:=s.toks+([]:List (Str×Value)).length} →
   codeAny (model X.prog X.w) X.A (.compLoop (.ListComp elt [⟨target,iter,ifs,0⟩] scope pos) 0 (.ref it) (.ref s.heap.objs.size) (compEnvC scope (clOf X.env scope.names []) H2.objs.size X.env))
    (compPost (model X.prog X.w) X.A E use QQ (.ref s.heap.objs.size) H2.objs.size) s₃:=by
  rintro s₃ rfl
  refine compTurnG (fun n s'=>∃i H' acc its n',Inv (blkCx X scope Nb H2.objs.size s H fp) [] (blkSt cap nl σ) H' s'∧tn i s'.heap∧(∀b∈fp,H' b=none)∧H' s.heap.objs.size=none ∧
   s'.heap.get? s.heap.objs.size=some {cls:=.type "list",data:=.seq (its:List Value).toArray n'}∧Vals acc its∧W i n H' acc) ?_ m0
   ⟨0,H,[],[],_,I4.pins_of (fun p hp=>absurd hp (by simp)),T.keep _ _ _ t0 fun b hb o e=>old b o e,fun b hb=>(hf b hb).1,I.hok.fresh (Nat.le_refl _),hDo,.nil,w0⟩
  rintro n s5 ⟨i,H5,acc,its,n5,I5,t5,f5,hD5,hget5,hv5,w5⟩
  rcases turn i n H5 acc w5 with⟨stop,hz,q⟩ | ⟨go,hz,q⟩
  ·refine thn (T.done (blkCx X scope Nb H2.objs.size s H fp) rfl rfl rfl hc i [(s.heap.objs.size,{cls:=.type "list",data:=.seq its.toArray n5})] s5 _ H5 _ (I5.pins_of ?_) ?_ t5 stop) fun r s6 ⟨hr,I6⟩=>?_
   ·intro p hp
    have e:p=(s.heap.objs.size,{cls:=.type "list",data:=.seq its.toArray n5}):=by simpa using hp
    subst e
    refine⟨hget5,hD5,hDC,fun z=>?_,fun v z=>by cases z⟩
    rcases List.mem_cons.mp (I.stkSub _ (show s.heap.objs.size∈frs X.stack from z))with w | w
    ·exact absurd I.lt (by rw[←w];exact Nat.lt_irrefl _)
    ·exact I.nofs (Nat.le_refl _) w
   ·intro b hb
    obtain⟨a1,a2,a3,a4,a5,a6⟩:=stat f5 b hb
    refine⟨a1,a2,a3,a4,a5,fun p hp=>?_⟩
    have e:p=(s.heap.objs.size,{cls:=.type "list",data:=.seq its.toArray n5}):=by
     have:p∈([]:List (Addr×Obj))++[(s.heap.objs.size,{cls:=.type "list",data:=.seq its.toArray n5})]:=hp
     simpa using this
    subst e
    exact fun z=>absurd (hlt b hb) (by rw[←z];exact Nat.lt_irrefl _)
   ·subst hr
    have hget6:=(I6.pin (s.heap.objs.size,{cls:=.type "list",data:=.seq its.toArray n5}) (by show _∈([]:List (Addr×Obj))++_;simp)).1
    obtain⟨m6,hn6,_⟩:=I6.loc
    refine hQ _ _ s6 m6 hCle (fun h' hs'=>?_) hn6
    have hk6:∀b o,b≠H2.objs.size→s6.heap.get? b=some o→h'.get? b=some o:=fun b o hb e=>hs'.extBut b o hb e
    have hgetD:=hk6 _ _ hDC hget6
    have Cn:H5 H2.objs.size=none:=I6.free
    have hok':HOk X.prog X.w H5 h':=fun b u e=>by
     refine(I6.hok b u e).stay (fun c v hcc q=>hk6 c v ?_ q) (fun _ q=>q) fun _ _ q=>q
     rcases hcc with z | z
     ·rintro rfl;rw[←z]at e;rw[Cn]at e;cases e
     ·rintro rfl;rw[Cn]at z;cases z
    refine⟨.ref s.heap.objs.size,upd H5 s.heap.objs.size (.lst acc),?_,rfl,by rw[upd_ne (Ne.symm hDC)];exact Cn,q _ hD5⟩
    have hU:Un (frs X.stack) fp H H5 s.heap s6.heap:=I6.base
    have nC:∀b o,s.heap.get? b=some o→b≠H2.objs.size:=fun b o e=>Nat.ne_of_lt (Nat.lt_of_lt_of_le (Heap.lt_size e) hCle)
    have nD:∀b o,s.heap.get? b=some o→b≠s.heap.objs.size:=fun b o e=>Nat.ne_of_lt (Heap.lt_size e)
    refine I.call' (s':={s6 with heap:=h'}) (ch:=fp) (by show s6.os=s.os;exact I6.os) ⟨fun b o e nn hb hx=>hk6 b o (nC b o e) (hU.keep b o e nn hb hx),fun b o e nn hb hx=>?_,fun b o e nn hx=>?_,fun b o e hx=>?_,fun b xs e=>?_,fun b o u e=>?_,fun b ps e=>?_⟩ ?_ I6.bare ?_
    ·obtain⟨sl,e2⟩:=hU.slot b o e nn hb hx
     exact⟨sl,hk6 b _ (nC b o e) e2⟩
    ·rw[upd_ne (nD b o e)];exact hU.free b o e nn hx
    ·obtain⟨o',e2⟩:=hU.there b o e hx
     exact⟨o',hk6 b _ (nC b o e) e2⟩
    ·have e2:=hU.tups b xs e
     rw[upd_ne (ne_of_none e2 hD5)];exact e2
    ·have e2:=hU.frzs b o u e
     rw[upd_ne (ne_of_none e2 hD5)];exact e2
    ·obtain⟨more,e2⟩:=hU.tbls b ps e
     exact⟨more,by rw[upd_ne (ne_of_none e2 hD5)];exact e2⟩
    ·exact L2.HOk.track hok' hD5 ⟨hz,its,n5,hv5,hgetD⟩
    ·intro b hb
     obtain⟨a1,a2,a3,a4,a5,a6⟩:=hf b hb
     exact⟨a4,a2,a5,a6⟩
  ·-- one more turn
   have notfs:s.heap.objs.size∉frs X.stack:=fun z=>by
    rcases List.mem_cons.mp (I.stkSub _ z)with w | w
    ·exact absurd I.lt (by rw[←w];exact Nat.lt_irrefl _)
    ·exact I.nofs (Nat.le_refl _) w
   have I5':Inv (blkCx X scope Nb H2.objs.size s H fp) [(s.heap.objs.size,{cls:=.type "list",data:=.seq its.toArray n5})] (blkSt cap nl σ) H5 s5:=I5.pins_of fun p hp=>by
    have e:p=(s.heap.objs.size,{cls:=.type "list",data:=.seq its.toArray n5}):=by simpa using hp
    subst e
    exact⟨hget5,hD5,hDC,notfs,fun v z=>by cases z⟩
   have stat':∀{H':Hp},(∀b∈fp,H' b=none)→∀b∈fp,FpOk (blkCx X scope Nb H2.objs.size s H fp) [(s.heap.objs.size,{cls:=.type "list",data:=.seq its.toArray n5})] H' b:=fun hn b hb=>by
    obtain⟨a1,a2,a3,a4,a5,a6⟩:=stat hn b hb
    refine⟨a1,a2,a3,a4,a5,fun p hp=>?_⟩
    have e:p=(s.heap.objs.size,{cls:=.type "list",data:=.seq its.toArray n5}):=by
     have:p∈([]:List (Addr×Obj))++[(s.heap.objs.size,{cls:=.type "list",data:=.seq its.toArray n5})]:=hp
     simpa using this
    subst e
    exact fun z=>absurd (hlt b hb) (by rw[←z];exact Nat.lt_irrefl _)
   refine thn (T.item (blkCx X scope Nb H2.objs.size s H fp) rfl rfl rfl hc i _ s5 _ H5 (fun _ _=>False) I5' (stat' f5) t5 go) fun r s6 ⟨u,hr,h6⟩=>?_
   subst hr
   refine thn h6 fun _ s7 ⟨x,H7,I7,r7,y7,t7,f7⟩=>?_
   have I7':=I7.pinned (stat' f7) (T.obj _ _ t7)
   have back:∀{σ':St} {H':Hp} {s':Shared},Inv (blkCx X scope Nb H2.objs.size s H fp) ([(s.heap.objs.size,{cls:=.type "list",data:=.seq its.toArray n5})]++pinsAt fp s7.heap) σ' H' s' →
     tn (i+1) s'.heap∧(∀b∈fp,H' b=none)∧H' s.heap.objs.size=none∧s'.heap.get? s.heap.objs.size=some {cls:=.type "list",data:=.seq its.toArray n5}:=fun {σ' H' s'} J'=>by
    have pD:=J'.pin (s.heap.objs.size,{cls:=.type "list",data:=.seq its.toArray n5}) (by show _∈([]:List (Addr×Obj))++_;simp)
    refine⟨T.keep _ _ _ t7 fun b hb o e=>(J'.pin (b,o) (List.mem_append_right _ (List.mem_append_right _ (mem_pinsAt hb e)))).1,fun b hb=>?_,pD.2.1,pD.1⟩
    obtain⟨o,e,d⟩:=T.obj _ _ t7 b hb
    exact(J'.pin (b,o) (List.mem_append_right _ (List.mem_append_right _ (mem_pinsAt hb e)))).2.1
   refine thn (BG _ s7 _ H7 x u _ I7' r7 (q x H7 y7)) fun _ s8 ⟨σ8,H8,I8,ks,q8⟩=>?_
   refine thn (BT _ s8 σ8 H8 _ I8 q8) fun ok s9 ⟨H9,I9,q9⟩=>?_
   cases ok with
   | false =>
    obtain⟨m',hm',w9⟩:∃m',m'<n∧W (i+1) m' H9 acc:=q9
    obtain⟨b1,b2,b3,b4⟩:=back I9
    exact⟨m',hm',i+1,H9,acc,its,n5,(I9.weak ks.1 ks.2).pins_of (fun p hp=>absurd hp (by simp)),b1,b2,b3,b4,hv5,w9⟩
   | true =>
    refine thn (BE _ s9 σ8 H9 _ I9 q9) fun xv s10 ⟨v,H10,I10,r10,m',hm',w10⟩=>?_
    obtain⟨b1,b2,b3,b4⟩:=back I10
    have hl5:=hv5.length
    refine wpAny_list_append_plain (items:=its.toArray) ⟨n5,b4⟩ (fun h' hpl hs'=>?_) (by rw[List.size_toArray,←hl5];exact Nat.le_of_lt hz)
    obtain⟨n6,hg6⟩:=hpl
    have I11:Inv (blkCx X scope Nb H2.objs.size s H fp) [] (blkSt cap nl σ) H10 {s10 with heap:=h'}:=by
     have I10':=(I10.weak ks.1 ks.2).pins_of (pins':=[]) (fun p hp=>absurd hp (by simp))
     refine I10'.turned (t':=s10.toks) (it:=s.heap.objs.size) (fun b o hb e=>hs'.extBut b o hb e) b3 hDC (.inr (Nat.le_refl _)) (fun x c e=>?_) (fun p hp=>absurd (show p∈([]:List (Addr×Obj))++[]from hp) (by simp))
     rcases clOf_sub scope.names [] x c hcells e with q | q
     ·cases q
     ·obtain⟨v,hcc⟩:=I.cell x c q
      exact Nat.ne_of_lt hcc.lt
    refine⟨m',hm',i+1,H10,acc++[v],its++[xv],n6,I11,?_,b2,b3,by rw[hg6];simp,hv5.append (.cons r10 .nil),w10⟩
    exact T.keep _ _ _ b1 fun b hb o e=>hs'.extBut b o (Nat.ne_of_lt (hlt b hb)) e
 exact codeAny_compStart_list (loop _ rfl) (T.self X.A 0 _ _ _ (T.keep _ _ _ t0 fun b hb o e=>old b o e) (loop _ rfl))
theorem pe_comp {elt target iter:Expr} {ifs:List Expr} {pos:Pos} {wi:TI} {g:TG} {ts:TT} {te:TE} (S:CompScope X.env.scope scope X.N Nb cap nl) (hc:X.calm=true) (hi:PI X target iter wi) (B:BlkOk X scope Nb target ifs elt g ts te)
  (hs:∀x,foldedSetIterable iter X.env x=pure x):PE X (.ListComp elt [⟨target,iter,ifs,0⟩] scope pos) (tComp wi g ts te (blkSt cap nl)):=by
 intro pins s σ H Q I h
 rw[eval_ListComp]
 have hcells:∀n,(n,NameKind.free)∈scope.names→∃c,X.env.cells.lookup n=some c:=fun n hn=>by
  rcases S.free n hn with e | e
  ·exact I.ok.has n (.inl e)
  ·exact I.ok.has n (.inr e)
 refine wpAny_comprehension_free (use:=none) rfl hs (closure_eq hcells) S.kind (fun y hy hl=>by rw[S.uniq y hy,hl]) ?_
 refine thn (hi pins s σ H _ I h) fun v s1 h1=>thn h1 fun itv s2 ⟨it,fp,tn,J,H2,e,I2,T,t2,f2,hW⟩=>?_
 subst e
 exact comp_block (Q:=Q) (QQ:=EP X pins σ Q) S hc B I2 T t2 f2 hW fun D C s' m _ hq hn=>⟨m,hn,fun h' hs'=>let ⟨v,H',I',r,q⟩:=hq h' hs';⟨v,H',I',r,q.2⟩⟩
theorem ps_setcomp {elt target iter:Expr} {ifs:List Expr} {pos spos py:Pos} {y:Str} {i:Nat} {wi:TI} {g:TG} {ts:TT} {te:TE} (S:CompScope X.env.scope scope X.N Nb cap nl) (hc:X.calm=true) (hi:PI X target iter wi) (B:BlkOk X scope Nb target ifs elt g ts te)
  (hs:∀x,foldedSetIterable iter X.env x=pure x) (hsw:swapsWith (.ListComp elt [⟨target,iter,ifs,0⟩] scope pos) (some (.Name y py)) spos.line X.env=pure true)
  (hN:X.N.Nodup) (hiN:X.N[i]? = some y) (hy:X.env.scope.names.lookup y=some .local) :
  PS X (.Assign [.Name y py] (.ListComp elt [⟨target,iter,ifs,0⟩] scope pos) spos) (fun E σ H=>tComp wi g ts te (blkSt cap nl) σ H (FQ fun v H1=>E.nx (σ.set i (some v)) H1)):=by
 intro pins s σ H E I h
 rw[exec_Assign_Name_used _ _ _ _ hsw]
 have hcells:∀n,(n,NameKind.free)∈scope.names→∃c,X.env.cells.lookup n=some c:=fun n hn=>by
  rcases S.free n hn with e | e
  ·exact I.ok.has n (.inl e)
  ·exact I.ok.has n (.inr e)
 refine wpAny_bind (wpAny_standAt (wpAny_bind ?_))
 show wpAny _ _ (comprehension _ scope X.env _ (newList []) false (eval iter X.env) (some (assign (.Name y py) X.env))>>=fun _=>pure ()) _ _ _
 refine wpAny_bind (wpAny_comprehension_free (use:=some (assign (.Name y py) X.env)) rfl hs (closure_eq hcells) S.kind (fun z hz hl=>by rw[S.uniq z hz,hl]) ?_)
 refine thn (hi pins s σ H _ I h) fun v s1 h1=>thn h1 fun itv s2 ⟨it,fp,tn,J,H2,e,I2,T,t2,f2,hW⟩=>?_
 subst e
 refine comp_block (Q:=FQ fun v H1=>E.nx (σ.set i (some v)) H1) S hc B I2 T t2 f2 hW fun D C s' m hC hq hn=>?_
 obtain⟨v,H',I',r,hCn,q⟩:=hq s'.heap (.refl ..)
 have hep:∃H',Inv X pins σ H' s'∧H' C=none∧E.nx (σ.set i (some v)) H':=by
  rcases q with q | ⟨p,xs,rfl,e,q⟩
  ·exact⟨H',I',hCn,q⟩
  ·obtain⟨o,I''⟩:=L2.Inv.freeze I' e
   exact⟨_,I'',by rw[upd_ne (fun z=>by rw[z,e]at hCn;cases hCn)];exact hCn,q o⟩
 obtain⟨H',I',hCn,q⟩:=hep
 have hCL:C≠X.env.locals:=Nat.ne_of_gt (Nat.lt_of_lt_of_le I2.lt hC)
 show wpAny _ _ (assign (.Name y py) X.env (.ref D)) _ _ s'
 refine wpAny_assign_Name (store_ok2 I' hN hiN (.inl hy) r (fun s'' I'' ⟨a,hsb,ha⟩=>?_) (.inr hy))
 have haC:C≠a:=by
  rcases ha with z | z
  ·rw[z];exact hCL
  ·obtain⟨w,hc⟩:=I2.cell y a z
   exact Nat.ne_of_gt (Nat.lt_of_lt_of_le hc.lt hC)
 refine⟨m,hn.sameBut hsb haC,fun h' hs'=>?_⟩
 refine wpAny_pure (wpAny_pure ⟨_,H',?_,q⟩)
 refine I''.turned (t':=s''.toks) (it:=C) (fun b o hb e=>hs'.extBut b o hb e) hCn hCL (.inr (Nat.le_trans I2.sz hC)) (fun x c e=>?_) (fun p hp=>?_)
 ·obtain⟨w,hc⟩:=I2.cell x c e
  exact Nat.ne_of_lt (Nat.lt_of_lt_of_le hc.lt hC)
 ·exact Nat.ne_of_lt (Nat.lt_of_lt_of_le (Heap.lt_size (I2.pin p hp).1) hC)
end
end Lp
namespace Lp
open PySem PySem.Spec PyProof.Rows L2
noncomputable def tTs (K:PySem.W.Frag) (φ:Phi) (x:Exs):TT:=fun σv H Q=>∃ι σ μ,Sim K ι H μ∧SimL K ι H σ σv∧Post K RB ι H (evCs φ x σ μ) Q
section
variable {X : Cx} {φ : Phi} {scope : Scope} {Nb : List Str} {cap : List Nat} {nl : Nat}
theorem PTs.imp {ifs:List Expr} {t t':TT} (h:PTs X ifs t) (i:∀σ H Q,t' σ H Q→t σ H Q):PTs X ifs t':=fun pins s σ H Q I q=>h pins s σ H Q I (i σ H Q q)
theorem ts_nil:PTs X [] (tTs X.K φ .nil):=PTs.imp pts_nil fun σv H Q ⟨ι,σ,μ,hS,hL,h⟩=>by
 simp only[evCs]at h
 exact h.ok hS rfl
theorem ts_cons {c:Expr} {r:List Expr} {xc:Ex} {xr:Exs} (h1:PT X c (tT X.K φ xc)) (h2:PTs X r (tTs X.K φ xr)):PTs X (c::r) (tTs X.K φ (.cons xc xr)):=PTs.imp (pts_cons h1 h2) fun σv H Q ⟨ι,σ,μ,hS,hL,h⟩=>by
 simp only[evCs]at h
 obtain⟨d,μ1,e1,h⟩:=h.bind
 refine⟨ι,σ,μ,hS,hL,?_⟩
 rw[e1]
 cases d with
 | bl k =>
  intro ι1 x H1 p1 x1 s1 d1
  cases d1
  cases k with
  | true=>exact⟨ι1,σ,μ1,s1,hL.mono p1 x1,(show Post _ _ _ _ (evCs φ xr σ μ1) _ from h).mono p1 x1⟩
  | false=>exact h ι1 false H1 p1 x1 s1 rfl
 | _=>exact h.elim
theorem blk_simL {K:PySem.W.Frag} {ι:List Addr} {H:Hp} {σ:Sl} {σv:St} (hL:SimL K ι H σ σv):SimL K ι H (cap.map (fun i=>(σ[i]?).getD none)++List.replicate nl none) (blkSt cap nl σv):=fun j d e=>by
 by_cases hj:j<cap.length
 ·rw[List.getElem?_append_left (by simpa using hj),List.getElem?_map,List.getElem?_eq_getElem hj]at e
  simp only[Option.map_some,Option.some.injEq]at e
  have e4:σ[cap[j]]? = some (some d):=by
   cases e5:σ[cap[j]]? with
   | none=>rw[e5]at e;cases e
   | some w=>rw[e5]at e;simp at e;rw[e]
  obtain⟨v,q1,q2⟩:=hL _ _ e4
  refine⟨v,?_,q2⟩
  unfold blkSt
  rw[List.getElem?_append_left (by simpa using hj),List.getElem?_map,List.getElem?_eq_getElem hj]
  simp[q1]
 ·rw[List.getElem?_append_right (by simpa using hj),List.getElem?_replicate]at e
  split at e<;>cases e
theorem blk_kept {σv σv':St} {tg:Tg} (hs:∀j∈slots tg,cap.length≤j) (hl:σv'.length=(blkSt cap nl σv).length) (h:∀j,j∉slots tg→σv'[j]? = (blkSt cap nl σv)[j]?):Kept (blkSt cap nl σv) σv':=by
 refine⟨hl.symm,fun i v e=>?_⟩
 have hi:i<cap.length:=by
  by_cases hi:i<cap.length
  ·exact hi
  ·unfold blkSt at e
   rw[List.getElem?_append_right (by simpa using hi),List.getElem?_replicate]at e
   split at e<;>cases e
 rw[h i fun z=>absurd (hs i z) (by lia)]
 exact e
theorem comp_read {m:Mk} {tg:Tg} {it:It} {cs:Exs} {elt:Ex} {σv:St} {H:Hp} {Q:VK} (hs:∀j∈slots tg,cap.length≤j) (h:tE X.K φ (.comp m cap nl tg it cs elt) σv H Q) :
  tComp (tI X.K φ it) (tG X.K tg) (tTs X.K φ cs) (tE X.K φ elt) (blkSt cap nl) σv H (FQ Q):=by
 obtain⟨ι,σ,μ,hS,hL,h⟩:=h
 simp only[evE]at h
 obtain⟨⟨ds,g⟩,μ1,e1,h⟩:=h.bind
 refine⟨ι,σ,μ,hS,hL,?_⟩
 rw[e1]
 intro ι1 H1 J p1 x1 s1 wk
 refine⟨fun i k H' acc=>k=ds.length-i∧i≤ds.length∧acc.length≤i∧∃ι' μ' ys,ι1 <+: ι'∧Ext H1 H'∧Sim X.K ι' H' μ'∧IsDs X.K ι' H' ys acc ∧
  Post X.K (RD X.K) ι' H' ((mapR g (fun d μ=>onSome (bindT tg d (cap.map (fun i=>(σ[i]?).getD none)++List.replicate nl none)) fun σ' =>
    (evCs φ cs σ' μ).bind fun b μ=>if b=true then(evE φ elt σ' μ).bind fun x μ=>.ok [x] μ else .ok [] μ) (ds.drop i) μ').bind fun xs μ=>mkL m (ys++xs) μ) Q,
  ⟨ds.length,by simp,Nat.zero_le _,Nat.le_refl _,ι1,μ1,[],List.prefix_refl _,.refl _,s1,by simp[IsDs],?_⟩,?_⟩
 ·simpa using h.mono p1 x1
 ·rintro i k H' acc ⟨rfl,hi,hacc,ι',μ',ys,p',x',s',hys,h'⟩
  have wl:=wk.len
  by_cases hlt:i<ds.length
  ·obtain⟨d,ed⟩:∃d,ds[i]? = some d:=⟨ds[i],List.getElem?_eq_getElem hlt⟩
   have edrop:ds.drop i=d::ds.drop (i+1):=by
    rw[List.drop_eq_getElem_cons hlt]
    rw[List.getElem?_eq_getElem hlt]at ed
    cases ed;rfl
   rw[edrop]at h'
   simp only[mapR]at h'
   split at h'
   ·rename_i hgd
    right
    refine⟨wk.go i ι' H' μ' p' x' s' hgd hlt,by lia,fun v H2 hy=>?_⟩
    obtain⟨x2,s2,d',ed',hd'⟩:=wk.yld i ι' H' μ' v H2 p' x' s' hgd hlt hy
    rw[ed]at ed';cases ed'
    rw[Res.bind_assoc]at h'
    cases eb:bindT tg d (cap.map (fun i=>(σ[i]?).getD none)++List.replicate nl none)with
    | none=>rw[eb]at h';exact h'.elim
    | some σb =>
     rw[eb]at h'
     simp only[onSome_some]at h'
     have hLb:=blk_simL (cap:=cap) (nl:=nl) ((hL.mono (p1.trans p') (x1.trans x')).mono (List.prefix_refl _) x2)
     refine⟨ι',_,d,σb,hLb,?_,hd',eb,fun σv2 l2 z2 z3 k2=>⟨blk_kept hs z3 k2,ι',σb,μ',s2,l2,?_⟩⟩
     ·simp[blkSt]
     ·rw[Res.bind_assoc]at h'
      obtain⟨b,μ2,e2,h2⟩:=h'.bind
      rw[e2]
      intro ι3 b' H3 p3 x3 s3 d3
      cases d3
      cases b with
      | false =>
       refine⟨ds.length-(i+1),by lia,rfl,hlt,by lia,ι3,μ2,ys,p'.trans p3,(x'.trans x2).trans x3,s3,IsDs.mono p3 (x2.trans x3) _ _ hys,?_⟩
       have h3:=h2.mono p3 (x2.trans x3)
       simpa[Res.bind_assoc]using h3
      | true =>
       simp only[if_true]at h2 ⊢
       rw[Res.bind_assoc]at h2
       obtain⟨y,μ3,e3,h3⟩:=h2.bind
       refine⟨ι3,σb,μ2,s3,l2.mono p3 x3,?_⟩
       rw[e3]
       intro ι4 w H4 p4 x4 s4 d4
       refine⟨ds.length-(i+1),by lia,rfl,hlt,by simp;lia,ι4,μ3,ys++[y],(p'.trans p3).trans p4,((x'.trans x2).trans x3).trans x4,s4,(IsDs.mono (p3.trans p4) ((x2.trans x3).trans x4) _ _ hys).append (.one d4),?_⟩
       have h4:=h3.mono (p3.trans p4) ((x2.trans x3).trans x4)
       simpa[Res.bind_assoc]using h4
   ·exact h'.elim
  ·have ei:i=ds.length:=by lia
   subst ei
   simp only[List.drop_length,mapR]at h'
   split at h'
   ·rename_i hgd
    refine .inl ⟨wk.stop ι' H' μ' p' x' s' hgd,by lia,fun p hp=>mk_post s' hys (by simpa using h') hp⟩
   ·exact h'.elim
theorem s_comp {e target iter:Expr} {ifs:List Expr} {pos:Pos} {m:Mk} {tg:Tg} {it:It} {cs:Exs} {elt:Ex} (S:CompScope X.env.scope scope X.N Nb cap nl) (hc:X.calm=true) (hi:PI X target iter (tI X.K φ it))
  (B:BlkOk X scope Nb target ifs e (tG X.K tg) (tTs X.K φ cs) (tE X.K φ elt)) (hf:∀x,foldedSetIterable iter X.env x=pure x) (hs:∀j∈slots tg,cap.length≤j) :
  PE X (.ListComp e [⟨target,iter,ifs,0⟩] scope pos) (tE X.K φ (.comp m cap nl tg it cs elt)) :=
 PE.imp (PE.fq (pe_comp S hc hi B hf)) fun σv H Q h=>comp_read hs h
theorem k_setcomp {e target iter:Expr} {ifs:List Expr} {pos spos py:Pos} {y:Str} {i:Nat} {m:Mk} {tg:Tg} {it:It} {cs:Exs} {elt:Ex} (S:CompScope X.env.scope scope X.N Nb cap nl) (hc:X.calm=true) (hi:PI X target iter (tI X.K φ it))
  (B:BlkOk X scope Nb target ifs e (tG X.K tg) (tTs X.K φ cs) (tE X.K φ elt)) (hf:∀x,foldedSetIterable iter X.env x=pure x) (hs:∀j∈slots tg,cap.length≤j)
  (hsw:swapsWith (.ListComp e [⟨target,iter,ifs,0⟩] scope pos) (some (.Name y py)) spos.line X.env=pure true) (hN:X.N.Nodup) (hiN:X.N[i]? = some y) (hy:X.env.scope.names.lookup y=some .local) :
  PS X (.Assign [.Name y py] (.ListComp e [⟨target,iter,ifs,0⟩] scope pos) spos) (tS X.K φ (.set i (.comp m cap nl tg it cs elt))) :=
 PS.imp (ps_setcomp S hc hi B hf hsw hN hiN hy) fun E σv H ⟨ι,σ,μ,hS,hL,hl,h⟩=>by
  refine comp_read (m:=m) (Q:=fun v H1=>E.nx (σv.set i (some v)) H1) hs ?_
  simp only[evS]at h
  obtain⟨d,μ1,e1,h⟩:=h.bind
  refine⟨ι,σ,μ,hS,hL,?_⟩
  rw[e1]
  exact fun ι1 v H1 p1 x1 s1 d1=>h ι1 _ H1 p1 x1 s1 ((hL.mono p1 x1).set hl d1) (by simp[hl])
end
end Lp
namespace Lp
open PySem PySem.Spec PyProof.Rows L2
section
variable {X : Cx} {φ : Phi}
theorem tup_of {K:PySem.W.Frag} {ι:List Addr} {H:Hp} {ds:List D} {v:V} (h:IsD K ι H (.tup ds) v):∃a xs,v=.ref a∧SqT K H a xs∧IsDs K ι H ds xs:=by
 simpa[IsD]using h
theorem tup_is {K:PySem.W.Frag} {ι:List Addr} {H:Hp} {ds:List D} {a:Addr} {xs:List V} (h:SqT K H a xs) (h2:IsDs K ι H ds xs):IsD K ι H (.tup ds) (.ref a):=by
 simp only[IsD]
 exact⟨a,xs,rfl,h,h2⟩
theorem int_of {K:PySem.W.Frag} {ι:List Addr} {H:Hp} {i:Int} {v:V} (h:IsD K ι H (.int i) v):v=.int i:=by simpa[IsD]using h
theorem bl_of {K:PySem.W.Frag} {ι:List Addr} {H:Hp} {i:Bool} {v:V} (h:IsD K ι H (.bl i) v):v=.bl i:=by simpa[IsD]using h
theorem tup_post {K:PySem.W.Frag} {ι:List Addr} {H:Hp} {μ:Sto} {ds:List D} {xs:List V} {Q:VK} {p:Addr} (hS:Sim K ι H μ) (hd:IsDs K ι H ds xs) (h:Post K (RD K) ι H (.ok (.tup ds) μ) Q) (hp:H p=none):Q (.ref p) (upd H p (.tup xs)) :=
 h ι (.ref p) _ (List.prefix_refl _) (.new hp) (hS.new hp) (tup_is (.of upd_same) (IsDs.mono (List.prefix_refl _) (.new hp) ds xs hd))
theorem cat_lists {pins:List (Addr×Obj)} {s:Shared} {σ:St} {H:Hp} {l b:Addr} {xs zs:List V} {Q:VK} (I:Inv X pins σ H s) (hl:LsL X.K H l xs) (hb:LsL X.K H b zs) (hz:xs.length+zs.length≤sizeLine)
  (q:∀p,H p=none→Q (.ref p) (upd H p (.lst (xs++zs)))):wpAny (model X.prog X.w) X.A (binaryOp .Add (.ref l) (.ref b)) (EP X pins σ Q) X.xe s:=by
 obtain⟨z,its,n,r,hl,e⟩:=I.ls hl
 obtain⟨z2,its2,n2,r2,hl2,e2⟩:=I.ls hb
 refine PySem.P.add_list e e2 ?_ (by rw[List.size_toArray,List.size_toArray];lia)
 have ea:its.toArray++its2.toArray=(its++its2).toArray:=by simp
 rw[ea]
 exact⟨.ref _,_,I.lnew (t':=s.toks) (r.append r2) (by rw[List.length_append];lia),rfl,q _ I.fresh⟩
theorem rep_list {pins:List (Addr×Obj)} {s:Shared} {σ:St} {H:Hp} {l:Addr} {k:Int} {t:Tok} {xs:List V} {Q:VK} (I:Inv X pins σ H s) (hH:LsL X.K H l xs) (h1:-(2 ^ 63)≤k) (h2:k<2 ^ 63) (hz:xs.length*k.toNat≤sizeLine)
  (q:∀p,H p=none→Q (.ref p) (upd H p (.lst (List.replicate k.toNat xs).flatten))):wpAny (model X.prog X.w) X.A (binaryOp .Mult (.ref l) (.int k t)) (EP X pins σ Q) X.xe s:=by
 obtain⟨z,its,n,r,hl,e⟩:=I.ls hH
 have hlen:its.toArray.size*k.toNat≤sizeLine:=by rw[List.size_toArray,←hl];exact hz
 have hcap:¬its.toArray.size*k.toNat > (2 ^ 63-1) / 8:=by
  have:(sizeLine:Nat)≤(2 ^ 63-1) / 8:=by decide
  lia
 have hfit:¬(!Builtin.List.listFitsIndex k)=true:=by
  rw[fitsIndex_both h1 h2]
  exact Bool.false_ne_true
 have hlong:¬Builtin.List.listTooLong (its.toArray.size*k.toNat)=true:=by
  rw[notLongL hlen]
  exact Bool.false_ne_true
 have hnew:List.foldl (fun x1 x2=>x1++x2) #[] (List.replicate (if its.toArray.isEmpty=true then 0 else k.toNat) its.toArray)=(List.replicate k.toNat its).flatten.toArray:=by
  have f0:∀m:Nat,List.foldl (fun x1 x2=>x1++x2) #[] (List.replicate m its.toArray)=(List.replicate m its).flatten.toArray:=fun m=>by
   have:=foldl_rep its m []
   rw[List.nil_append]at this
   exact this
  rw[f0]
  cases its with
  | nil=>simp
  | cons a r'=>rw[if_neg (by simp)]
 refine wpAny_binaryOp_repeat_ref (T:="list") (U:="int") (by decide) ⟨_,e,rfl⟩ (fun s'=>typeIs_int s' k t) noFill_list_mul F.fills_int_mul F.slot_int_rmul repeat_list F.slot_int_index.lookup
  (call_meets F.slot_int_rmul (typeIs_int s k t) F.entry_int_rmul (F.args_int_rmul_2 _ _) (int___rmul___int_list k t l its.toArray n)
   ⟨e,rfl,⟨_,e,rfl⟩,call_meets F.slot_list_mul ⟨_,e,rfl⟩ F.entry_list_mul (F.args_list_mul_2 _ _) (AutoListH.list___mul___list_int_3 l its.toArray n k t hfit hcap hlong) ⟨e,?_⟩⟩)
 rw[hnew]
 exact⟨.ref _,_,I.lnew (t':=s.toks) (r.rep k.toNat) (by rw[len_rep,Nat.mul_comm];exact hz),rfl,q _ I.fresh⟩
theorem cat_nil {pins:List (Addr×Obj)} {s:Shared} {σ:St} {H:Hp} {a b:Addr} {ys:List V} {Q:VK} (I:Inv X pins σ H s) (ha:SqT X.K H a []) (hb:SqT X.K H b ys) (q:Q (.ref b) H) :
  wpAny (model X.prog X.w) X.A (binaryOp .Add (.ref a) (.ref b)) (EP X pins σ Q) X.xe s:=by
 obtain⟨its,r1,p1,_⟩:=I.tuple ha
 obtain⟨its2,r2,p2,_⟩:=I.tuple hb
 have e1:its=[]:=by cases r1;rfl
 subst e1
 obtain⟨⟨cls,dd,data,sl⟩,ho,hc,n,hd⟩:=id p1
 obtain⟨⟨cls2,dd2,data2,sl2⟩,ho2,hc2,n2,hd2⟩:=id p2
 simp only at hc hd hc2 hd2
 subst hc hd hc2 hd2
 exact concat_meets ⟨_,ho,rfl⟩ ⟨_,ho2,rfl⟩ noFill_tuple_add seq_tuple_add PySem.F.slot_tuple_add PySem.F.entry_tuple_add (PySem.F.args_tuple_add_2 _ _)
   (tuple_addW0 a b ([]:List Value).toArray its2.toArray n n2 dd dd2 sl sl2 (by simp)) ⟨ho,ho2,⟨.ref b,H,I,rfl,q⟩⟩
theorem bin_ok {op:Operator} {m:Mk}:OpR X (binaryOp op) (rOp X.K (opD op m)):=by
 intro pins s σ H x y v u Q I rx ry ⟨ι,d,e,μ,hS,hd,he,h⟩
 unfold opD at h
 split at h
 ·rename_i i j
  cases int_of hd
  cases int_of he
  unfold opI at h
  split at h
  ·exact op_add pins s σ H _ _ v u Q I rx ry ⟨i,j,rfl,rfl,h.ok hS (by simp[IsD])⟩
  ·exact op_sub pins s σ H _ _ v u Q I rx ry ⟨i,j,rfl,rfl,h.ok hS (by simp[IsD])⟩
  ·split at h
   ·rename_i hc
    exact op_mul pins s σ H _ _ v u Q I rx ry ⟨i,j,rfl,rfl,hc,h.ok hS (by simp[IsD])⟩
   ·exact h.elim
  ·split at h
   ·rename_i hc
    exact op_fdiv pins s σ H _ _ v u Q I rx ry ⟨i,j,rfl,rfl,hc,h.ok hS (by simp[IsD])⟩
   ·exact h.elim
  ·split at h
   ·rename_i hc
    exact op_mod pins s σ H _ _ v u Q I rx ry ⟨i,j,rfl,rfl,hc,h.ok hS (by simp[IsD])⟩
   ·exact h.elim
  ·split at h
   ·rename_i hc
    exact op_pow pins s σ H _ _ v u Q I rx ry ⟨i,j,rfl,rfl,hc,h.ok hS (by simp[IsD])⟩
   ·exact h.elim
  ·split at h
   ·rename_i hc
    exact op_shr pins s σ H _ _ v u Q I rx ry ⟨i,j,rfl,rfl,hc,h.ok hS (by simp[IsD])⟩
   ·exact h.elim
  ·exact h.elim
 ·rename_i xs ys
  split at h
  ·split at h
   ·rename_i hz
    obtain⟨a,vs,rfl,ha,hvs⟩:=tup_of hd
    obtain⟨b,ws,rfl,hb,hws⟩:=tup_of he
    cases rx
    cases ry
    rw[lim_line]at hz
    by_cases hx:vs=[]
    ·subst hx
     have e1:xs=[]:=by have:=hvs.length;simpa using this.symm
     subst e1
     exact cat_nil I ha hb (h.ok hS he)
    ·refine op_catT pins s σ H (.ref a) (.ref b) _ _ Q I rfl rfl ⟨a,b,vs,ws,rfl,rfl,ha,hb,hx,by rw[hvs.length,hws.length];exact hz,fun z=>?_,fun z p hp=>tup_post hS (hvs.append hws) h hp⟩
     subst z
     have e1:ys=[]:=by have:=hws.length;simpa using this.symm
     subst e1
     exact h.ok hS (by simpa using hd)
   ·exact h.elim
  ·exact h.elim
 ·rename_i j _
  cases int_of he
  split at h
  ·rename_i es
   split at h
   ·rename_i hz
    obtain⟨a,xs,rfl,ha,hxs⟩:=list_of hS hd es
    cases rx
    obtain⟨t,rfl⟩:=ry
    rw[lim_line]at hz
    exact EP_fq' (rep_list I ha hz.2.1 hz.2.2 (by rw[hxs.length];exact hz.1) fun p hp=>mk_post hS (hxs.rep _) h hp)
   ·exact h.elim
  ·exact h.elim
 ·split at h
  ·rename_i es1 es2
   split at h
   ·rename_i hz
    obtain⟨a,xs,rfl,ha,hxs⟩:=list_of hS hd es1
    obtain⟨b,ys,rfl,hb,hys⟩:=list_of hS he es2
    cases rx
    cases ry
    rw[lim_line]at hz
    exact EP_fq' (cat_lists I ha hb (by rw[hxs.length,hys.length];exact hz) fun p hp=>mk_post hS (hxs.append hys) h hp)
   ·exact h.elim
  ·exact h.elim
end
end Lp
namespace Lp
open PySem PySem.Spec PyProof.Rows L2
section
variable (K : PySem.W.Frag) (H : Hp)
mutual
noncomputable def IsW:D→V→Prop
 | .non,v=>v=.non
 | .bl b,v=>v=.bl b
 | .int i,v=>v=.int i
 | .str x,v=>v=.str x
 | .tup ds,v=>∃a xs,v=.ref a∧SqT K H a xs∧IsWs ds xs
 | .lst ds,v=>∃a xs,v=.ref a∧LsL K H a xs∧IsWs ds xs
 | .loc _,_=>False
noncomputable def IsWs:List D→List V→Prop
 | [],xs=>xs=[]
 | d::ds,xs=>∃v r,xs=v::r∧IsW d v∧IsWs ds r
end
end
section
variable {K : PySem.W.Frag} {H : Hp}
theorem IsWs.length:∀{ds:List D} {xs:List V},IsWs K H ds xs→xs.length=ds.length
 | [],xs,h=>by simp only[IsWs]at h;subst h;rfl
 | d::ds,xs,h=>by
  simp only[IsWs]at h
  obtain⟨v,r,rfl,_,t⟩:=h
  simp[IsWs.length t]
theorem IsWs.get:∀{ds:List D} {xs:List V} {i:Nat} {d:D},IsWs K H ds xs→ds[i]? = some d→∃v,xs[i]? = some v∧IsW K H d v
 | [],_,_,_,_,e=>by simp at e
 | d::ds,xs,0,_,h,e=>by
  simp only[IsWs]at h
  obtain⟨v,r,rfl,q,_⟩:=h
  simp at e;subst e
  exact⟨v,rfl,q⟩
 | d::ds,xs,i+1,x,h,e=>by
  simp only[IsWs]at h
  obtain⟨v,r,rfl,_,t⟩:=h
  obtain⟨w,h1,h2⟩:=IsWs.get (i:=i) (d:=x) t (by simpa using e)
  exact⟨w,by simpa using h1,h2⟩
theorem wtup_of {ds:List D} {v:V} (h:IsW K H (.tup ds) v):∃a xs,v=.ref a∧SqT K H a xs∧IsWs K H ds xs:=by simpa[IsW]using h
theorem isWs_of {ι:List Addr} {μ:Sto} (S:Sim K ι H μ) (f:D→Option D) (hf:∀d e v,f d=some e→IsD K ι H d v→IsW K H e v):∀{ds es:List D} {xs:List V},optAll (ds.map f)=some es→IsDs K ι H ds xs→IsWs K H es xs
 | [],es,xs,h,hd=>by
  simp only[List.map_nil,optAll,Option.some.injEq]at h
  subst h
  simpa[IsDs,IsWs]using hd
 | d::ds,es,xs,h,hd=>by
  simp only[List.map_cons]at h
  cases e1:f d with
  | none=>rw[e1]at h;simp[optAll]at h
  | some e =>
   rw[e1]at h
   simp only[optAll]at h
   cases e2:optAll (ds.map f)with
   | none=>rw[e2]at h;cases h
   | some r =>
    rw[e2]at h
    cases h
    simp only[IsDs]at hd
    obtain⟨v,t,rfl,q,hd⟩:=hd
    simp only[IsWs]
    exact⟨v,t,rfl,hf d e v e1 q,isWs_of S f hf e2 hd⟩
theorem isW_of {ι:List Addr} {μ:Sto} (S:Sim K ι H μ):∀(k:Nat) (d e:D) (v:V),derefN μ k d=some e→IsD K ι H d v→IsW K H e v
 | 0,d,e,v,h,hd=>by
  cases d<;>simp_all[derefN,flat,IsD,IsW]<;>(subst h;simp[IsW])
 | k+1,d,e,v,h,hd=>by
  have ih:=isW_of S k
  have sub:∀{ι':List Addr} {ds es:List D} {xs:List V},ι' <+: ι→optAll (ds.map (derefN μ k))=some es→IsDs K ι' H ds xs→IsWs K H es xs:=fun p h hd=>isWs_of S _ ih h (IsDs.mono p (.refl _) _ _ hd)
  cases d with
  | tup ds =>
   simp only[derefN]at h
   cases e1:optAll (ds.map (derefN μ k))with
   | none=>rw[e1]at h;cases h
   | some es =>
    rw[e1]at h;cases h
    obtain⟨a,xs,rfl,hq,hds⟩:=tup_of hd
    simp only[IsW]
    exact⟨a,xs,rfl,hq,sub (List.prefix_refl _) e1 hds⟩
  | lst ds =>
   simp only[derefN]at h
   cases e1:optAll (ds.map (derefN μ k))with
   | none=>rw[e1]at h;cases h
   | some es =>
    rw[e1]at h;cases h
    obtain⟨a,xs,rfl,hq,hds⟩:∃a xs,v=.ref a∧FzL K H a xs∧IsDs K ι H ds xs:=by simpa[IsD]using hd
    simp only[IsW]
    exact⟨a,xs,rfl,.inr hq,sub (List.prefix_refl _) e1 hds⟩
  | loc n =>
   obtain⟨a,rfl,hn⟩:∃a,v=.ref a∧ι[n]? = some a:=by simpa[IsD]using hd
   simp only[derefN]at h
   cases em:μ[n]? with
   | none=>rw[em]at h;cases h
   | some o =>
    obtain⟨a',q',ho⟩:=S.at em
    rw[hn]at q';cases q'
    rw[em]at h
    cases o with
    | l ds =>
     simp only at h
     obtain⟨xs,f1,f2⟩:=ho
     cases e1:optAll (ds.map (derefN μ k))with
     | none=>rw[e1]at h;cases h
     | some es =>
      rw[e1]at h;cases h
      simp only[IsW]
      exact⟨a,xs,rfl,(.inl f1),sub List.nil_prefix e1 f2⟩
    | r ds =>
     simp only at h
     obtain⟨xs,f1,f2⟩:=ho
     cases e1:optAll (ds.map (derefN μ k))with
     | none=>rw[e1]at h;cases h
     | some es =>
      rw[e1]at h;cases h
      simp only[IsW]
      exact⟨a,xs,rfl,(.inl f1),sub (List.prefix_refl _) e1 f2⟩
    | _=>cases h
  | _=>simp only[derefN]at h;cases h;simpa[IsD,IsW]using hd
mutual
theorem IsW.ofD:∀{d:D} {v:V},IsD K [] H d v→IsW K H d v
 | .non,v,h=>by simpa[IsD,IsW]using h
 | .bl _,v,h=>by simpa[IsD,IsW]using h
 | .int _,v,h=>by simpa[IsD,IsW]using h
 | .str _,v,h=>by simpa[IsD,IsW]using h
 | .tup ds,v,h=>by
  obtain⟨a,xs,rfl,hq,hds⟩:=tup_of h
  simp only[IsW]
  exact⟨a,xs,rfl,hq,IsWs.ofD hds⟩
 | .lst ds,v,h=>by
  obtain⟨a,xs,rfl,hq,hds⟩:∃a xs,v=.ref a∧FzL K H a xs∧IsDs K [] H ds xs:=by simpa[IsD]using h
  simp only[IsW]
  exact⟨a,xs,rfl,.inr hq,IsWs.ofD hds⟩
 | .loc n,v,h=>by simp[IsD]at h
theorem IsWs.ofD:∀{ds:List D} {xs:List V},IsDs K [] H ds xs→IsWs K H ds xs
 | [],xs,h=>by simpa[IsDs,IsWs]using h
 | d::ds,xs,h=>by
  simp only[IsDs]at h
  obtain⟨v,r,rfl,q,t⟩:=h
  simp only[IsWs]
  exact⟨v,r,rfl,IsW.ofD q,IsWs.ofD t⟩
end
theorem optAll_pure {μ:Sto} {k:Nat} (ih:∀d e,derefN μ k d=some e→D.pureN k e=true):∀{ds es:List D},optAll (ds.map (derefN μ k))=some es→es.all (D.pureN k)=true
 | [],es,h=>by simp only[List.map_nil,optAll,Option.some.injEq]at h;subst h;rfl
 | d::ds,es,h=>by
  simp only[List.map_cons]at h
  cases e1:derefN μ k d with
  | none=>rw[e1]at h;simp[optAll]at h
  | some e =>
   rw[e1]at h
   simp only[optAll]at h
   cases e2:optAll (ds.map (derefN μ k))with
   | none=>rw[e2]at h;cases h
   | some r =>
    rw[e2]at h;cases h
    simp only[List.all_cons,ih d e e1,optAll_pure ih e2,Bool.and_self]
theorem deref_pure {μ:Sto}:∀(k:Nat) (d e:D),derefN μ k d=some e→D.pureN k e=true
 | 0,d,e,h=>by
  cases d<;>simp_all[derefN,flat]<;>(subst h;rfl)
 | k+1,d,e,h=>by
  have ih:=deref_pure (μ:=μ) k
  have mp:∀{ds:List D} {c:List D→D},(∀es,es.all (D.pureN k)=true→D.pureN (k+1) (c es)=true)→(optAll (ds.map (derefN μ k))).map c=some e→D.pureN (k+1) e=true:=fun {ds c} hc h=>by
   cases e1:optAll (ds.map (derefN μ k))with
   | none=>rw[e1]at h;cases h
   | some es=>rw[e1]at h;cases h;exact hc es (optAll_pure ih e1)
  cases d with
  | tup ds=>simp only[derefN]at h;exact mp (c:=.tup) (fun es h=>h) h
  | lst ds=>simp only[derefN]at h;exact mp (c:=.lst) (fun es h=>h) h
  | loc n =>
   simp only[derefN]at h
   cases em:μ[n]? with
   | none=>rw[em]at h;cases h
   | some o =>
    rw[em]at h
    cases o with
    | l ds=>exact mp (c:=.lst) (fun es h=>h) h
    | r ds=>exact mp (c:=.lst) (fun es h=>h) h
    | _=>cases h
  | _=>simp only[derefN]at h;cases h;rfl
end
end Lp
namespace Lp
open PySem PySem.Spec PyProof.Rows L2
open PySem.SeqAt (EqAt RcAt)
section
variable {X : Cx} {φ : Phi} {pins : List (Addr × Obj)} {σ : St} {H : Hp} {s : Shared}
theorem in1_units (A:Around):A.in1.units=A.units+1:=by
 first | rfl | simp[Around.in1]
theorem deqs_range:∀(as bs:List D),as.length=bs.length→deqs as bs=(List.range as.length).all fun j=>deq (as.getD j .non) (bs.getD j .non)
 | [],[],_=>rfl
 | a::as,b::bs,h=>by
  rw[deqs,deqs_range as bs (by simpa using h),List.length_cons,List.range_succ_eq_map,List.all_cons,List.all_map]
  rfl
 | [],_::_,h=>by simp at h
 | _::_,[],h=>by simp at h
theorem deqs_len:∀(as bs:List D),as.length≠bs.length→deqs as bs=false
 | [],[],h=>absurd rfl h
 | a::as,b::bs,h=>by rw[deqs,deqs_len as bs (by simpa using h),Bool.and_false]
 | [],_::_,_=>rfl
 | _::_,[],_=>rfl
theorem deq_refl_of:∀(k:Nat) (a b:D) (v:V),D.pureN k a=true→D.pureN k b=true→IsW X.K H a v→IsW X.K H b v→Inv X pins σ H s→deq a b=true:=by
 intro k
 have list:∀k,(∀(a b:D) (v:V),D.pureN k a=true→D.pureN k b=true→IsW X.K H a v→IsW X.K H b v→Inv X pins σ H s→deq a b=true) →
   ∀(as bs:List D) (xs:List V),as.all (D.pureN k)=true→bs.all (D.pureN k)=true→IsWs X.K H as xs→IsWs X.K H bs xs→Inv X pins σ H s→deqs as bs=true:=by
  intro k ih as
  induction as with
  | nil =>
   intro bs xs _ _ ha hb _
   have e:xs=[]:=by simpa[IsWs]using ha
   subst e
   have:=hb.length
   have e2:bs=[]:=by simpa using this.symm
   subst e2
   rfl
  | cons a as iha =>
   intro bs xs pa pb ha hb I
   cases bs with
   | nil =>
    have e:xs=[]:=by simpa[IsWs]using hb
    subst e
    have:=ha.length
    simp at this
   | cons b bs =>
    simp only[IsWs]at ha hb
    obtain⟨v,r,e,q,t⟩:=ha
    obtain⟨v',r',e',q',t'⟩:=hb
    rw[e]at e'
    cases e'
    simp only[List.all_cons,Bool.and_eq_true]at pa pb
    rw[deqs,ih a b v pa.1 pb.1 q q' I,iha bs r pa.2 pb.2 t t' I]
    rfl
 have flat:∀(a b:D) (v:V),(∀ds,a≠.tup ds)→(∀ds,a≠.lst ds)→(∀n,a≠.loc n)→(∀n,b≠.loc n)→IsW X.K H a v→IsW X.K H b v→deq a b=true:=by
  intro a b v h1 h2 h3 h4 ha hb
  cases a with
  | tup ds=>exact absurd rfl (h1 ds)
  | lst ds=>exact absurd rfl (h2 ds)
  | loc n=>exact absurd rfl (h3 n)
  | _=>cases b<;>simp_all[IsW,deq]
 induction k with
 | zero =>
  intro a b v pa pb ha hb I
  refine flat a b v ?_ ?_ ?_ ?_ ha hb
  ·intro z e;subst e;simp[D.pureN]at pa
  ·intro z e;subst e;simp[D.pureN]at pa
  ·intro z e;subst e;simp[D.pureN]at pa
  ·intro z e;subst e;simp[D.pureN]at pb
 | succ k ih =>
  intro a b v pa pb ha hb I
  cases a with
  | loc n=>simp[D.pureN]at pa
  | tup as =>
   simp only[IsW]at ha
   obtain⟨p,xs,rfl,hq,hds⟩:=ha
   cases b with
   | tup bs =>
    simp only[IsW]at hb
    obtain⟨p',xs',e,hq',hds'⟩:=hb
    cases e
    have:=I.tuple_inj hq hq'
    subst this
    rw[deq]
    exact list k ih as bs xs (by simpa[D.pureN]using pa) (by simpa[D.pureN]using pb) hds hds' I
   | lst bs =>
    simp only[IsW]at hb
    obtain⟨p',xs',e,hq',hds'⟩:=hb
    cases e
    exfalso
    obtain⟨its,_,⟨o,e1,c1,_⟩,_⟩:=I.tuple hq
    obtain⟨its',_,⟨o',n',e2,c2,_⟩,_⟩:=I.list hq'.sq
    rw[e1]at e2;cases e2
    rw[c1]at c2
    injection c2 with c3
    exact absurd c3 (by decide)
   | loc n=>simp[D.pureN]at pb
   | _=>simp[IsW]at hb
  | lst as =>
   simp only[IsW]at ha
   obtain⟨p,xs,rfl,hq,hds⟩:=ha
   cases b with
   | lst bs =>
    simp only[IsW]at hb
    obtain⟨p',xs',e,hq',hds'⟩:=hb
    cases e
    have:=I.list_inj hq.sq hq'.sq
    subst this
    rw[deq]
    exact list k ih as bs xs (by simpa[D.pureN]using pa) (by simpa[D.pureN]using pb) hds hds' I
   | tup bs =>
    simp only[IsW]at hb
    obtain⟨p',xs',e,hq',hds'⟩:=hb
    cases e
    exfalso
    obtain⟨its,_,⟨o,e1,c1,_⟩,_⟩:=I.tuple hq'
    obtain⟨its',_,⟨o',n',e2,c2,_⟩,_⟩:=I.list hq.sq
    rw[e1]at e2;cases e2
    rw[c1]at c2
    injection c2 with c3
    exact absurd c3 (by decide)
   | loc n=>simp[D.pureN]at pb
   | _=>simp[IsW]at hb
  | _ =>
   refine flat _ b v (by intro _ z;cases z) (by intro _ z;cases z) (by intro _ z;cases z) ?_ ha hb
   intro z e;subst e;simp[D.pureN]at pb
theorem eqAt_flat (A:Around) (a b:D) (x y:V) (u v:Value) (pa:D.pureN 0 a=true) (pb:D.pureN 0 b=true) (ha:IsW X.K H a x) (hb:IsW X.K H b y) (ru:RelV x u) (rv:RelV y v):EqAt A s u v (deq a b):=by
 have b2:∀(a b:Int),decide (a=b)=(a==b):=fun a b=>(Bool.beq_eq_decide_eq a b).symm
 cases a with
 | tup _=>simp[D.pureN]at pa
 | lst _=>simp[D.pureN]at pa
 | loc _=>simp[D.pureN]at pa
 | non =>
  have ex:x=.non:=by simpa[IsW]using ha
  subst ex
  cases(show u=Value.none from ru)
  cases b with
  | tup _=>simp[D.pureN]at pb
  | lst _=>simp[D.pureN]at pb
  | loc _=>simp[D.pureN]at pb
  | non=>cases(show y=.non by simpa[IsW]using hb);cases(show v=Value.none from rv);exact EqAt.same _
  | bl c=>cases(show y=.bl c by simpa[IsW]using hb);cases(show v=Value.bool c from rv);exact EqAt.none_bool _
  | int c=>cases(show y=.int c by simpa[IsW]using hb);obtain⟨t,rfl⟩:=rv;exact EqAt.none_int _ _
  | str c=>cases(show y=.str c by simpa[IsW]using hb);obtain⟨t,rfl⟩:=rv;exact EqAt.none_str _ _
 | bl d =>
  have ex:x=.bl d:=by simpa[IsW]using ha
  subst ex
  cases(show u=Value.bool d from ru)
  cases b with
  | tup _=>simp[D.pureN]at pb
  | lst _=>simp[D.pureN]at pb
  | loc _=>simp[D.pureN]at pb
  | non=>cases(show y=.non by simpa[IsW]using hb);cases(show v=Value.none from rv);exact EqAt.bool_none _
  | bl c=>cases(show y=.bl c by simpa[IsW]using hb);cases(show v=Value.bool c from rv);exact EqAt.bool_bool _ _
  | int c=>cases(show y=.int c by simpa[IsW]using hb);obtain⟨t,rfl⟩:=rv;rw[deq,b2];exact EqAt.bool_int _ _ _
  | str c=>cases(show y=.str c by simpa[IsW]using hb);obtain⟨t,rfl⟩:=rv;exact EqAt.bool_str _ _ _
 | int d =>
  have ex:x=.int d:=by simpa[IsW]using ha
  subst ex
  obtain⟨t',rfl⟩:=ru
  cases b with
  | tup _=>simp[D.pureN]at pb
  | lst _=>simp[D.pureN]at pb
  | loc _=>simp[D.pureN]at pb
  | non=>cases(show y=.non by simpa[IsW]using hb);cases(show v=Value.none from rv);exact EqAt.int_none _ _
  | bl c=>cases(show y=.bl c by simpa[IsW]using hb);cases(show v=Value.bool c from rv);rw[deq,b2];exact EqAt.int_bool _ _ _
  | int c=>cases(show y=.int c by simpa[IsW]using hb);obtain⟨t,rfl⟩:=rv;rw[deq,b2];exact EqAt.int_int _ _ _ _
  | str c=>cases(show y=.str c by simpa[IsW]using hb);obtain⟨t,rfl⟩:=rv;exact EqAt.int_str _ _ _ _
 | str d =>
  have ex:x=.str d:=by simpa[IsW]using ha
  subst ex
  obtain⟨t',rfl⟩:=ru
  cases b with
  | tup _=>simp[D.pureN]at pb
  | lst _=>simp[D.pureN]at pb
  | loc _=>simp[D.pureN]at pb
  | non=>cases(show y=.non by simpa[IsW]using hb);cases(show v=Value.none from rv);exact EqAt.str_none _ _
  | bl c=>cases(show y=.bl c by simpa[IsW]using hb);cases(show v=Value.bool c from rv);exact EqAt.str_bool _ _ _
  | int c=>cases(show y=.int c by simpa[IsW]using hb);obtain⟨t,rfl⟩:=rv;exact EqAt.str_int _ _ _ _
  | str c =>
   cases(show y=.str c by simpa[IsW]using hb);obtain⟨t,rfl⟩:=rv
   have e:deq (.str d) (.str c)=(d==c):=by rw[deq];exact(Bool.beq_eq_decide_eq d c).symm
   rw[e];exact EqAt.str_str _ _ _ _
theorem eqAt_D (I:Inv X pins σ H s):∀(k:Nat) (A:Around) (a b:D) (x y:V) (u v:Value),A.units+k<cLine→D.pureN k a=true→D.pureN k b=true→IsW X.K H a x→IsW X.K H b y→RelV x u→RelV y v→EqAt A s u v (deq a b):=by
 intro k
 induction k with
 | zero=>exact fun A a b x y u v _ pa pb ha hb ru rv=>eqAt_flat A a b x y u v pa pb ha hb ru rv
 | succ k ih =>
  intro A a b x y u v hu pa pb ha hb ru rv
  have hu0:A.units<cLine:=by lia
  have each:∀(as bs:List D) (xs ys:List V) (is js:List Value),as.all (D.pureN k)=true→bs.all (D.pureN k)=true→IsWs X.K H as xs→IsWs X.K H bs ys→Vals xs is→Vals ys js →
    ∀j (h1:j<is.toArray.size) (h2:j<js.toArray.size),EqAt A.in1 s is.toArray[j] js.toArray[j] (deq (as.getD j .non) (bs.getD j .non)):=by
   intro as bs xs ys is js pas pbs has hbs hvx hvy j h1 h2
   have l1:as.length=is.length:=by rw[←has.length,hvx.length]
   have l2:bs.length=js.length:=by rw[←hbs.length,hvy.length]
   have j1:j<as.length:=by rw[l1];simpa using h1
   have j2:j<bs.length:=by rw[l2];simpa using h2
   obtain⟨p,e1,q1⟩:=has.get (List.getElem?_eq_getElem j1)
   obtain⟨p',e1',q1'⟩:=hbs.get (List.getElem?_eq_getElem j2)
   obtain⟨w,e2,q2⟩:=hvx.get e1
   obtain⟨w',e2',q2'⟩:=hvy.get e1'
   have g1:is.toArray[j]=w:=by
    have:is[j]? = some is.toArray[j]:=by simp[List.getElem?_eq_getElem (show j<is.length by lia)]
    rw[this]at e2;exact Option.some.inj e2
   have g2:js.toArray[j]=w':=by
    have:js[j]? = some js.toArray[j]:=by simp[List.getElem?_eq_getElem (show j<js.length by lia)]
    rw[this]at e2';exact Option.some.inj e2'
   rw[g1,g2,List.getD_eq_getElem?_getD,List.getD_eq_getElem?_getD,List.getElem?_eq_getElem j1,List.getElem?_eq_getElem j2]
   exact ih A.in1 _ _ p p' w w' (by rw[in1_units];lia) (List.all_eq_true.mp pas _ (List.getElem_mem j1)) (List.all_eq_true.mp pbs _ (List.getElem_mem j2)) q1 q1' q2 q2'
  have flat0:∀d:D,D.pureN (k+1) d=true→(∀ds,d≠.tup ds)→(∀ds,d≠.lst ds)→D.pureN 0 d=true:=fun d h h1 h2=>by
   cases d with
   | tup ds=>exact absurd rfl (h1 ds)
   | lst ds=>exact absurd rfl (h2 ds)
   | loc n=>simp[D.pureN]at h
   | _=>rfl
  cases a with
  | loc n=>simp[D.pureN]at pa
  | tup as =>
   have pas:as.all (D.pureN k)=true:=by simpa[D.pureN]using pa
   obtain⟨p,xs,rfl,hq,hds⟩:=wtup_of ha
   cases(show u=Value.ref p from ru)
   obtain⟨its,hv,ht,hz⟩:=I.tuple hq
   have ht':s.heap.IsTuple p its.toArray:=ht
   cases b with
   | loc n=>simp[D.pureN]at pb
   | tup bs =>
    have pbs:bs.all (D.pureN k)=true:=by simpa[D.pureN]using pb
    obtain⟨p',xs',rfl,hq',hds'⟩:=wtup_of hb
    cases(show v=Value.ref p' from rv)
    obtain⟨its',hv',ht2,hz'⟩:=I.tuple hq'
    by_cases hp:p=p'
    ·subst hp
     rw[deq_refl_of (k+1) _ _ _ pa pb ha hb I]
     exact EqAt.same _
    ·refine EqAt.of_refs hp ?_
     have q:=RcAt.tuples (A:=A) ht' (show s.heap.IsTuple p' its'.toArray from ht2) hu0 (each as bs xs xs' its its' pas pbs hds hds' hv hv')
     have l1:as.length=its.length:=by rw[←hds.length,hv.length]
     have l2:bs.length=its'.length:=by rw[←hds'.length,hv'.length]
     have e:((List.range (min its.toArray.size its'.toArray.size)).all (fun j=>deq (as.getD j .non) (bs.getD j .non))&&its.toArray.size==its'.toArray.size)=deq (.tup as) (.tup bs):=by
      rw[deq]
      simp only[List.size_toArray,←l1,←l2]
      by_cases hl:as.length=bs.length
      ·rw[deqs_range as bs hl,←hl];simp
      ·rw[deqs_len as bs hl];simp[hl]
     rw[e]at q
     exact q
   | lst bs =>
    obtain⟨p',xs',rfl,hq',hds'⟩:∃a xs,y=.ref a∧LsL X.K H a xs∧IsWs X.K H bs xs:=by simpa[IsW]using hb
    cases(show v=Value.ref p' from rv)
    obtain⟨z,its',n',hv',_,hg⟩:=I.ls hq'
    exact EqAt.tuple_list ht' ⟨_,hg,rfl,n',rfl⟩ hu0
   | non=>cases(show y=.non by simpa[IsW]using hb);cases(show v=Value.none from rv);exact EqAt.tuple_none ht' hu0
   | bl c=>cases(show y=.bl c by simpa[IsW]using hb);cases(show v=Value.bool c from rv);exact EqAt.tuple_bool _ ht' hu0
   | int c=>cases(show y=.int c by simpa[IsW]using hb);obtain⟨t,rfl⟩:=rv;exact EqAt.tuple_int _ _ ht' hu0
   | str c=>cases(show y=.str c by simpa[IsW]using hb);obtain⟨t,rfl⟩:=rv;exact EqAt.tuple_str _ _ ht' hu0
  | lst as =>
   have pas:as.all (D.pureN k)=true:=by simpa[D.pureN]using pa
   obtain⟨p,xs,rfl,hq,hds⟩:∃a xs,x=.ref a∧LsL X.K H a xs∧IsWs X.K H as xs:=by simpa[IsW]using ha
   cases(show u=Value.ref p from ru)
   obtain⟨z,its,n,hv,_,hg⟩:=I.ls hq
   have hl':s.heap.IsList p its.toArray:=⟨_,hg,rfl,n,rfl⟩
   cases b with
   | loc n=>simp[D.pureN]at pb
   | lst bs =>
    have pbs:bs.all (D.pureN k)=true:=by simpa[D.pureN]using pb
    obtain⟨p',xs',rfl,hq',hds'⟩:∃a xs,y=.ref a∧LsL X.K H a xs∧IsWs X.K H bs xs:=by simpa[IsW]using hb
    cases(show v=Value.ref p' from rv)
    obtain⟨z',its',n',hv',_,hg'⟩:=I.ls hq'
    have hl2:s.heap.IsList p' its'.toArray:=⟨_,hg',rfl,n',rfl⟩
    by_cases hp:p=p'
    ·subst hp
     rw[deq_refl_of (k+1) _ _ _ pa pb ha hb I]
     exact EqAt.same _
    ·refine EqAt.of_refs hp ?_
     have l1:as.length=its.length:=by rw[←hds.length,hv.length]
     have l2:bs.length=its'.length:=by rw[←hds'.length,hv'.length]
     by_cases hl:as.length=bs.length
     ·have q:=RcAt.lists (A:=A) hl' hl2 (by simp only[List.size_toArray];lia) hu0 (each as bs xs xs' its its' pas pbs hds hds' hv hv')
      have e:(List.range its.toArray.size).all (fun j=>deq (as.getD j .non) (bs.getD j .non))=deq (.lst as) (.lst bs):=by
       rw[deq,deqs_range as bs hl]
       simp only[List.size_toArray,←l1]
      rw[e]at q
      exact q
     ·rw[deq,deqs_len as bs hl]
      exact RcAt.lists_lengths hl' hl2 (by simp only[List.size_toArray];simp;lia) hu0
   | tup bs =>
    obtain⟨p',xs',rfl,hq',hds'⟩:=wtup_of hb
    cases(show v=Value.ref p' from rv)
    obtain⟨its',hv',ht2,hz'⟩:=I.tuple hq'
    exact EqAt.list_tuple hl' (show s.heap.IsTuple p' its'.toArray from ht2) hu0
   | non=>cases(show y=.non by simpa[IsW]using hb);cases(show v=Value.none from rv);exact EqAt.list_none hl' hu0
   | bl c=>cases(show y=.bl c by simpa[IsW]using hb);cases(show v=Value.bool c from rv);exact EqAt.list_bool _ hl' hu0
   | int c=>cases(show y=.int c by simpa[IsW]using hb);obtain⟨t,rfl⟩:=rv;exact EqAt.list_int _ _ hl' hu0
   | str c=>cases(show y=.str c by simpa[IsW]using hb);obtain⟨t,rfl⟩:=rv;exact EqAt.list_str _ _ hl' hu0
  | _ =>
   cases b with
   | loc n=>simp[D.pureN]at pb
   | tup bs =>
    obtain⟨p',xs',rfl,hq',hds'⟩:=wtup_of hb
    cases(show v=Value.ref p' from rv)
    obtain⟨its',hv',ht2,hz'⟩:=I.tuple hq'
    have ht':s.heap.IsTuple p' its'.toArray:=ht2
    first
    | (cases(show x=.non by simpa[IsW]using ha);cases(show u=Value.none from ru);exact EqAt.none_tuple ht' hu0)
    | (cases(show x=.bl _ by simpa[IsW]using ha);cases(show u=Value.bool _ from ru);exact EqAt.bool_tuple _ ht' hu0)
    | (cases(show x=.int _ by simpa[IsW]using ha);obtain⟨t,rfl⟩:=ru;exact EqAt.int_tuple _ _ ht' hu0)
    | (cases(show x=.str _ by simpa[IsW]using ha);obtain⟨t,rfl⟩:=ru;exact EqAt.str_tuple _ _ ht' hu0)
   | lst bs =>
    obtain⟨p',xs',rfl,hq',hds'⟩:∃a xs,y=.ref a∧LsL X.K H a xs∧IsWs X.K H bs xs:=by simpa[IsW]using hb
    cases(show v=Value.ref p' from rv)
    obtain⟨z',its',n',hv',_,hg'⟩:=I.ls hq'
    have hl':s.heap.IsList p' its'.toArray:=⟨_,hg',rfl,n',rfl⟩
    first
    | (cases(show x=.non by simpa[IsW]using ha);cases(show u=Value.none from ru);exact EqAt.none_list hl' hu0)
    | (cases(show x=.bl _ by simpa[IsW]using ha);cases(show u=Value.bool _ from ru);exact EqAt.bool_list _ hl' hu0)
    | (cases(show x=.int _ by simpa[IsW]using ha);obtain⟨t,rfl⟩:=ru;exact EqAt.int_list _ _ hl' hu0)
    | (cases(show x=.str _ by simpa[IsW]using ha);obtain⟨t,rfl⟩:=ru;exact EqAt.str_list _ _ hl' hu0)
   | _=>exact eqAt_flat A _ _ x y u v rfl rfl ha hb ru rv
end
end Lp
namespace Lp
open PySem PySem.Spec PyProof.Rows L2
open PySem.SeqAt (EqAt RcAt)
section
variable {X : Cx} {φ : Phi} {pins : List (Addr × Obj)} {σ : St} {H : Hp} {s : Shared}
theorem rcAt_flat (A:Around) (a b:D) (x y:V) (u v:Value) (pa:D.pureN 0 a=true) (pb:D.pureN 0 b=true) (ha:IsW X.K H a x) (hb:IsW X.K H b y) (ru:RelV x u) (rv:RelV y v):RcAt A s u v (deq a b):=by
 have b2:∀(a b:Int),decide (a=b)=(a==b):=fun a b=>(Bool.beq_eq_decide_eq a b).symm
 cases a with
 | tup _=>simp[D.pureN]at pa
 | lst _=>simp[D.pureN]at pa
 | loc _=>simp[D.pureN]at pa
 | non =>
  have ex:x=.non:=by simpa[IsW]using ha
  subst ex
  cases(show u=Value.none from ru)
  cases b with
  | tup _=>simp[D.pureN]at pb
  | lst _=>simp[D.pureN]at pb
  | loc _=>simp[D.pureN]at pb
  | non=>cases(show y=.non by simpa[IsW]using hb);cases(show v=Value.none from rv);exact RcAt.none_none
  | bl c=>cases(show y=.bl c by simpa[IsW]using hb);cases(show v=Value.bool c from rv);exact RcAt.none_bool _
  | int c=>cases(show y=.int c by simpa[IsW]using hb);obtain⟨t,rfl⟩:=rv;exact RcAt.none_int _ _
  | str c=>cases(show y=.str c by simpa[IsW]using hb);obtain⟨t,rfl⟩:=rv;exact RcAt.none_str _ _
 | bl d =>
  have ex:x=.bl d:=by simpa[IsW]using ha
  subst ex
  cases(show u=Value.bool d from ru)
  cases b with
  | tup _=>simp[D.pureN]at pb
  | lst _=>simp[D.pureN]at pb
  | loc _=>simp[D.pureN]at pb
  | non=>cases(show y=.non by simpa[IsW]using hb);cases(show v=Value.none from rv);exact RcAt.bool_none _
  | bl c=>cases(show y=.bl c by simpa[IsW]using hb);cases(show v=Value.bool c from rv);exact RcAt.bool_bool _ _
  | int c=>cases(show y=.int c by simpa[IsW]using hb);obtain⟨t,rfl⟩:=rv;rw[deq,b2];exact RcAt.bool_int _ _ _
  | str c=>cases(show y=.str c by simpa[IsW]using hb);obtain⟨t,rfl⟩:=rv;exact RcAt.bool_str _ _ _
 | int d =>
  have ex:x=.int d:=by simpa[IsW]using ha
  subst ex
  obtain⟨t',rfl⟩:=ru
  cases b with
  | tup _=>simp[D.pureN]at pb
  | lst _=>simp[D.pureN]at pb
  | loc _=>simp[D.pureN]at pb
  | non=>cases(show y=.non by simpa[IsW]using hb);cases(show v=Value.none from rv);exact RcAt.int_none _ _
  | bl c=>cases(show y=.bl c by simpa[IsW]using hb);cases(show v=Value.bool c from rv);rw[deq,b2];exact RcAt.int_bool _ _ _
  | int c=>cases(show y=.int c by simpa[IsW]using hb);obtain⟨t,rfl⟩:=rv;rw[deq,b2];exact RcAt.int_int _ _ _ _
  | str c=>cases(show y=.str c by simpa[IsW]using hb);obtain⟨t,rfl⟩:=rv;exact RcAt.int_str _ _ _ _
 | str d =>
  have ex:x=.str d:=by simpa[IsW]using ha
  subst ex
  obtain⟨t',rfl⟩:=ru
  cases b with
  | tup _=>simp[D.pureN]at pb
  | lst _=>simp[D.pureN]at pb
  | loc _=>simp[D.pureN]at pb
  | non=>cases(show y=.non by simpa[IsW]using hb);cases(show v=Value.none from rv);exact RcAt.str_none _ _
  | bl c=>cases(show y=.bl c by simpa[IsW]using hb);cases(show v=Value.bool c from rv);exact RcAt.str_bool _ _ _
  | int c=>cases(show y=.int c by simpa[IsW]using hb);obtain⟨t,rfl⟩:=rv;exact RcAt.str_int _ _ _ _
  | str c =>
   cases(show y=.str c by simpa[IsW]using hb);obtain⟨t,rfl⟩:=rv
   have e:deq (.str d) (.str c)=(d==c):=by rw[deq];exact(Bool.beq_eq_decide_eq d c).symm
   rw[e];exact RcAt.str_str _ _ _ _
theorem rcAt_D (I:Inv X pins σ H s):∀(k:Nat) (A:Around) (a b:D) (x y:V) (u v:Value),A.units+k<cLine→D.pureN k a=true→D.pureN k b=true→IsW X.K H a x→IsW X.K H b y→RelV x u→RelV y v→RcAt A s u v (deq a b):=by
 intro k
 cases k with
 | zero=>exact fun A a b x y u v _ pa pb ha hb ru rv=>rcAt_flat A a b x y u v pa pb ha hb ru rv
 | succ k =>
  have ih:=eqAt_D I k
  intro A a b x y u v hu pa pb ha hb ru rv
  have hu0:A.units<cLine:=by lia
  have each:∀(as bs:List D) (xs ys:List V) (is js:List Value),as.all (D.pureN k)=true→bs.all (D.pureN k)=true→IsWs X.K H as xs→IsWs X.K H bs ys→Vals xs is→Vals ys js →
    ∀j (h1:j<is.toArray.size) (h2:j<js.toArray.size),EqAt A.in1 s is.toArray[j] js.toArray[j] (deq (as.getD j .non) (bs.getD j .non)):=by
   intro as bs xs ys is js pas pbs has hbs hvx hvy j h1 h2
   have l1:as.length=is.length:=by rw[←has.length,hvx.length]
   have l2:bs.length=js.length:=by rw[←hbs.length,hvy.length]
   have j1:j<as.length:=by rw[l1];simpa using h1
   have j2:j<bs.length:=by rw[l2];simpa using h2
   obtain⟨p,e1,q1⟩:=has.get (List.getElem?_eq_getElem j1)
   obtain⟨p',e1',q1'⟩:=hbs.get (List.getElem?_eq_getElem j2)
   obtain⟨w,e2,q2⟩:=hvx.get e1
   obtain⟨w',e2',q2'⟩:=hvy.get e1'
   have g1:is.toArray[j]=w:=by
    have:is[j]? = some is.toArray[j]:=by simp[List.getElem?_eq_getElem (show j<is.length by lia)]
    rw[this]at e2;exact Option.some.inj e2
   have g2:js.toArray[j]=w':=by
    have:js[j]? = some js.toArray[j]:=by simp[List.getElem?_eq_getElem (show j<js.length by lia)]
    rw[this]at e2';exact Option.some.inj e2'
   rw[g1,g2,List.getD_eq_getElem?_getD,List.getD_eq_getElem?_getD,List.getElem?_eq_getElem j1,List.getElem?_eq_getElem j2]
   exact ih A.in1 _ _ p p' w w' (by rw[in1_units];lia) (List.all_eq_true.mp pas _ (List.getElem_mem j1)) (List.all_eq_true.mp pbs _ (List.getElem_mem j2)) q1 q1' q2 q2'
  have flat0:∀d:D,D.pureN (k+1) d=true→(∀ds,d≠.tup ds)→(∀ds,d≠.lst ds)→D.pureN 0 d=true:=fun d h h1 h2=>by
   cases d with
   | tup ds=>exact absurd rfl (h1 ds)
   | lst ds=>exact absurd rfl (h2 ds)
   | loc n=>simp[D.pureN]at h
   | _=>rfl
  cases a with
  | loc n=>simp[D.pureN]at pa
  | tup as =>
   have pas:as.all (D.pureN k)=true:=by simpa[D.pureN]using pa
   obtain⟨p,xs,rfl,hq,hds⟩:=wtup_of ha
   cases(show u=Value.ref p from ru)
   obtain⟨its,hv,ht,hz⟩:=I.tuple hq
   have ht':s.heap.IsTuple p its.toArray:=ht
   cases b with
   | loc n=>simp[D.pureN]at pb
   | tup bs =>
    have pbs:bs.all (D.pureN k)=true:=by simpa[D.pureN]using pb
    obtain⟨p',xs',rfl,hq',hds'⟩:=wtup_of hb
    cases(show v=Value.ref p' from rv)
    obtain⟨its',hv',ht2,hz'⟩:=I.tuple hq'
    ·skip
     have q:=RcAt.tuples (A:=A) ht' (show s.heap.IsTuple p' its'.toArray from ht2) hu0 (each as bs xs xs' its its' pas pbs hds hds' hv hv')
     have l1:as.length=its.length:=by rw[←hds.length,hv.length]
     have l2:bs.length=its'.length:=by rw[←hds'.length,hv'.length]
     have e:((List.range (min its.toArray.size its'.toArray.size)).all (fun j=>deq (as.getD j .non) (bs.getD j .non))&&its.toArray.size==its'.toArray.size)=deq (.tup as) (.tup bs):=by
      rw[deq]
      simp only[List.size_toArray,←l1,←l2]
      by_cases hl:as.length=bs.length
      ·rw[deqs_range as bs hl,←hl];simp
      ·rw[deqs_len as bs hl];simp[hl]
     rw[e]at q
     exact q
   | lst bs =>
    obtain⟨p',xs',rfl,hq',hds'⟩:∃a xs,y=.ref a∧LsL X.K H a xs∧IsWs X.K H bs xs:=by simpa[IsW]using hb
    cases(show v=Value.ref p' from rv)
    obtain⟨z,its',n',hv',_,hg⟩:=I.ls hq'
    exact RcAt.tuple_list ht' ⟨_,hg,rfl,n',rfl⟩ hu0
   | non=>cases(show y=.non by simpa[IsW]using hb);cases(show v=Value.none from rv);exact RcAt.tuple_none ht' hu0
   | bl c=>cases(show y=.bl c by simpa[IsW]using hb);cases(show v=Value.bool c from rv);exact RcAt.tuple_bool _ ht' hu0
   | int c=>cases(show y=.int c by simpa[IsW]using hb);obtain⟨t,rfl⟩:=rv;exact RcAt.tuple_int _ _ ht' hu0
   | str c=>cases(show y=.str c by simpa[IsW]using hb);obtain⟨t,rfl⟩:=rv;exact RcAt.tuple_str _ _ ht' hu0
  | lst as =>
   have pas:as.all (D.pureN k)=true:=by simpa[D.pureN]using pa
   obtain⟨p,xs,rfl,hq,hds⟩:∃a xs,x=.ref a∧LsL X.K H a xs∧IsWs X.K H as xs:=by simpa[IsW]using ha
   cases(show u=Value.ref p from ru)
   obtain⟨z,its,n,hv,_,hg⟩:=I.ls hq
   have hl':s.heap.IsList p its.toArray:=⟨_,hg,rfl,n,rfl⟩
   cases b with
   | loc n=>simp[D.pureN]at pb
   | lst bs =>
    have pbs:bs.all (D.pureN k)=true:=by simpa[D.pureN]using pb
    obtain⟨p',xs',rfl,hq',hds'⟩:∃a xs,y=.ref a∧LsL X.K H a xs∧IsWs X.K H bs xs:=by simpa[IsW]using hb
    cases(show v=Value.ref p' from rv)
    obtain⟨z',its',n',hv',_,hg'⟩:=I.ls hq'
    have hl2:s.heap.IsList p' its'.toArray:=⟨_,hg',rfl,n',rfl⟩
    ·skip
     have l1:as.length=its.length:=by rw[←hds.length,hv.length]
     have l2:bs.length=its'.length:=by rw[←hds'.length,hv'.length]
     by_cases hl:as.length=bs.length
     ·have q:=RcAt.lists (A:=A) hl' hl2 (by simp only[List.size_toArray];lia) hu0 (each as bs xs xs' its its' pas pbs hds hds' hv hv')
      have e:(List.range its.toArray.size).all (fun j=>deq (as.getD j .non) (bs.getD j .non))=deq (.lst as) (.lst bs):=by
       rw[deq,deqs_range as bs hl]
       simp only[List.size_toArray,←l1]
      rw[e]at q
      exact q
     ·rw[deq,deqs_len as bs hl]
      exact RcAt.lists_lengths hl' hl2 (by simp only[List.size_toArray];simp;lia) hu0
   | tup bs =>
    obtain⟨p',xs',rfl,hq',hds'⟩:=wtup_of hb
    cases(show v=Value.ref p' from rv)
    obtain⟨its',hv',ht2,hz'⟩:=I.tuple hq'
    exact RcAt.list_tuple hl' (show s.heap.IsTuple p' its'.toArray from ht2) hu0
   | non=>cases(show y=.non by simpa[IsW]using hb);cases(show v=Value.none from rv);exact RcAt.list_none hl' hu0
   | bl c=>cases(show y=.bl c by simpa[IsW]using hb);cases(show v=Value.bool c from rv);exact RcAt.list_bool _ hl' hu0
   | int c=>cases(show y=.int c by simpa[IsW]using hb);obtain⟨t,rfl⟩:=rv;exact RcAt.list_int _ _ hl' hu0
   | str c=>cases(show y=.str c by simpa[IsW]using hb);obtain⟨t,rfl⟩:=rv;exact RcAt.list_str _ _ hl' hu0
  | _ =>
   cases b with
   | loc n=>simp[D.pureN]at pb
   | tup bs =>
    obtain⟨p',xs',rfl,hq',hds'⟩:=wtup_of hb
    cases(show v=Value.ref p' from rv)
    obtain⟨its',hv',ht2,hz'⟩:=I.tuple hq'
    have ht':s.heap.IsTuple p' its'.toArray:=ht2
    first
    | (cases(show x=.non by simpa[IsW]using ha);cases(show u=Value.none from ru);exact RcAt.none_tuple ht' hu0)
    | (cases(show x=.bl _ by simpa[IsW]using ha);cases(show u=Value.bool _ from ru);exact RcAt.bool_tuple _ ht' hu0)
    | (cases(show x=.int _ by simpa[IsW]using ha);obtain⟨t,rfl⟩:=ru;exact RcAt.int_tuple _ _ ht' hu0)
    | (cases(show x=.str _ by simpa[IsW]using ha);obtain⟨t,rfl⟩:=ru;exact RcAt.str_tuple _ _ ht' hu0)
   | lst bs =>
    obtain⟨p',xs',rfl,hq',hds'⟩:∃a xs,y=.ref a∧LsL X.K H a xs∧IsWs X.K H bs xs:=by simpa[IsW]using hb
    cases(show v=Value.ref p' from rv)
    obtain⟨z',its',n',hv',_,hg'⟩:=I.ls hq'
    have hl':s.heap.IsList p' its'.toArray:=⟨_,hg',rfl,n',rfl⟩
    first
    | (cases(show x=.non by simpa[IsW]using ha);cases(show u=Value.none from ru);exact RcAt.none_list hl' hu0)
    | (cases(show x=.bl _ by simpa[IsW]using ha);cases(show u=Value.bool _ from ru);exact RcAt.bool_list _ hl' hu0)
    | (cases(show x=.int _ by simpa[IsW]using ha);obtain⟨t,rfl⟩:=ru;exact RcAt.int_list _ _ hl' hu0)
    | (cases(show x=.str _ by simpa[IsW]using ha);obtain⟨t,rfl⟩:=ru;exact RcAt.str_list _ _ hl' hu0)
   | _=>exact rcAt_flat A _ _ x y u v rfl rfl ha hb ru rv
theorem cmp_eq (hu:X.A.units+8<cLine):OpR X (compareOp .Eq) (rOp X.K (cpD .eq)):=by
 intro pins s σ H x y v u Q I rx ry ⟨ι,a,b,μ,hS,ha,hb,h⟩
 unfold cpD at h
 simp only at h
 split at h
 ·rename_i hp
  exact rcAt_D I 8 X.A a b x y v u hu hp.1 hp.2 (IsW.ofD (IsD.pur hp.1 ha)) (IsW.ofD (IsD.pur hp.2 hb)) rx ry _ _ _ _ ⟨.bl (deq a b),H,I,rfl,h.ok hS (by simp[IsD])⟩
 ·exact h.elim
end
end Lp
namespace Lp
open PySem PySem.Spec PyProof.Rows L2
open PySem.SeqAt (EqAt RcNeAt)
section
variable {X : Cx} {φ : Phi} {pins : List (Addr × Obj)} {σ : St} {H : Hp} {s : Shared}
theorem rcNeAt_flat (A:Around) (a b:D) (x y:V) (u v:Value) (pa:D.pureN 0 a=true) (pb:D.pureN 0 b=true) (ha:IsW X.K H a x) (hb:IsW X.K H b y) (ru:RelV x u) (rv:RelV y v):RcNeAt A s u v (!deq a b):=by
 have b2:∀(a b:Int),decide (a=b)=(a==b):=fun a b=>(Bool.beq_eq_decide_eq a b).symm
 cases a with
 | tup _=>simp[D.pureN]at pa
 | lst _=>simp[D.pureN]at pa
 | loc _=>simp[D.pureN]at pa
 | non =>
  have ex:x=.non:=by simpa[IsW]using ha
  subst ex
  cases(show u=Value.none from ru)
  cases b with
  | tup _=>simp[D.pureN]at pb
  | lst _=>simp[D.pureN]at pb
  | loc _=>simp[D.pureN]at pb
  | non=>cases(show y=.non by simpa[IsW]using hb);cases(show v=Value.none from rv);exact RcNeAt.none_none
  | bl c=>cases(show y=.bl c by simpa[IsW]using hb);cases(show v=Value.bool c from rv);exact RcNeAt.none_bool _
  | int c=>cases(show y=.int c by simpa[IsW]using hb);obtain⟨t,rfl⟩:=rv;exact RcNeAt.none_int _ _
  | str c=>cases(show y=.str c by simpa[IsW]using hb);obtain⟨t,rfl⟩:=rv;exact RcNeAt.none_str _ _
 | bl d =>
  have ex:x=.bl d:=by simpa[IsW]using ha
  subst ex
  cases(show u=Value.bool d from ru)
  cases b with
  | tup _=>simp[D.pureN]at pb
  | lst _=>simp[D.pureN]at pb
  | loc _=>simp[D.pureN]at pb
  | non=>cases(show y=.non by simpa[IsW]using hb);cases(show v=Value.none from rv);exact RcNeAt.bool_none _
  | bl c=>cases(show y=.bl c by simpa[IsW]using hb);cases(show v=Value.bool c from rv);exact RcNeAt.bool_bool _ _
  | int c=>cases(show y=.int c by simpa[IsW]using hb);obtain⟨t,rfl⟩:=rv;rw[deq,b2];exact RcNeAt.bool_int _ _ _
  | str c=>cases(show y=.str c by simpa[IsW]using hb);obtain⟨t,rfl⟩:=rv;exact RcNeAt.bool_str _ _ _
 | int d =>
  have ex:x=.int d:=by simpa[IsW]using ha
  subst ex
  obtain⟨t',rfl⟩:=ru
  cases b with
  | tup _=>simp[D.pureN]at pb
  | lst _=>simp[D.pureN]at pb
  | loc _=>simp[D.pureN]at pb
  | non=>cases(show y=.non by simpa[IsW]using hb);cases(show v=Value.none from rv);exact RcNeAt.int_none _ _
  | bl c=>cases(show y=.bl c by simpa[IsW]using hb);cases(show v=Value.bool c from rv);rw[deq,b2];exact RcNeAt.int_bool _ _ _
  | int c=>cases(show y=.int c by simpa[IsW]using hb);obtain⟨t,rfl⟩:=rv;rw[deq,b2];exact RcNeAt.int_int _ _ _ _
  | str c=>cases(show y=.str c by simpa[IsW]using hb);obtain⟨t,rfl⟩:=rv;exact RcNeAt.int_str _ _ _ _
 | str d =>
  have ex:x=.str d:=by simpa[IsW]using ha
  subst ex
  obtain⟨t',rfl⟩:=ru
  cases b with
  | tup _=>simp[D.pureN]at pb
  | lst _=>simp[D.pureN]at pb
  | loc _=>simp[D.pureN]at pb
  | non=>cases(show y=.non by simpa[IsW]using hb);cases(show v=Value.none from rv);exact RcNeAt.str_none _ _
  | bl c=>cases(show y=.bl c by simpa[IsW]using hb);cases(show v=Value.bool c from rv);exact RcNeAt.str_bool _ _ _
  | int c=>cases(show y=.int c by simpa[IsW]using hb);obtain⟨t,rfl⟩:=rv;exact RcNeAt.str_int _ _ _ _
  | str c =>
   cases(show y=.str c by simpa[IsW]using hb);obtain⟨t,rfl⟩:=rv
   have e:deq (.str d) (.str c)=(d==c):=by rw[deq];exact(Bool.beq_eq_decide_eq d c).symm
   rw[e];exact RcNeAt.str_str _ _ _ _
theorem rcNeAt_D (I:Inv X pins σ H s):∀(k:Nat) (A:Around) (a b:D) (x y:V) (u v:Value),A.units+k<cLine→D.pureN k a=true→D.pureN k b=true→IsW X.K H a x→IsW X.K H b y→RelV x u→RelV y v→RcNeAt A s u v (!deq a b):=by
 intro k
 cases k with
 | zero=>exact fun A a b x y u v _ pa pb ha hb ru rv=>rcNeAt_flat A a b x y u v pa pb ha hb ru rv
 | succ k =>
  have ih:=eqAt_D I k
  intro A a b x y u v hu pa pb ha hb ru rv
  have hu0:A.units<cLine:=by lia
  have each:∀(as bs:List D) (xs ys:List V) (is js:List Value),as.all (D.pureN k)=true→bs.all (D.pureN k)=true→IsWs X.K H as xs→IsWs X.K H bs ys→Vals xs is→Vals ys js →
    ∀j (h1:j<is.toArray.size) (h2:j<js.toArray.size),EqAt A.in1 s is.toArray[j] js.toArray[j] (deq (as.getD j .non) (bs.getD j .non)):=by
   intro as bs xs ys is js pas pbs has hbs hvx hvy j h1 h2
   have l1:as.length=is.length:=by rw[←has.length,hvx.length]
   have l2:bs.length=js.length:=by rw[←hbs.length,hvy.length]
   have j1:j<as.length:=by rw[l1];simpa using h1
   have j2:j<bs.length:=by rw[l2];simpa using h2
   obtain⟨p,e1,q1⟩:=has.get (List.getElem?_eq_getElem j1)
   obtain⟨p',e1',q1'⟩:=hbs.get (List.getElem?_eq_getElem j2)
   obtain⟨w,e2,q2⟩:=hvx.get e1
   obtain⟨w',e2',q2'⟩:=hvy.get e1'
   have g1:is.toArray[j]=w:=by
    have:is[j]? = some is.toArray[j]:=by simp[List.getElem?_eq_getElem (show j<is.length by lia)]
    rw[this]at e2;exact Option.some.inj e2
   have g2:js.toArray[j]=w':=by
    have:js[j]? = some js.toArray[j]:=by simp[List.getElem?_eq_getElem (show j<js.length by lia)]
    rw[this]at e2';exact Option.some.inj e2'
   rw[g1,g2,List.getD_eq_getElem?_getD,List.getD_eq_getElem?_getD,List.getElem?_eq_getElem j1,List.getElem?_eq_getElem j2]
   exact ih A.in1 _ _ p p' w w' (by rw[in1_units];lia) (List.all_eq_true.mp pas _ (List.getElem_mem j1)) (List.all_eq_true.mp pbs _ (List.getElem_mem j2)) q1 q1' q2 q2'
  have flat0:∀d:D,D.pureN (k+1) d=true→(∀ds,d≠.tup ds)→(∀ds,d≠.lst ds)→D.pureN 0 d=true:=fun d h h1 h2=>by
   cases d with
   | tup ds=>exact absurd rfl (h1 ds)
   | lst ds=>exact absurd rfl (h2 ds)
   | loc n=>simp[D.pureN]at h
   | _=>rfl
  cases a with
  | loc n=>simp[D.pureN]at pa
  | tup as =>
   have pas:as.all (D.pureN k)=true:=by simpa[D.pureN]using pa
   obtain⟨p,xs,rfl,hq,hds⟩:=wtup_of ha
   cases(show u=Value.ref p from ru)
   obtain⟨its,hv,ht,hz⟩:=I.tuple hq
   have ht':s.heap.IsTuple p its.toArray:=ht
   cases b with
   | loc n=>simp[D.pureN]at pb
   | tup bs =>
    have pbs:bs.all (D.pureN k)=true:=by simpa[D.pureN]using pb
    obtain⟨p',xs',rfl,hq',hds'⟩:=wtup_of hb
    cases(show v=Value.ref p' from rv)
    obtain⟨its',hv',ht2,hz'⟩:=I.tuple hq'
    ·skip
     have q:=RcNeAt.tuples (A:=A) ht' (show s.heap.IsTuple p' its'.toArray from ht2) hu0 (each as bs xs xs' its its' pas pbs hds hds' hv hv')
     have l1:as.length=its.length:=by rw[←hds.length,hv.length]
     have l2:bs.length=its'.length:=by rw[←hds'.length,hv'.length]
     have e:((List.range (min its.toArray.size its'.toArray.size)).all (fun j=>deq (as.getD j .non) (bs.getD j .non))&&its.toArray.size==its'.toArray.size)=deq (.tup as) (.tup bs):=by
      rw[deq]
      simp only[List.size_toArray,←l1,←l2]
      by_cases hl:as.length=bs.length
      ·rw[deqs_range as bs hl,←hl];simp
      ·rw[deqs_len as bs hl];simp[hl]
     rw[e]at q
     exact q
   | lst bs =>
    obtain⟨p',xs',rfl,hq',hds'⟩:∃a xs,y=.ref a∧LsL X.K H a xs∧IsWs X.K H bs xs:=by simpa[IsW]using hb
    cases(show v=Value.ref p' from rv)
    obtain⟨z,its',n',hv',_,hg⟩:=I.ls hq'
    exact RcNeAt.tuple_list ht' ⟨_,hg,rfl,n',rfl⟩ hu0
   | non=>cases(show y=.non by simpa[IsW]using hb);cases(show v=Value.none from rv);exact RcNeAt.tuple_none ht' hu0
   | bl c=>cases(show y=.bl c by simpa[IsW]using hb);cases(show v=Value.bool c from rv);exact RcNeAt.tuple_bool _ ht' hu0
   | int c=>cases(show y=.int c by simpa[IsW]using hb);obtain⟨t,rfl⟩:=rv;exact RcNeAt.tuple_int _ _ ht' hu0
   | str c=>cases(show y=.str c by simpa[IsW]using hb);obtain⟨t,rfl⟩:=rv;exact RcNeAt.tuple_str _ _ ht' hu0
  | lst as =>
   have pas:as.all (D.pureN k)=true:=by simpa[D.pureN]using pa
   obtain⟨p,xs,rfl,hq,hds⟩:∃a xs,x=.ref a∧LsL X.K H a xs∧IsWs X.K H as xs:=by simpa[IsW]using ha
   cases(show u=Value.ref p from ru)
   obtain⟨z,its,n,hv,_,hg⟩:=I.ls hq
   have hl':s.heap.IsList p its.toArray:=⟨_,hg,rfl,n,rfl⟩
   cases b with
   | loc n=>simp[D.pureN]at pb
   | lst bs =>
    have pbs:bs.all (D.pureN k)=true:=by simpa[D.pureN]using pb
    obtain⟨p',xs',rfl,hq',hds'⟩:∃a xs,y=.ref a∧LsL X.K H a xs∧IsWs X.K H bs xs:=by simpa[IsW]using hb
    cases(show v=Value.ref p' from rv)
    obtain⟨z',its',n',hv',_,hg'⟩:=I.ls hq'
    have hl2:s.heap.IsList p' its'.toArray:=⟨_,hg',rfl,n',rfl⟩
    ·skip
     have l1:as.length=its.length:=by rw[←hds.length,hv.length]
     have l2:bs.length=its'.length:=by rw[←hds'.length,hv'.length]
     by_cases hl:as.length=bs.length
     ·have q:=RcNeAt.lists (A:=A) hl' hl2 (by simp only[List.size_toArray];lia) hu0 (each as bs xs xs' its its' pas pbs hds hds' hv hv')
      have e:(List.range its.toArray.size).all (fun j=>deq (as.getD j .non) (bs.getD j .non))=deq (.lst as) (.lst bs):=by
       rw[deq,deqs_range as bs hl]
       simp only[List.size_toArray,←l1]
      rw[e]at q
      exact q
     ·rw[deq,deqs_len as bs hl]
      exact RcNeAt.lists_lengths hl' hl2 (by simp only[List.size_toArray];simp;lia) hu0
   | tup bs =>
    obtain⟨p',xs',rfl,hq',hds'⟩:=wtup_of hb
    cases(show v=Value.ref p' from rv)
    obtain⟨its',hv',ht2,hz'⟩:=I.tuple hq'
    exact RcNeAt.list_tuple hl' (show s.heap.IsTuple p' its'.toArray from ht2) hu0
   | non=>cases(show y=.non by simpa[IsW]using hb);cases(show v=Value.none from rv);exact RcNeAt.list_none hl' hu0
   | bl c=>cases(show y=.bl c by simpa[IsW]using hb);cases(show v=Value.bool c from rv);exact RcNeAt.list_bool _ hl' hu0
   | int c=>cases(show y=.int c by simpa[IsW]using hb);obtain⟨t,rfl⟩:=rv;exact RcNeAt.list_int _ _ hl' hu0
   | str c=>cases(show y=.str c by simpa[IsW]using hb);obtain⟨t,rfl⟩:=rv;exact RcNeAt.list_str _ _ hl' hu0
  | _ =>
   cases b with
   | loc n=>simp[D.pureN]at pb
   | tup bs =>
    obtain⟨p',xs',rfl,hq',hds'⟩:=wtup_of hb
    cases(show v=Value.ref p' from rv)
    obtain⟨its',hv',ht2,hz'⟩:=I.tuple hq'
    have ht':s.heap.IsTuple p' its'.toArray:=ht2
    first
    | (cases(show x=.non by simpa[IsW]using ha);cases(show u=Value.none from ru);exact RcNeAt.none_tuple ht' hu0)
    | (cases(show x=.bl _ by simpa[IsW]using ha);cases(show u=Value.bool _ from ru);exact RcNeAt.bool_tuple _ ht' hu0)
    | (cases(show x=.int _ by simpa[IsW]using ha);obtain⟨t,rfl⟩:=ru;exact RcNeAt.int_tuple _ _ ht' hu0)
    | (cases(show x=.str _ by simpa[IsW]using ha);obtain⟨t,rfl⟩:=ru;exact RcNeAt.str_tuple _ _ ht' hu0)
   | lst bs =>
    obtain⟨p',xs',rfl,hq',hds'⟩:∃a xs,y=.ref a∧LsL X.K H a xs∧IsWs X.K H bs xs:=by simpa[IsW]using hb
    cases(show v=Value.ref p' from rv)
    obtain⟨z',its',n',hv',_,hg'⟩:=I.ls hq'
    have hl':s.heap.IsList p' its'.toArray:=⟨_,hg',rfl,n',rfl⟩
    first
    | (cases(show x=.non by simpa[IsW]using ha);cases(show u=Value.none from ru);exact RcNeAt.none_list hl' hu0)
    | (cases(show x=.bl _ by simpa[IsW]using ha);cases(show u=Value.bool _ from ru);exact RcNeAt.bool_list _ hl' hu0)
    | (cases(show x=.int _ by simpa[IsW]using ha);obtain⟨t,rfl⟩:=ru;exact RcNeAt.int_list _ _ hl' hu0)
    | (cases(show x=.str _ by simpa[IsW]using ha);obtain⟨t,rfl⟩:=ru;exact RcNeAt.str_list _ _ hl' hu0)
   | _=>exact rcNeAt_flat A _ _ x y u v rfl rfl ha hb ru rv
theorem cmp_ne (hu:X.A.units+8<cLine):OpR X (compareOp .NotEq) (rOp X.K (cpD .ne)):=by
 intro pins s σ H x y v u Q I rx ry ⟨ι,a,b,μ,hS,ha,hb,h⟩
 unfold cpD at h
 simp only at h
 split at h
 ·rename_i hp
  exact rcNeAt_D I 8 X.A a b x y v u hu hp.1 hp.2 (IsW.ofD (IsD.pur hp.1 ha)) (IsW.ofD (IsD.pur hp.2 hb)) rx ry _ _ _ _ ⟨.bl (!deq a b),H,I,rfl,h.ok hS (by simp[IsD])⟩
 ·exact h.elim
end
end Lp
namespace LT
open PySem PySem.Spec PyProof.Rows HT
open PySem.SeqAt
open PySem.AutoSeq1 (wpAny_loadPart')
open PySem.MeetsSeq PySem.MeetsSeq2 PySem.MeetsSeq3
theorem rcLe (A:Around) (s:Shared) (a:Int) (t:Tok) (c:Int) (u:Tok) (prog:Program) (w:World) (E:Value→Shared→Prop) (Q:Value→Shared→Prop) (h:Q (.bool (decide (a≤c))) s) :
  wpAny (model prog w) A (richCompare .LtE (.int a t) (.int c u)) Q E s :=
 (PyProof.Rows.le_int h:wpAny (model prog w) A (compareOp .LtE (.int a t) (.int c u)) Q E s)
theorem tuple_le (l b:Addr) (items items2:Array Value) (n n2:Nat) (dd dd2:Option Addr) (sl sl2:Array (Option Value)) (ns ms:List Int) (ii:IntsAre items.toList ns) (jj:IntsAre items2.toList ms) :
  Meets (Builtin.«tuple.__le__» ⟨[.ref l,.ref b],[]⟩) (fun _ R s=>s.heap.get? l=some {cls:=.type "tuple",dict:=dd,data:=.seq items n,slots:=sl}∧s.heap.get? b=some {cls:=.type "tuple",dict:=dd2,data:=.seq items2 n2,slots:=sl2}∧R (.ok (.ret (.bool (!lexLt ms ns)))) s) :=
 .of_wp fun prog w A R s h=>by
  obtain⟨hh0,g,d,tk0,os0⟩:=s;obtain⟨ql,hb,h⟩:=h
  have sub0:=AutoSeq1.sub_tuple_tuple
  have n1:ns.length=items.size:=by rw[←ii.length,Array.length_toList]
  have n2e:ms.length=items2.size:=by rw[←jj.length,Array.length_toList]
  wp_walk using wpAny_loadPart' ql,wpAny_loadPart' hb,wpAny_forIn_list _ (fun rest b s'=>b.1=none∧s'=⟨hh0,g,d,tk0,os0⟩∧∃(us1 us2:List Value) (ms1 ms2:List Int),rest=us1.zip us2 ∧
   IntsAre us1 ms1∧IntsAre us2 ms2∧ms1.length+items2.size=ms2.length+items.size∧R (.ok (.ret (.bool (!lexLt ms2 ms1)))) ⟨hh0,g,d,tk0,os0⟩) _
  case turn =>
   rintro⟨y,x⟩ rest b s' ⟨p0,rfl,us1,us2,ms1,ms2,pz,pv,pw,pl,fin0⟩
   cases pv with
   | nil=>rw[List.zip_nil_left]at pz;cases pz
   | cons a t pv1 =>
    cases pw with
    | nil=>rw[List.zip_nil_right]at pz;cases pz
    | cons c u pw1 =>
     rw[List.zip_cons_cons]at pz
     injection pz with pyx pr
     injection pyx with py px
     subst py px
     rw[lexLt_cons]at fin0
     simp only[List.length_cons]at pl
     obtain⟨same,eq0,eqi⟩:=eqAt_int A.in1 ⟨hh0,g,d,tk0,os0⟩ a t c u
     refine wpAny_bind (eq0 prog w _ _ ?_)
     cases same with
     | true =>
      rw[if_pos (eqi.mp rfl).symm]at fin0
      wp_walk
      exact⟨rfl,rfl,_,_,_,_,pr,pv1,pw1,by lia,fin0⟩
     | false =>
      have hne:¬c=a:=fun q=>absurd (eqi.mpr q.symm) Bool.false_ne_true
      rw[if_neg hne]at fin0
      have ed:(!decide (c<a))=decide (a≤c):=by
       by_cases hc:c<a
       ·rw[decide_eq_true hc,decide_eq_false (by lia)];rfl
       ·rw[decide_eq_false hc,decide_eq_true (by lia)];rfl
      rw[ed]at fin0
      have low:=rcLe A.in1 ⟨hh0,g,d,tk0,os0⟩ a t c u prog w
      wp_walk using low
      exact⟨_,rfl,by simpa using fin0⟩
  case fin =>
   rintro⟨c1,c2⟩ s' ⟨p0,rfl,us1,us2,ms1,ms2,pz,pv,pw,pl,fin0⟩
   simp only at p0
   subst p0
   have hv:(!lexLt ms2 ms1)=decide (items.size≤items2.size):=by
    cases pv with
    | nil =>
     cases pw with
     | nil =>
      simp only[List.length_nil]at pl
      rw[lexLt_nil_nil,decide_eq_true (by lia)];rfl
     | cons c u hw =>
      simp only[List.length_nil,List.length_cons]at pl
      rw[lexLt_cons_nil,decide_eq_true (by lia)];rfl
    | cons a t hv =>
     cases pw with
     | nil =>
      simp only[List.length_nil,List.length_cons]at pl
      rw[lexLt_nil_cons,decide_eq_false (by lia)];rfl
     | cons c u hw =>
      rw[List.zip_cons_cons]at pz
      cases pz
   rw[hv]at fin0
   wp_walk
   exact⟨_,rfl,by simpa[Builtin.Tuple.tupleCompareSizes]using fin0⟩
  case h =>
   exact⟨rfl,rfl,items.toList,items2.toList,ns,ms,rfl,ii,jj,by lia,h⟩
theorem le_tup {prog:Program} {w:World} {A:Around} {E:Value→Shared→Prop} {s:Shared} {l b:Addr} {items items2:Array Value} {ns ms:List Int} {Q:Value→Shared→Prop} (hl:IsTup s.heap l items) (hb:IsTup s.heap b items2) (hi:IntsAre items.toList ns) (hj:IntsAre items2.toList ms)
  (hu:A.units<cLine) (h:Q (.bool (!lexLt ms ns)) s):wpAny (model prog w) A (compareOp .LtE (.ref l) (.ref b)) Q E s:=by
 obtain⟨⟨_,dd,_,sl⟩,ho,rfl,n,rfl⟩:=id hl
 obtain⟨⟨_,dd2,_,sl2⟩,ho2,rfl,n2,rfl⟩:=id hb
 exact richCompare_meets_room (op:=.LtE) ⟨_,ho,rfl⟩ ⟨_,ho2,rfl⟩ PySem.F.slot_tuple_le PySem.F.entry_tuple_le (PySem.F.args_tuple_le_2 _ _) (tuple_le l b items items2 n n2 dd dd2 sl sl2 ns ms hi hj)
  ⟨ho,ho2,show Value.bool (!lexLt ms ns)≠Value.notImplemented∧Q (.bool (!lexLt ms ns)) s from⟨(fun x=>nomatch x),h⟩⟩ hu
theorem rcGe (A:Around) (s:Shared) (a:Int) (t:Tok) (c:Int) (u:Tok) (prog:Program) (w:World) (E:Value→Shared→Prop) (Q:Value→Shared→Prop) (h:Q (.bool (decide (c≤a))) s) :
  wpAny (model prog w) A (richCompare .GtE (.int a t) (.int c u)) Q E s :=
 (PyProof.Rows.ge_int h:wpAny (model prog w) A (compareOp .GtE (.int a t) (.int c u)) Q E s)
theorem tuple_ge (l b:Addr) (items items2:Array Value) (n n2:Nat) (dd dd2:Option Addr) (sl sl2:Array (Option Value)) (ns ms:List Int) (ii:IntsAre items.toList ns) (jj:IntsAre items2.toList ms) :
  Meets (Builtin.«tuple.__ge__» ⟨[.ref l,.ref b],[]⟩) (fun _ R s=>s.heap.get? l=some {cls:=.type "tuple",dict:=dd,data:=.seq items n,slots:=sl}∧s.heap.get? b=some {cls:=.type "tuple",dict:=dd2,data:=.seq items2 n2,slots:=sl2}∧R (.ok (.ret (.bool (!lexLt ns ms)))) s) :=
 .of_wp fun prog w A R s h=>by
  obtain⟨hh0,g,d,tk0,os0⟩:=s;obtain⟨ql,hb,h⟩:=h
  have sub0:=AutoSeq1.sub_tuple_tuple
  have n1:ns.length=items.size:=by rw[←ii.length,Array.length_toList]
  have n2e:ms.length=items2.size:=by rw[←jj.length,Array.length_toList]
  wp_walk using wpAny_loadPart' ql,wpAny_loadPart' hb,wpAny_forIn_list _ (fun rest b s'=>b.1=none∧s'=⟨hh0,g,d,tk0,os0⟩∧∃(us1 us2:List Value) (ms1 ms2:List Int),rest=us1.zip us2 ∧
   IntsAre us1 ms1∧IntsAre us2 ms2∧ms1.length+items2.size=ms2.length+items.size∧R (.ok (.ret (.bool (!lexLt ms1 ms2)))) ⟨hh0,g,d,tk0,os0⟩) _
  case turn =>
   rintro⟨y,x⟩ rest b s' ⟨p0,rfl,us1,us2,ms1,ms2,pz,pv,pw,pl,fin0⟩
   cases pv with
   | nil=>rw[List.zip_nil_left]at pz;cases pz
   | cons a t pv1 =>
    cases pw with
    | nil=>rw[List.zip_nil_right]at pz;cases pz
    | cons c u pw1 =>
     rw[List.zip_cons_cons]at pz
     injection pz with pyx pr
     injection pyx with py px
     subst py px
     rw[lexLt_cons]at fin0
     simp only[List.length_cons]at pl
     obtain⟨same,eq0,eqi⟩:=eqAt_int A.in1 ⟨hh0,g,d,tk0,os0⟩ a t c u
     refine wpAny_bind (eq0 prog w _ _ ?_)
     cases same with
     | true =>
      rw[if_pos (eqi.mp rfl)]at fin0
      wp_walk
      exact⟨rfl,rfl,_,_,_,_,pr,pv1,pw1,by lia,fin0⟩
     | false =>
      have hne:¬a=c:=fun q=>absurd (eqi.mpr q) Bool.false_ne_true
      rw[if_neg hne]at fin0
      have ed:(!decide (a<c))=decide (c≤a):=by
       by_cases hc:a<c
       ·rw[decide_eq_true hc,decide_eq_false (by lia)];rfl
       ·rw[decide_eq_false hc,decide_eq_true (by lia)];rfl
      rw[ed]at fin0
      have low:=rcGe A.in1 ⟨hh0,g,d,tk0,os0⟩ a t c u prog w
      wp_walk using low
      exact⟨_,rfl,by simpa using fin0⟩
  case fin =>
   rintro⟨c1,c2⟩ s' ⟨p0,rfl,us1,us2,ms1,ms2,pz,pv,pw,pl,fin0⟩
   simp only at p0
   subst p0
   have hv:(!lexLt ms1 ms2)=decide (items2.size≤items.size):=by
    cases pv with
    | nil =>
     cases pw with
     | nil =>
      simp only[List.length_nil]at pl
      rw[lexLt_nil_nil,decide_eq_true (by lia)];rfl
     | cons c u hw =>
      simp only[List.length_nil,List.length_cons]at pl
      rw[lexLt_nil_cons,decide_eq_false (by lia)];rfl
    | cons a t hv =>
     cases pw with
     | nil =>
      simp only[List.length_nil,List.length_cons]at pl
      rw[lexLt_cons_nil,decide_eq_true (by lia)];rfl
     | cons c u hw =>
      rw[List.zip_cons_cons]at pz
      cases pz
   rw[hv]at fin0
   wp_walk
   exact⟨_,rfl,by simpa[Builtin.Tuple.tupleCompareSizes]using fin0⟩
  case h =>
   exact⟨rfl,rfl,items.toList,items2.toList,ns,ms,rfl,ii,jj,by lia,h⟩
theorem ge_tup {prog:Program} {w:World} {A:Around} {E:Value→Shared→Prop} {s:Shared} {l b:Addr} {items items2:Array Value} {ns ms:List Int} {Q:Value→Shared→Prop} (hl:IsTup s.heap l items) (hb:IsTup s.heap b items2) (hi:IntsAre items.toList ns) (hj:IntsAre items2.toList ms)
  (hu:A.units<cLine) (h:Q (.bool (!lexLt ns ms)) s):wpAny (model prog w) A (compareOp .GtE (.ref l) (.ref b)) Q E s:=by
 obtain⟨⟨_,dd,_,sl⟩,ho,rfl,n,rfl⟩:=id hl
 obtain⟨⟨_,dd2,_,sl2⟩,ho2,rfl,n2,rfl⟩:=id hb
 exact richCompare_meets_room (op:=.GtE) ⟨_,ho,rfl⟩ ⟨_,ho2,rfl⟩ PySem.F.slot_tuple_ge PySem.F.entry_tuple_ge (PySem.F.args_tuple_ge_2 _ _) (tuple_ge l b items items2 n n2 dd dd2 sl sl2 ns ms hi hj)
  ⟨ho,ho2,show Value.bool (!lexLt ns ms)≠Value.notImplemented∧Q (.bool (!lexLt ns ms)) s from⟨(fun x=>nomatch x),h⟩⟩ hu
end LT
namespace L2
open PySem PySem.Spec PyProof.Rows
variable {X : Cx}
theorem op_leT (hu:X.A.units<cLine) {pins s σ H x y v u Q} (I:Inv X pins σ H s) (rx:RelV x v) (ry:RelV y u) (h:∃a b ns ms,x=.ref a∧y=.ref b∧SqT X.K H a (ns.map V.int)∧SqT X.K H b (ms.map V.int)∧Q (.bl (!HT.lexLt ms ns)) H) :
  wpAny (model X.prog X.w) X.A (compareOp .LtE v u) (EP X pins σ Q) X.xe s:=by
 obtain⟨c,d,ns,ms,rfl,rfl,hc,hd,q⟩:=h
 cases rx
 cases ry
 obtain⟨us,r1,p1,_⟩:=I.tuple hc
 obtain⟨us2,r2,p2,_⟩:=I.tuple hd
 exact LT.le_tup p1 p2 (intsAre_of r1) (intsAre_of r2) hu ⟨.bl (!HT.lexLt ms ns),H,I,rfl,q⟩
theorem op_geT (hu:X.A.units<cLine) {pins s σ H x y v u Q} (I:Inv X pins σ H s) (rx:RelV x v) (ry:RelV y u) (h:∃a b ns ms,x=.ref a∧y=.ref b∧SqT X.K H a (ns.map V.int)∧SqT X.K H b (ms.map V.int)∧Q (.bl (!HT.lexLt ns ms)) H) :
  wpAny (model X.prog X.w) X.A (compareOp .GtE v u) (EP X pins σ Q) X.xe s:=by
 obtain⟨c,d,ns,ms,rfl,rfl,hc,hd,q⟩:=h
 cases rx
 cases ry
 obtain⟨us,r1,p1,_⟩:=I.tuple hc
 obtain⟨us2,r2,p2,_⟩:=I.tuple hd
 exact LT.ge_tup p1 p2 (intsAre_of r1) (intsAre_of r2) hu ⟨.bl (!HT.lexLt ns ms),H,I,rfl,q⟩
end L2
namespace Lp
open PySem PySem.Spec PyProof.Rows L2
open PySem.SeqAt (EqAt RcAt)
noncomputable def opOf:Cp→CmpOp
 | .eq=>.Eq
 | .ne=>.NotEq
 | .eqM=>.Eq
 | .neM=>.NotEq
 | .lt=>.Lt
 | .le=>.LtE
 | .gt=>.Gt
 | .ge=>.GtE
 | .is=>.Is
 | .isnot=>.IsNot
 | .in_=>.In
 | .notin=>.NotIn
section
variable {X : Cx} {φ : Phi} {pins : List (Addr × Obj)} {σ : St} {H : Hp} {s : Shared}
theorem ints_of {K:PySem.W.Frag} {ι:List Addr}:∀{ds:List D} {xs:List V} {ns:List Int},IsDs K ι H ds xs→intsD ds=some ns→xs=ns.map V.int
 | [],xs,ns,h,e=>by
  simp only[intsD,Option.some.injEq]at e
  subst e
  simpa[IsDs]using h
 | d::ds,xs,ns,h,e=>by
  simp only[IsDs]at h
  obtain⟨v,r,rfl,q,t⟩:=h
  cases d with
  | int i =>
   simp only[intsD,Option.map_eq_some_iff]at e
   obtain⟨ms,e1,rfl⟩:=e
   cases int_of q
   rw[ints_of t e1]
   rfl
  | _=>simp[intsD]at e
theorem flat_of {K:PySem.W.Frag} {ι:List Addr} {d:D} {v:V} (h:IsD K ι H d v) (hf:flat d=true):flatV v=true:=by
 cases d with
 | tup _=>simp[flat]at hf
 | lst _=>simp[flat]at hf
 | loc _=>simp[flat]at hf
 | _=>have e:=h;simp only[IsD]at e;subst e;rfl
theorem flats_of {K:PySem.W.Frag} {ι:List Addr}:∀{ds:List D} {xs:List V},IsDs K ι H ds xs→ds.all flat=true→xs.all flatV=true
 | [],xs,h,_=>by
  have e:xs=[]:=by simpa[IsDs]using h
  subst e
  rfl
 | d::ds,xs,h,hf=>by
  simp only[IsDs]at h
  obtain⟨v,r,rfl,q,t⟩:=h
  simp only[List.all_cons,Bool.and_eq_true]at hf ⊢
  exact⟨flat_of q hf.1,flats_of t hf.2⟩
theorem eqV_of {K:PySem.W.Frag} {ι:List Addr} {d e:D} {v w:V} (hd:IsD K ι H d v) (he:IsD K ι H e w) (fd:flat d=true) (fe:flat e=true):eqV v w=deq d e:=by
 have b2:∀(a b:Int),decide (a=b)=(a==b):=fun a b=>(Bool.beq_eq_decide_eq a b).symm
 have b3:∀(a b:Str),decide (a=b)=(a==b):=fun a b=>(Bool.beq_eq_decide_eq a b).symm
 cases d with
 | tup _=>simp[flat]at fd
 | lst _=>simp[flat]at fd
 | loc _=>simp[flat]at fd
 | _ =>
  cases e with
  | tup _=>simp[flat]at fe
  | lst _=>simp[flat]at fe
  | loc _=>simp[flat]at fe
  | _ =>
   simp only[IsD]at hd he
   subst hd he
   simp only[eqV,deq,b2,b3]
theorem inV_of {K:PySem.W.Frag} {ι:List Addr} {e:D} {w:V} (he:IsD K ι H e w) (fe:flat e=true):∀{ds:List D} {xs:List V},IsDs K ι H ds xs→ds.all flat=true→inV w xs=ds.any fun y=>deq y e
 | [],xs,h,_=>by
  have e:xs=[]:=by simpa[IsDs]using h
  subst e
  rfl
 | d::ds,xs,h,hf=>by
  simp only[IsDs]at h
  obtain⟨v,r,rfl,q,t⟩:=h
  simp only[List.all_cons,Bool.and_eq_true]at hf
  have ih:=inV_of he fe t hf.2
  unfold inV at ih ⊢
  rw[List.any_cons,List.any_cons,eqV_of q he hf.1 fe,ih]
theorem is_bool {u:Bool} {v:Bool} {Q:VK} (I:Inv X pins σ H s) (q:Q (.bl (u==v)) H):wpAny (model X.prog X.w) X.A (compareOp .Is (.bool u) (.bool v)) (EP X pins σ Q) X.xe s:=by
 cases u<;>cases v<;>exact wpAny_pure ⟨.bl _,H,I,rfl,q⟩
theorem isnot_bool {u:Bool} {v:Bool} {Q:VK} (I:Inv X pins σ H s) (q:Q (.bl (!(u==v))) H):wpAny (model X.prog X.w) X.A (compareOp .IsNot (.bool u) (.bool v)) (EP X pins σ Q) X.xe s:=by
 cases u<;>cases v<;>exact wpAny_pure ⟨.bl _,H,I,rfl,q⟩
theorem is_none_bool {v:Bool} {Q:VK} (I:Inv X pins σ H s) (q:Q (.bl false) H):wpAny (model X.prog X.w) X.A (compareOp .Is .none (.bool v)) (EP X pins σ Q) X.xe s:=by
 cases v<;>exact wpAny_pure ⟨.bl _,H,I,rfl,q⟩
theorem isnot_none_bool {v:Bool} {Q:VK} (I:Inv X pins σ H s) (q:Q (.bl true) H):wpAny (model X.prog X.w) X.A (compareOp .IsNot .none (.bool v)) (EP X pins σ Q) X.xe s:=by
 cases v<;>exact wpAny_pure ⟨.bl _,H,I,rfl,q⟩
noncomputable def kD:Key→D
 | .inl i=>.int i
 | .inr x=>.str x
theorem key_of' {K:PySem.W.Frag} {ι:List Addr} {d:D} {x:V} (hk:dkey d=true) (h:IsD K ι H d x):∃k,d=kD k∧x=kV k:=by
 cases d with
 | int i=>exact⟨.inl i,rfl,by simpa[IsD,kV]using h⟩
 | str i=>exact⟨.inr i,rfl,by simpa[IsD,kV]using h⟩
 | _=>simp[dkey]at hk
theorem key_inv {K:PySem.W.Frag} {ι:List Addr} {d:D} {k:Key} (h:IsD K ι H d (kV k)):d=kD k:=by
 cases k with
 | inl i=>cases d<;>simp_all[IsD,kV,kD]
 | inr i=>cases d<;>simp_all[IsD,kV,kD]
theorem deq_kD (a b:Key):deq (kD a) (kD b)=decide (a=b):=by
 cases a<;>cases b<;>simp[kD,deq]
noncomputable def OR (K:PySem.W.Frag) (H:Hp):Option D→Option V→Prop
 | some d,some v=>IsD K [] H d v
 | none,none=>True
 | _,_=>False
theorem OR.isSome {K:PySem.W.Frag} {o:Option D} {p:Option V} (h:OR K H o p):p.isSome=o.isSome:=by
 cases o<;>cases p<;>first | rfl | exact h.elim
theorem dget_val {K:PySem.W.Frag} {k:Key}:∀{kvs:List (D×D)} {xs:List (Key×V)},KvsK K H kvs xs→OR K H (dget (kD k) kvs) (valV xs k)
 | _,_,.nil=>True.intro
 | p::kvs,q::xs,.cons h t=>by
  obtain⟨d,e⟩:=p
  have hk:=key_inv h.1
  dsimp only at hk
  subst hk
  have ih:=dget_val (k:=k) (kvs:=kvs) (xs:=xs) t
  by_cases z:q.1=k
  ·rw[valV_pos z,dget,deq_kD,if_pos (by simpa using z)]
   exact h.2
  ·rw[valV_neg z,dget,deq_kD,if_neg (by simpa using z)]
   exact ih
theorem kvs_any {K:PySem.W.Frag} {k:Key}:∀{kvs:List (D×D)} {xs:List (Key×V)},KvsK K H kvs xs→(kvs.any fun p=>deq p.1 (kD k))=xs.any fun kv=>decide (kv.1=k)
 | _,_,.nil=>rfl
 | p::kvs,q::xs,.cons h t=>by
  obtain⟨d,e⟩:=p
  have hk:=key_inv h.1
  dsimp only at hk
  subst hk
  rw[List.any_cons,List.any_cons,kvs_any t,deq_kD]
theorem kvs_repl {K:PySem.W.Frag} {k:Key} {d:D} {v:V} (hv:IsD K [] H d v):∀{kvs:List (D×D)} {xs:List (Key×V)},KvsK K H kvs xs →
  KvsK K H (kvs.map fun p=>if deq p.1 (kD k)=true then(p.1,d)else p) (xs.map fun kv=>if kv.1=k then(kv.1,v)else kv)
 | _,_,.nil=>.nil
 | p::kvs,q::xs,.cons h t=>by
  obtain⟨e,w⟩:=p
  have hk:=key_inv h.1
  dsimp only at hk
  subst hk
  rw[List.map_cons,List.map_cons]
  refine .cons ?_ (kvs_repl hv t)
  by_cases z:q.1=k
  ·rw[if_pos z,deq_kD,if_pos (by simpa using z)]
   exact⟨h.1,hv⟩
  ·rw[if_neg z,deq_kD,if_neg (by simpa using z)]
   exact h
theorem paired_snoc {α β:Type} {F:α→β→Prop}:∀{xs:List α} {ys:List β} {x:α} {y:β},Paired F xs ys→F x y→Paired F (xs++[x]) (ys++[y])
 | _,_,_,_,.nil,h=>.cons h .nil
 | _,_,_,_,.cons a t,h=>.cons a (paired_snoc t h)
theorem dput_put {K:PySem.W.Frag} {k:Key} {d:D} {v:V} (hv:IsD K [] H d v) {kvs:List (D×D)} {xs:List (Key×V)} (h:KvsK K H kvs xs):KvsK K H (dput (kD k) d kvs) (putK xs k v):=by
 unfold dput putK
 rw[kvs_any h]
 split
 ·exact kvs_repl hv h
 ·refine paired_snoc h ⟨?_,hv⟩
  cases k<;>simp[kD,kV,IsD]
theorem dict_of {K:PySem.W.Frag} {ι:List Addr} {μ:Sto} {o k:D} {x y:V} {kvs:List (D×D)} (hS:Sim K ι H μ) (ho:IsD K ι H o x) (hk:IsD K ι H k y) (h:dictAt μ o k=some kvs) :
  ∃p q xs,x=.ref p∧y=kV q∧k=kD q∧H p=some (.dK xs)∧KvsK K H kvs xs:=by
 cases o with
 | loc n =>
  simp only[dictAt]at h
  split at h
  ·rename_i kvs' em
   split at h
   ·rename_i hkey
    cases h
    obtain⟨p,rfl,hp⟩:∃p,x=.ref p∧ι[n]? = some p:=by simpa[IsD]using ho
    obtain⟨a',q',ob⟩:=hS.at em
    rw[hp]at q';cases q'
    obtain⟨xs,e1,e2⟩:=ob
    obtain⟨q,rfl,rfl⟩:=key_of' hkey hk
    exact⟨p,q,xs,rfl,rfl,rfl,e1,e2⟩
   ·cases h
  ·cases h
 | _=>simp[dictAt]at h
theorem cmp_ok (cp:Cp) (hu:X.A.units+8<cLine):OpR X (compareOp (opOf cp)) (rOp X.K (cpD cp)):=by
 have hu0:X.A.units<cLine:=by lia
 cases cp with
 | eq=>exact cmp_eq hu
 | ne=>exact cmp_ne hu
 | eqM =>
  intro pins s σ H x y v u Q I rx ry ⟨ι,a,b,μ,hS,ha,hb,h⟩
  simp only[cpD]at h
  cases e1:derefN μ 8 a with
  | none=>simp only[e1]at h;exact h.elim
  | some a1 =>
   cases e2:derefN μ 8 b with
   | none=>simp only[e1,e2]at h;exact h.elim
   | some b1 =>
    simp only[e1,e2]at h
    exact rcAt_D I 8 X.A a1 b1 x y v u hu (deref_pure 8 _ _ e1) (deref_pure 8 _ _ e2) (isW_of hS 8 _ _ _ e1 ha) (isW_of hS 8 _ _ _ e2 hb) rx ry _ _ _ _ ⟨.bl (deq a1 b1),H,I,rfl,h.ok hS (by simp[IsD])⟩
 | neM =>
  intro pins s σ H x y v u Q I rx ry ⟨ι,a,b,μ,hS,ha,hb,h⟩
  simp only[cpD]at h
  cases e1:derefN μ 8 a with
  | none=>simp only[e1]at h;exact h.elim
  | some a1 =>
   cases e2:derefN μ 8 b with
   | none=>simp only[e1,e2]at h;exact h.elim
   | some b1 =>
    simp only[e1,e2]at h
    exact rcNeAt_D I 8 X.A a1 b1 x y v u hu (deref_pure 8 _ _ e1) (deref_pure 8 _ _ e2) (isW_of hS 8 _ _ _ e1 ha) (isW_of hS 8 _ _ _ e2 hb) rx ry _ _ _ _ ⟨.bl (!deq a1 b1),H,I,rfl,h.ok hS (by simp[IsD])⟩
 | lt =>
  intro pins s σ H x y v u Q I rx ry ⟨ι,a,b,μ,hS,ha,hb,h⟩
  simp only[cpD]at h
  split at h
  ·cases int_of ha;cases int_of hb
   exact op_lt pins s σ H _ _ v u Q I rx ry ⟨_,_,rfl,rfl,h.ok hS (by simp[IsD])⟩
  ·obtain⟨p,xs,rfl,hq,hds⟩:=tup_of ha
   obtain⟨p',xs',rfl,hq',hds'⟩:=tup_of hb
   split at h
   ·rename_i ns ms e1 e2
    have:=ints_of hds e1
    subst this
    have:=ints_of hds' e2
    subst this
    refine op_ltT hu0 pins s σ H _ _ v u Q I rx ry ⟨p,p',ns,ms,rfl,rfl,hq,hq',?_⟩
    have el:∀(a b:List Int),HT.lexLt a b=Lp.lexLt a b:=by
     intro a
     induction a with
     | nil=>intro b;cases b<;>rfl
     | cons x r ih=>intro b;cases b with
      | nil=>rfl
      | cons y q=>rw[HT.lexLt_cons,Lp.lexLt,ih]
    rw[el]
    exact h.ok hS (by simp[IsD])
   ·exact h.elim
  ·exact h.elim
 | le =>
  intro pins s σ H x y v u Q I rx ry ⟨ι,a,b,μ,hS,ha,hb,h⟩
  simp only[cpD]at h
  split at h
  ·cases int_of ha;cases int_of hb
   exact op_le pins s σ H _ _ v u Q I rx ry ⟨_,_,rfl,rfl,h.ok hS (by simp[IsD])⟩
  ·obtain⟨p,xs,rfl,hq,hds⟩:=tup_of ha
   obtain⟨p',xs',rfl,hq',hds'⟩:=tup_of hb
   split at h
   ·rename_i ns ms e1 e2
    have:=ints_of hds e1
    subst this
    have:=ints_of hds' e2
    subst this
    refine op_leT hu0 I rx ry ⟨p,p',ns,ms,rfl,rfl,hq,hq',?_⟩
    have el:∀(a b:List Int),HT.lexLt a b=Lp.lexLt a b:=by
     intro a
     induction a with
     | nil=>intro b;cases b<;>rfl
     | cons x r ih=>intro b;cases b with
      | nil=>rfl
      | cons y q=>rw[HT.lexLt_cons,Lp.lexLt,ih]
    rw[el]
    exact h.ok hS (by simp[IsD])
   ·exact h.elim
  ·exact h.elim
 | gt =>
  refine OpR.imp op_gt fun x y H Q ⟨ι,a,b,μ,hS,ha,hb,h⟩=>?_
  simp only[cpD]at h
  split at h
  ·cases int_of ha;cases int_of hb
   exact⟨_,_,rfl,rfl,h.ok hS (by simp[IsD])⟩
  ·exact h.elim
 | ge =>
  intro pins s σ H x y v u Q I rx ry ⟨ι,a,b,μ,hS,ha,hb,h⟩
  simp only[cpD]at h
  split at h
  ·cases int_of ha;cases int_of hb
   exact op_ge pins s σ H _ _ v u Q I rx ry ⟨_,_,rfl,rfl,h.ok hS (by simp[IsD])⟩
  ·obtain⟨p,xs,rfl,hq,hds⟩:=tup_of ha
   obtain⟨p',xs',rfl,hq',hds'⟩:=tup_of hb
   split at h
   ·rename_i ns ms e1 e2
    have:=ints_of hds e1
    subst this
    have:=ints_of hds' e2
    subst this
    refine op_geT hu0 I rx ry ⟨p,p',ns,ms,rfl,rfl,hq,hq',?_⟩
    have el:∀(a b:List Int),HT.lexLt a b=Lp.lexLt a b:=by
     intro a
     induction a with
     | nil=>intro b;cases b<;>rfl
     | cons x r ih=>intro b;cases b with
      | nil=>rfl
      | cons y q=>rw[HT.lexLt_cons,Lp.lexLt,ih]
    rw[el]
    exact h.ok hS (by simp[IsD])
   ·exact h.elim
  ·exact h.elim
 | is =>
  intro pins s σ H x y v u Q I rx ry ⟨ι,a,b,μ,hS,ha,hb,h⟩
  simp only[cpD]at h
  split at h
  ·refine op_isN pins s σ H x y v u Q I rx ry ⟨by simpa[IsD]using hb,?_⟩
   cases a with
   | tup ds=>obtain⟨p,xs,rfl,_⟩:=tup_of ha;exact h.ok hS (by simp[IsD])
   | lst ds =>
         obtain⟨p,xs,rfl,_⟩:∃p xs,x=V.ref p∧FzL X.K H p xs∧IsDs X.K ι H ds xs:=by simpa[IsD]using ha
         exact h.ok hS (by simp[IsD])
   | loc n =>
        obtain⟨p,rfl,_⟩:∃p,x=V.ref p∧ι[n]? = some p:=by simpa[IsD]using ha
        exact h.ok hS (by simp[IsD])
   | _=>have e:=ha;simp only[IsD]at e;subst e;exact h.ok hS (by simp[IsD])
  ·cases bl_of hb
   cases(show u=Value.bool _ from ry)
   split at h
   ·cases bl_of ha
    cases(show v=Value.bool _ from rx)
    exact is_bool I (h.ok hS (by simp[IsD]))
   ·cases(show x=.non by simpa[IsD]using ha)
    cases(show v=Value.none from rx)
    exact is_none_bool I (h.ok hS (by simp[IsD]))
   ·exact h.elim
  ·exact h.elim
 | isnot =>
  intro pins s σ H x y v u Q I rx ry ⟨ι,a,b,μ,hS,ha,hb,h⟩
  simp only[cpD]at h
  split at h
  ·refine op_notN pins s σ H x y v u Q I rx ry ⟨by simpa[IsD]using hb,?_⟩
   cases a with
   | tup ds=>obtain⟨p,xs,rfl,_⟩:=tup_of ha;exact h.ok hS (by simp[IsD])
   | lst ds =>
         obtain⟨p,xs,rfl,_⟩:∃p xs,x=V.ref p∧FzL X.K H p xs∧IsDs X.K ι H ds xs:=by simpa[IsD]using ha
         exact h.ok hS (by simp[IsD])
   | loc n =>
        obtain⟨p,rfl,_⟩:∃p,x=V.ref p∧ι[n]? = some p:=by simpa[IsD]using ha
        exact h.ok hS (by simp[IsD])
   | _=>have e:=ha;simp only[IsD]at e;subst e;exact h.ok hS (by simp[IsD])
  ·cases bl_of hb
   cases(show u=Value.bool _ from ry)
   split at h
   ·cases bl_of ha
    cases(show v=Value.bool _ from rx)
    exact isnot_bool I (h.ok hS (by simp[IsD]))
   ·cases(show x=.non by simpa[IsD]using ha)
    cases(show v=Value.none from rx)
    exact isnot_none_bool I (h.ok hS (by simp[IsD]))
   ·exact h.elim
  ·exact h.elim
 | in_ =>
  intro pins s σ H x y v u Q I rx ry ⟨ι,a,b,μ,hS,ha,hb,h⟩
  simp only[cpD]at h
  split at h
  ·rename_i ds e
   obtain⟨p,xs,rfl,hq,hds⟩:=seq_of hS hb e
   split at h
   ·rename_i hf
    refine op_in_seq pins s σ H _ _ v u Q I rx ry ⟨p,xs,rfl,hq.imp (·.sq) id,flat_of ha hf.1,flats_of hds hf.2,?_⟩
    simp only[Bool.false_eq_true,if_false]
    rw[inV_of ha hf.1 hds hf.2]
    exact h.ok hS (by simp[IsD])
   ·exact h.elim
  ·split at h
   ·rename_i kvs e
    obtain⟨p,q,xs,rfl,rfl,rfl,hp,hk⟩:=dict_of hS hb ha e
    cases(show u=Value.ref p from ry)
    refine d_in (by lia) I (DGet.k hp) rx fun s' I'=>⟨.bl (valV xs q).isSome,H,I',rfl,?_⟩
    rw[(dget_val hk).isSome]
    exact h.ok hS (by simp[IsD])
   ·exact h.elim
 | notin =>
  intro pins s σ H x y v u Q I rx ry ⟨ι,a,b,μ,hS,ha,hb,h⟩
  simp only[cpD]at h
  split at h
  ·rename_i ds e
   obtain⟨p,xs,rfl,hq,hds⟩:=seq_of hS hb e
   split at h
   ·rename_i hf
    refine op_notIn_seq pins s σ H _ _ v u Q I rx ry ⟨p,xs,rfl,hq.imp (·.sq) id,flat_of ha hf.1,flats_of hds hf.2,?_⟩
    simp only[if_true]
    rw[inV_of ha hf.1 hds hf.2]
    exact h.ok hS (by simp[IsD])
   ·exact h.elim
  ·split at h
   ·rename_i kvs e
    obtain⟨p,q,xs,rfl,rfl,rfl,hp,hk⟩:=dict_of hS hb ha e
    cases(show u=Value.ref p from ry)
    refine d_notIn (by lia) I (DGet.k hp) rx fun s' I'=>⟨.bl (!(valV xs q).isSome),H,I',rfl,?_⟩
    rw[(dget_val hk).isSome]
    exact h.ok hS (by simp[IsD])
   ·exact h.elim
end
end Lp
namespace Lp
open PySem PySem.Spec PyProof.Rows L2
open PySem.SeqAt (EqAt RcAt)
section
variable {X : Cx} {φ : Phi} {pins : List (Addr × Obj)} {σ : St} {H : Hp} {s : Shared}
noncomputable def PCh (X:Cx) (ops:List CmpOp) (es:List Expr) (t:V→TE):Prop :=
 ∀(pos:Pos) (pins:List (Addr×Obj)) (s:Shared) (σ:St) (H:Hp) (Q:VK) (x:V) (v:Value),Inv X pins σ H s→RelV x v→t x σ H Q →
  wpAny (model X.prog X.w) X.A (compareChain pos v ops (evalEach es X.env)) (EP X pins σ Q) X.xe s
noncomputable def PTh (X:Cx) (ops:List CmpOp) (es:List Expr) (t:V→TT):Prop :=
 ∀(pos:Pos) (pins:List (Addr×Obj)) (s:Shared) (σ:St) (H:Hp) (Q:Bool→Hp→Prop) (x:V) (v:Value),Inv X pins σ H s→RelV x v→t x σ H Q →
  wpAny (model X.prog X.w) X.A (testChain pos v ops (evalEach es X.env)) (TP X pins σ Q) X.xe s
noncomputable def tCh (K:PySem.W.Frag) (φ:Phi) (r:Cps):V→TE:=fun x σv H Q=>∃ι σ μ d,Sim K ι H μ∧SimL K ι H σ σv∧IsD K ι H d x∧Post K (RD K) ι H (evC φ r d σ μ) Q
noncomputable def tTh (K:PySem.W.Frag) (φ:Phi) (r:Cps):V→TT:=fun x σv H Q=>∃ι σ μ d,Sim K ι H μ∧SimL K ι H σ σv∧IsD K ι H d x∧Post K RB ι H ((evC φ r d σ μ).bind fun z μ=>tstD z μ) Q
theorem evC_nil {op:Cp} {xe:Ex} {d:D} {σ:Sl} {μ:Sto}:evC φ (.cons op xe .nil) d σ μ=(evE φ xe σ μ).bind fun y μ=>cpD op d y μ:=by
 simp only[evC]
 cases evE φ xe σ μ with
 | ok y μ1 =>
  simp only[Res.bind_ok]
  cases cpD op d y μ1<;>rfl
 | exc _ _ _=>rfl
 | stuck=>rfl
theorem ch_last {op:Cp} {e:Expr} {xe:Ex} (ho:OpR X (compareOp (opOf op)) (rOp X.K (cpD op))) (he:PE X e (tE X.K φ xe)):PCh X [opOf op] [e] (tCh X.K φ (.cons op xe .nil)):=by
 intro pos pins s σv H Q x v I rx ⟨ι,σ,μ,d,hS,hL,hd,h⟩
 rw[evC_nil]at h
 obtain⟨y,μ1,e1,h⟩:=h.bind
 refine chain_last (thn (he pins s σv H (fun w H1=>rOp X.K (cpD op) x w H1 Q) I ⟨ι,σ,μ,hS,hL,?_⟩) fun u s1 ⟨w,H1,I1,r1,q1⟩=>ho pins s1 σv H1 x w v u Q I1 rx r1 q1)
 rw[e1]
 exact fun ι1 w H1 p1 x1 s1 d1=>⟨ι1,d,y,μ1,s1,IsD.mono p1 x1 _ _ hd,d1,h.mono p1 x1⟩
theorem th_last {op:Cp} {e:Expr} {xe:Ex} (ho:OpR X (compareOp (opOf op)) (rOp X.K (cpD op))) (he:PE X e (tE X.K φ xe)):PTh X [opOf op] [e] (tTh X.K φ (.cons op xe .nil)):=by
 intro pos pins s σv H Q x v I rx ⟨ι,σ,μ,d,hS,hL,hd,h⟩
 rw[evC_nil,Res.bind_assoc]at h
 obtain⟨y,μ1,e1,h⟩:=h.bind
 refine test_last (thn (he pins s σv H (fun w H1=>rOp X.K (cpD op) x w H1 (fun z H2=>∃k,z=.bl k∧Q k H2)) I ⟨ι,σ,μ,hS,hL,?_⟩) fun u s1 ⟨w,H1,I1,r1,q1⟩=>thn (ho pins s1 σv H1 x w v u _ I1 rx r1 q1) fun c s2 ⟨z,H2,I2,r2,k,ek,q2⟩=>?_)
 ·rw[e1]
  intro ι1 w H1 p1 x1 s1 d1
  obtain⟨z,μ2,e2,h⟩:=h.bind
  refine⟨ι1,d,y,μ1,s1,IsD.mono p1 x1 _ _ hd,d1,?_⟩
  rw[e2]
  intro ι2 z' H2 p2 x2 s2 d2
  cases z with
  | bl k=>exact⟨k,bl_of d2,h ι2 k H2 (p1.trans p2) (x1.trans x2) s2 rfl⟩
  | _=>exact h.elim
 ·subst ek
  cases r2
  exact wpAny_truthy_bool ⟨H2,I2,q2⟩
theorem s_cmp {a:Expr} {xa:Ex} {ops:List CmpOp} {es:List Expr} {r:Cps} {pos:Pos} (ha:PE X a (tE X.K φ xa)) (hr:PCh X ops es (tCh X.K φ r)) (hm:lastMarks ops es=false):PE X (.Compare a ops es pos) (tE X.K φ (.cmp xa r)):=by
 intro pins s σv H Q I ⟨ι,σ,μ,hS,hL,h⟩
 simp only[evE]at h
 obtain⟨d,μ1,e1,h⟩:=h.bind
 show wpAny _ _ (do compareChain pos (←eval a X.env) ops (markedEach ops es (evalEach es X.env))) _ _ _
 rw[markedEach_of_false _ _ _ hm]
 refine wpAny_bind (thn (ha pins s σv H (fun x H1=>tCh X.K φ r x σv H1 Q) I ⟨ι,σ,μ,hS,hL,?_⟩) fun v s1 ⟨x,H1,I1,r1,q1⟩=>hr pos pins s1 σv H1 Q x v I1 r1 q1)
 rw[e1]
 exact fun ι1 x H1 p1 x1 s1 d1=>⟨ι1,σ,μ1,d,s1,hL.mono p1 x1,d1,h.mono p1 x1⟩
theorem s_tcmp {a:Expr} {xa:Ex} {ops:List CmpOp} {es:List Expr} {r:Cps} {pos:Pos} (ha:PE X a (tE X.K φ xa)) (hr:PTh X ops es (tTh X.K φ r)) (hm:lastMarks ops es=false):PT X (.Compare a ops es pos) (tT X.K φ (.cmp xa r)):=by
 intro pins s σv H Q I ⟨ι,σ,μ,hS,hL,h⟩
 simp only[evE]at h
 rw[Res.bind_assoc]at h
 obtain⟨d,μ1,e1,h⟩:=h.bind
 show wpAny _ _ (do testChain pos (←eval a X.env) ops (markedEach ops es (evalEach es X.env))) _ _ _
 rw[markedEach_of_false _ _ _ hm]
 refine wpAny_bind (thn (ha pins s σv H (fun x H1=>tTh X.K φ r x σv H1 Q) I ⟨ι,σ,μ,hS,hL,?_⟩) fun v s1 ⟨x,H1,I1,r1,q1⟩=>hr pos pins s1 σv H1 Q x v I1 r1 q1)
 rw[e1]
 exact fun ι1 x H1 p1 x1 s1 d1=>⟨ι1,σ,μ1,d,s1,hL.mono p1 x1,d1,h.mono p1 x1⟩
theorem pi_seq {l:Expr} {xl:Ex} {tg:Expr} (hl:PE X l (tE X.K φ xl)):PI X tg l (tI X.K φ (.seq xl)):=by
 intro pins s σv H R I ⟨ι,σ,μ,hS,hL,h⟩
 simp only[evI]at h
 cases e1:evE φ xl σ μ with
 | exc _ _ _=>rw[e1]at h;exact h.elim
 | stuck=>rw[e1]at h;exact h.elim
 | ok d μ1 =>
 rw[e1]at h
 simp only[Res.bind_ok]at h
 have hq:tE X.K φ xl σv H (fun v H1=>∃ι1,ι <+: ι1∧Ext H H1∧Sim X.K ι1 H1 μ1∧IsD X.K ι1 H1 d v):=⟨ι,σ,μ,hS,hL,by rw[e1];exact fun ι1 v H1 p1 x1 s1 d1=>⟨ι1,p1,x1,s1,d1⟩⟩
 refine thn (hl pins s σv H _ I hq) fun u s1 ⟨v,H1,I1,r1,ι1,p1,x1,S1,d1⟩=>?_
 -- a list,at a,whatever its items
 have lst:∀(a:Addr) (xs:List V) (ds:List D) (g:Gd),v=.ref a→LsL X.K H1 a xs→IsDs X.K ι1 H1 ds xs→(∀ι2 H2 μ2,ι1 <+: ι2→Ext H1 H2→Sim X.K ι2 H2 μ2→gd g μ2→∃ys,LsL X.K H2 a ys∧IsDs X.K ι2 H2 ds ys) →
   (∀ι' H' J,ι <+: ι'→Ext H H'→Sim X.K ι' H' μ1→Walk X.K ι' H' J ds g→R J H')→wpAny (model X.prog X.w) X.A (pyIter u) (PIE X pins σv tg R) X.xe s1:=by
  intro a xs ds g ev hls hds stay hR
  subst ev
  cases(show u=Value.ref a from r1)
  obtain⟨its,rv,p,hz⟩:=I1.list hls.sq
  refine wpAny_pyIter_list p.isList ?_
  refine⟨s1.heap.objs.size,[s1.heap.objs.size],_,_,H1,rfl,I1.kept (t':=s1.toks) fun b o e=>Heap.get?_push_of_some _ e,turn_list a _,⟨_,Heap.get?_push_size _ rfl,rfl,rfl⟩,fun b hb=>?_,hR ι1 H1 _ p1 x1 S1 ?_⟩
  ·have e:b=s1.heap.objs.size:=by simpa using hb
   subst e
   exact I1.fpOk (Nat.le_refl _) (I1.hok.fresh (Nat.le_refl _))
  ·refine⟨by rw[←hds.length];exact hz,fun i ι2 H2 μ2 q1 q2 q3 q4 hi=>?_,fun i ι2 H2 μ2 w H3 q1 q2 q3 q4 hi hy=>?_,fun ι2 H2 μ2 q1 q2 q3 q4=>?_⟩
   ·obtain⟨ys,y1,y2⟩:=stay ι2 H2 μ2 q1 q2 q3 q4
    obtain⟨w,e,_⟩:=y2.get (List.getElem?_eq_getElem hi)
    exact⟨ys,w,y1.sq,e⟩
   ·obtain⟨ys,y1,y2⟩:=stay ι2 H2 μ2 q1 q2 q3 q4
    obtain⟨e,hy⟩:=hy
    subst e
    obtain⟨w',e',q'⟩:=y2.get (List.getElem?_eq_getElem hi)
    have:=hy ys y1.sq
    rw[e']at this;cases this
    exact⟨.refl _,q3,_,List.getElem?_eq_getElem hi,q'⟩
   ·obtain⟨ys,y1,y2⟩:=stay ι2 H2 μ2 q1 q2 q3 q4
    exact⟨ys,y1.sq,by rw[y2.length];exact Nat.le_refl _⟩
 cases d with
 | tup ds =>
  simp only[walkOf]at h
  obtain⟨a,xs,rfl,hq,hds⟩:=tup_of d1
  cases(show u=Value.ref a from r1)
  obtain⟨its,rv,p,hz⟩:=I1.tuple hq
  refine wpAny_pyIter_tuple (show s1.heap.IsTuple a its.toArray from p) ?_
  refine⟨s1.heap.objs.size,[s1.heap.objs.size],_,_,H1,rfl,I1.kept (t':=s1.toks) fun b o e=>Heap.get?_push_of_some _ e,turn_tuple a _,⟨_,Heap.get?_push_size _ rfl,rfl,rfl⟩,fun b hb=>?_,h ι1 H1 _ p1 x1 S1 ?_⟩
  ·have e:b=s1.heap.objs.size:=by simpa using hb
   subst e
   exact I1.fpOk (Nat.le_refl _) (I1.hok.fresh (Nat.le_refl _))
  ·refine⟨by rw[←hds.length];exact hz,fun i ι2 H2 μ2 q1 q2 q3 q4 hi=>?_,fun i ι2 H2 μ2 w H3 q1 q2 q3 q4 hi hy=>?_,fun ι2 H2 μ2 q1 q2 q3 q4=>?_⟩
   ·obtain⟨w,e,_⟩:=hds.get (List.getElem?_eq_getElem hi)
    exact⟨xs,w,hq.ext q2,e⟩
   ·obtain⟨e,hy⟩:=hy
    subst e
    obtain⟨w',e',q'⟩:=hds.get (List.getElem?_eq_getElem hi)
    have:=hy xs (hq.ext q2)
    rw[e']at this;cases this
    exact⟨.refl _,q3,_,List.getElem?_eq_getElem hi,IsD.mono q1 q2 _ _ q'⟩
   ·exact⟨xs,hq.ext q2,by rw[hds.length];exact Nat.le_refl _⟩
 | lst ds =>
  simp only[walkOf]at h
  obtain⟨a,xs,rfl,hq,hds⟩:∃a xs,v=.ref a∧FzL X.K H1 a xs∧IsDs X.K ι1 H1 ds xs:=by simpa[IsD]using d1
  exact lst a xs ds none rfl (.inr hq) hds (fun ι2 H2 μ2 q1 q2 q3 q4=>⟨xs,.inr (hq.ext q2),IsDs.mono q1 q2 _ _ hds⟩) h
 | loc n =>
  obtain⟨a,rfl,hn⟩:∃a,v=.ref a∧ι1[n]? = some a:=by simpa[IsD]using d1
  have pre:∀{ι2:List Addr},ι1 <+: ι2→ι2[n]? = some a:=fun hp=>by
   obtain⟨t,rfl⟩:=hp
   rw[List.getElem?_append_left (List.getElem?_eq_some_iff.mp hn).1];exact hn
  cases em:μ1[n]? with
  | none=>simp only[walkOf,em]at h
  | some o =>
   simp only[walkOf,em]at h
   cases o with
   | l ds =>
    simp only at h
    obtain⟨a',q',ho⟩:=S1.at em
    rw[hn]at q';cases q'
    obtain⟨xs,f1,f2⟩:=ho
    refine lst a xs ds (some (n,.l ds)) rfl (.inl f1) (IsDs.mono (List.nil_prefix) (.refl _) _ _ f2) (fun ι2 H2 μ2 q1 q2 q3 q4=>?_) h
    obtain⟨a2,e2,o2⟩:=q3.at (show μ2[n]? = some (.l ds)from q4)
    rw[pre q1]at e2;cases e2
    obtain⟨ys,g1,g2⟩:=o2
    exact⟨ys,.inl g1,IsDs.mono (List.nil_prefix) (.refl _) _ _ g2⟩
   | r ds =>
    simp only at h
    obtain⟨a',q',ho⟩:=S1.at em
    rw[hn]at q';cases q'
    obtain⟨xs,f1,f2⟩:=ho
    refine lst a xs ds (some (n,.r ds)) rfl (.inl f1) f2 (fun ι2 H2 μ2 q1 q2 q3 q4=>?_) h
    obtain⟨a2,e2,o2⟩:=q3.at (show μ2[n]? = some (.r ds)from q4)
    rw[pre q1]at e2;cases e2
    obtain⟨ys,g1,g2⟩:=o2
    exact⟨ys,.inl g1,g2⟩
   | d kvs=>simp only at h
   | dt kvs=>simp only at h
   | dead=>simp only at h
 | _=>simp only[walkOf]at h
theorem walk_range {K:PySem.W.Frag} {ι:List Addr} {H:Hp} (lo:Int) (n:Nat) (hn:n≤sizeLine):Walk K ι H (Itr lo n) ((List.range n).map fun(k:Nat)=>D.int (lo+k)) none:=by
 refine⟨by simpa using hn,fun i ι2 H2 μ2 q1 q2 q3 q4 hi=>by simpa[Itr]using hi,fun i ι2 H2 μ2 w H3 q1 q2 q3 q4 hi hy=>?_,fun ι2 H2 μ2 q1 q2 q3 q4=>by simp[Itr]⟩
 obtain⟨e,hy⟩:=hy
 subst e
 have hi':i<n:=by simpa using hi
 exact⟨.refl _,q3,.int (lo+i),by simp[hi'],by simp[IsD,hy]⟩
theorem pi_rng {a:Expr} {xa:Ex} {tg:Expr} {p pos:Pos} (hg:Gl X "range") (hm:X.mg "range"=none) (ha:PE X a (tE X.K φ xa)) (hs:starEach [a] X.env=[(false,eval a X.env)]):PI X tg (.Call (.Name "range" p) [a] [] pos) (tI X.K φ (.rng xa)) :=
 PI.imp (pi_range1 hg hm (s_cons ha s_nil hs) hs) fun σv H R ⟨ι,σ,μ,hS,hL,h⟩=>by
  simp only[evI]at h
  refine⟨ι,σ,μ,hS,hL,?_⟩
  simp only[evEs]
  cases e1:evE φ xa σ μ with
  | exc _ _ _=>rw[e1]at h;exact h.elim
  | stuck=>rw[e1]at h;exact h.elim
  | ok d μ1 =>
   rw[e1]at h
   simp only[Res.bind_ok]at h ⊢
   cases d with
   | int j =>
    simp only at h
    by_cases hj:-(lim:Int)≤j∧j≤lim
    ·rw[if_pos hj]at h
     rw[lim_line]at hj
     have h24:sizeLine=16777216:=sizeLine_eq
     rw[h24]at hj
     intro ι1 vs H1 p1 x1 s1 d1
     have e:vs=[.int j]:=by
      have q:IsDs X.K ι1 H1 [.int j] vs:=d1
      simp only[IsDs]at q
      obtain⟨v,r,rfl,q1,rfl⟩:=q
      cases int_of q1
      rfl
     refine⟨j,e,by lia,by lia,h ι1 H1 _ p1 x1 s1 ?_⟩
     have w:=walk_range (K:=X.K) (ι:=ι1) (H:=H1) 0 j.toNat (by lia)
     simpa using w
    ·rw[if_neg hj]at h
     exact h.elim
   | _=>exact h.elim
end
end Lp
namespace Lp
open PySem PySem.Spec PyProof.Rows L2
section
variable {X : Cx} {φ : Phi} {pins : List (Addr × Obj)} {σ : St} {H : Hp} {s : Shared}
noncomputable def rCall (K:PySem.W.Frag) (f:List D→Sto→Res D):List V→Hp→VK→Prop:=fun xs H Q=>∃ι ds μ,Sim K ι H μ∧IsDs K ι H ds xs∧Post K (RD K) ι H (f ds μ) Q
theorem one_of {K:PySem.W.Frag} {ι:List Addr} {d:D} {xs:List V} (h:IsDs K ι H [d] xs):∃v,xs=[v]∧IsD K ι H d v:=by
 simp only[IsDs]at h
 obtain⟨v,r,rfl,q,rfl⟩:=h
 exact⟨v,rfl,q⟩
theorem two_of {K:PySem.W.Frag} {ι:List Addr} {d e:D} {xs:List V} (h:IsDs K ι H [d,e] xs):∃v w,xs=[v,w]∧IsD K ι H d v∧IsD K ι H e w:=by
 simp only[IsDs]at h
 obtain⟨v,r,rfl,q,w,r2,rfl,q2,rfl⟩:=h
 exact⟨v,w,rfl,q,q2⟩
theorem one1_of {K:PySem.W.Frag} {ι:List Addr} {ds:List D} {xs:List V} {μ:Sto} {f:D→Sto→Res D} {Q:VK} (hds:IsDs K ι H ds xs) (h:Post K (RD K) ι H (one1 f ds μ) Q) :
  ∃d v,xs=[v]∧IsD K ι H d v∧Post K (RD K) ι H (f d μ) Q:=by
 unfold one1 at h
 split at h
 ·rename_i d
  obtain⟨v,rfl,hv⟩:=one_of hds
  exact⟨d,v,rfl,hv,h⟩
 ·exact h.elim
theorem seq1_of {K:PySem.W.Frag} {ι:List Addr} {d:D} {v:V} {μ:Sto} {f:List D→Sto→Res D} {Q:VK} (hS:Sim K ι H μ) (hd:IsD K ι H d v) (h:Post K (RD K) ι H (seq1 f d μ) Q) :
  ∃a xs ds,v=.ref a∧(LsL K H a xs∨SqT K H a xs)∧IsDs K ι H ds xs∧Post K (RD K) ι H (f ds μ) Q:=by
 unfold seq1 at h
 split at h
 ·rename_i ds e
  obtain⟨a,xs,rfl,hq,hxs⟩:=seq_of hS hd e
  exact⟨a,xs,ds,rfl,hq,hxs,h⟩
 ·exact h.elim
theorem bt_len {m:Mk}:CallR X (.builtin "len") (rCall X.K (btD .len m)):=CallR.imp call_len_seq fun xs H Q ⟨ι,ds,μ,hS,hds,h⟩=>by
 obtain⟨d,v,rfl,hv,h⟩:=one1_of hds h
 obtain⟨a,xs,es,rfl,hq,hxs,h⟩:=seq1_of hS hv h
 exact⟨a,xs,rfl,hq.imp (·.sq) id,by rw[hxs.length];exact h.ok hS (by simp[IsD])⟩
theorem bt_tuple {m:Mk}:CallR X (.type "tuple") (rCall X.K (btD .tuple m)):=CallR.imp call_tuple_of fun xs H Q ⟨ι,ds,μ,hS,hds,h⟩=>by
 obtain⟨d,v,rfl,hv,h⟩:=one1_of hds h
 obtain⟨a,xs,es,rfl,hq,hxs,h⟩:=seq1_of hS hv h
 refine⟨a,xs,rfl,?_⟩
 rcases hq with hq | hq
 ·exact .inl ⟨hq.sq,fun l hl=>tup_post hS hxs h hl⟩
 ·exact .inr ⟨hq,h.ok hS (tup_is hq hxs)⟩
theorem bt_min {m:Mk} (hc:X.calm=true):CallR X (.builtin "min") (rCall X.K (btD .min m)):=CallR.imp (call_min2 hc) fun xs H Q ⟨ι,ds,μ,hS,hds,h⟩=>by
 simp only[btD,minD]at h
 split at h
 ·rename_i i j
  obtain⟨v,w,rfl,hv,hw⟩:=two_of hds
  cases int_of hv
  cases int_of hw
  exact⟨i,j,rfl,h.ok hS (by simp[IsD])⟩
 ·exact h.elim
theorem bt_max {m:Mk} (hc:X.calm=true):CallR X (.builtin "max") (rCall X.K (btD .max m)):=CallR.imp (call_max2 hc) fun xs H Q ⟨ι,ds,μ,hS,hds,h⟩=>by
 simp only[btD,maxD]at h
 split at h
 ·rename_i i j
  obtain⟨v,w,rfl,hv,hw⟩:=two_of hds
  cases int_of hv
  cases int_of hw
  exact⟨i,j,rfl,h.ok hS (by simp[IsD])⟩
 ·exact h.elim
end
end Lp
namespace Lp
open PySem PySem.Spec PyProof.Rows L2
theorem tuple_whole {prog:Program} {w:World} {A:Around} {E:Value→Shared→Prop} {s:Shared} {t sl:Addr} {items:Array Value} {vl vu:Value} {lo hi:Option Int} {Q:Value→Shared→Prop} (ht:IsTup s.heap t items) (hs:s.heap.IsSliceOf sl vl vu .none) (pl:IsPart vl lo) (pu:IsPart vu hi)
  (hw:HT.sIx items.size 0 lo=0∧HT.sIx items.size items.size hi=items.size) (h:Q (.ref t) s):wpAny (model prog w) A (getItem (.ref t) (.ref sl)) Q E s:=by
 obtain⟨os,hos,hcs,hds⟩:=id hs
 have hTs:s.TypeIs (.ref sl) "slice":=⟨os,hos,hcs⟩
 unfold getItem
 try with_reducible refine wpAny_holding ?_
 first | refine wpAny_bind (wpAny_pure ?_) | skip
 refine wpAny_bind (wpAny_sequenceKey ht.typeIs (by decide) ?_)
 refine wpAny_bind (wpAny_callSpecial?_slot (name:=Str.ofString "__getitem__") ht.typeIs PyProof.Rows.slot_tuple_getitem
  (wpAny_call_entry PyProof.Rows.slot_tuple_getitem ht.typeIs entry_tuple_getitem ?_ (args_tuple_getitem _ _)))
 show wpAny _ _ (Builtin.Tuple.tupleItemsOf (.ref t)>>=_) _ _ s
 refine wpAny_bind (tupleItemsOf_ ht ?_)
 refine wpAny_bind (wpAny_typeOf hTs ?_)
 rw[if_pos (by decide)]
 refine wpAny_bind (HT.sliceApplied_gen hs pl pu ?_)
 have hyes:(((HT.sIx items.size 0 lo:Nat):Int)==0&&(1:Int)==1&&(HT.sIx items.size items.size hi-HT.sIx items.size 0 lo)==items.size)=true:=by
  rw[hw.1,hw.2];simp
 show wpAny _ _ (if(((HT.sIx items.size 0 lo:Nat):Int)==0&&(1:Int)==1&&(HT.sIx items.size items.size hi-HT.sIx items.size 0 lo)==items.size)=true then _ else _) _ _ s
 rw[if_pos hyes]
 refine wpAny_bind ?_
 unfold Builtin.Tuple.tupleIsExact
 refine wpAny_bind (wpAny_typeOf ht.typeIs (wpAny_pure ?_))
 rw[if_pos (by decide)]
 exact wpAny_bind (wpAny_rule (wpAny_pure ⟨_,rfl,wpAny_pure h⟩))
section
variable {X : Cx} {φ : Phi} {pins : List (Addr × Obj)} {σ : St} {H : Hp} {s : Shared}
theorem sl_ok {m:Mk}:SlR X (fun x lo hi H Q=>∃ι d μ,Sim X.K ι H μ∧IsD X.K ι H d x∧Post X.K (RD X.K) ι H (slD m d lo hi μ) Q):=by
 intro pins s σ H x v vl vu lo hi sl Q I rx hs pl pu ⟨ι,d,μ,hS,hd,h⟩
 unfold slD at h
 split at h
 ·rename_i ds
  obtain⟨a,xs,rfl,hq,hxs⟩:=tup_of hd
  by_cases hw:HT.sIx xs.length 0 lo=0∧HT.sIx xs.length xs.length hi=xs.length
  ·cases(show v=Value.ref a from rx)
   obtain⟨its,r,ht,hz⟩:=I.tuple hq
   have hlen:its.toArray.size=xs.length:=by rw[List.size_toArray];exact r.length.symm
   refine⟨"tuple",_,PyProof.Rows.slot_tuple_getitem.lookup,ht.typeIs,tuple_whole ht hs pl pu (by rw[hlen];exact hw) ⟨.ref a,H,I,rfl,h.ok hS ?_⟩⟩
   have e1:∀n d o,Lp.sIx n d o=HT.sIx n d o:=fun n d o=>by cases o<;>rfl
   have ec:cut ds lo hi=ds:=by
    unfold cut
    rw[e1,e1,←hxs.length,hw.1,hw.2]
    simp[hxs.length]
   rw[ec]
   exact hd
  ·exact sl_tup pins s σ H _ v vl vu lo hi sl Q I rx hs pl pu ⟨a,xs,rfl,hq,hw,fun p hp=>tup_post hS (cut_of hxs lo hi) h hp⟩
 ·split at h
  ·rename_i es
   obtain⟨a,xs,rfl,ha,hxs⟩:=list_of hS hd es
   exact SlR.fq sl_list pins s σ H _ v vl vu lo hi sl Q I rx hs pl pu ⟨a,xs,rfl,ha.sq,fun p hp=>mk_post hS (cut_of hxs lo hi) h hp⟩
  ·exact h.elim
theorem PO.imp {e:Option Expr} {t t':TO} (h:PO X e t) (i:∀σ H Q,t' σ H Q→t σ H Q):PO X e t':=by
 intro pins s σ H Q I q
 exact h pins s σ H Q I (i _ _ _ q)
theorem o_no:PO X none (tEo X.K φ .no):=PO.imp po_none fun σv H Q ⟨ι,σ,μ,hS,hL,h⟩=>by
 simp only[evO]at h
 exact h.ok hS rfl
theorem o_so {e:Expr} {x:Ex} (he:PE X e (tE X.K φ x)):PO X (some e) (tEo X.K φ (.so x)):=PO.imp (po_some he) fun σv H Q ⟨ι,σ,μ,hS,hL,h⟩=>by
 simp only[evO]at h
 obtain⟨d,μ1,e1,h⟩:=h.bind
 refine⟨ι,σ,μ,hS,hL,?_⟩
 rw[e1]
 intro ι1 v H1 p1 x1 s1 d1
 cases d with
 | int i=>exact⟨i,int_of d1,h ι1 (some i) H1 p1 x1 s1 rfl⟩
 | _=>exact h.elim
theorem s_sl {e:Expr} {lo hi:Option Expr} {x:Ex} {xl xh:ExO} {m:Mk} {p2 pos:Pos} (he:PE X e (tE X.K φ x)) (hl:PO X lo (tEo X.K φ xl)) (hh:PO X hi (tEo X.K φ xh)):PE X (.Subscript e (.Slice lo hi none p2) pos) (tE X.K φ (.sl m x xl xh)) :=
 PE.imp (pe_slice sl_ok he hl hh) fun σv H Q ⟨ι,σ,μ,hS,hL,h⟩=>by
  simp only[evE]at h
  obtain⟨d,μ1,e1,h⟩:=h.bind
  refine⟨ι,σ,μ,hS,hL,?_⟩
  rw[e1]
  intro ι1 v H1 p1 x1 s1 d1
  obtain⟨l,μ2,e2,h⟩:=h.bind
  refine⟨ι1,σ,μ1,s1,hL.mono p1 x1,?_⟩
  rw[e2]
  intro ι2 l' H2 p2 x2 s2 d2
  cases d2
  obtain⟨u,μ3,e3,h⟩:=h.bind
  refine⟨ι2,σ,μ2,s2,(hL.mono p1 x1).mono p2 x2,?_⟩
  rw[e3]
  intro ι3 u' H3 p3 x3 s3 d3
  cases d3
  exact⟨ι3,d,μ3,s3,IsD.mono p3 x3 _ _ (IsD.mono p2 x2 _ _ d1),h.mono ((p1.trans p2).trans p3) ((x1.trans x2).trans x3)⟩
noncomputable def clName:Cl→String
 | .int=>"int"
 | .bool=>"bool"
 | .tuple=>"tuple"
 | .list=>"list"
 | .str=>"str"
 | .own _=>""
noncomputable def subT:String→Cl→Bool
 | "bool",.int=>true
 | "bool",.bool=>true
 | "int",.int=>true
 | "str",.str=>true
 | "tuple",.tuple=>true
 | "list",.list=>true
 | _,_=>false
theorem kit_ty (K:PySem.W.Frag) (t:String) (c:Cl) (hc:∀n,c≠.own n) (ht:t∈["NoneType","bool","int","str","tuple","list"]):PySem.W.kitOne K (.type t) (.type (clName c))=some (subT t c):=by
 simp only[List.mem_cons,List.not_mem_nil,or_false]at ht
 rcases ht with rfl | rfl | rfl | rfl | rfl | rfl<;>cases c<;>first | rfl | exact absurd rfl (hc _)
theorem isi_ok {c:Cl} (hc:∀n,c≠.own n):CallR X (.builtin "isinstance") (fun xs H Q=>∃ι d μ v,xs=[v,.ty (clName c)]∧Sim X.K ι H μ∧IsD X.K ι H d v∧Post X.K (RD X.K) ι H (isiD c d μ) Q):=by
 intro pins s σ H xs us Q I r ⟨ι,d,μ,v,e,hS,hd,h⟩
 subst e
 obtain⟨u,w,rfl,ru,rw'⟩:=vals2 r
 cases(show w=Value.type (clName c)from rw')
 have key:∀(t:String),t∈["NoneType","bool","int","str","tuple","list"]→(∀tk,EP X pins σ Q (.bool (subT t c)) {s with toks:=tk})→PySem.W.kitOne X.K (.type t) (.type (clName c))=some (subT t c)∧∀tk,EP X pins σ Q (.bool (subT t c)) {s with toks:=tk}:=fun t ht hq=>⟨kit_ty X.K t c hc ht,hq⟩
 have lst:∀a xs,v=.ref a→LsL X.K H a xs→Q (.bl (subT "list" c)) H→wpAny (model X.prog X.w) X.A (call (.builtin "isinstance") [u,.type (clName c)]) (EP X pins σ Q) X.xe s:=fun a xs e hq q=>by
  subst e
  cases(show u=Value.ref a from ru)
  obtain⟨z,its,n,hv,_,hg⟩:=I.ls hq
  exact PySem.W.kia_one PySem.W.kitx_list I.kIn ⟨_,hg,rfl⟩ (kit_ty X.K "list" c hc (by decide)) (fun z=>nomatch z) fun tk=>⟨.bl (subT "list" c),H,I.tok tk,rfl,q⟩
 cases d with
 | non =>
  cases(show v=.non by simpa[IsD]using hd)
  cases(show u=Value.none from ru)
  refine PySem.W.kia_one PySem.W.kitx_none I.kIn True.intro (kit_ty X.K "NoneType" c hc (by decide)) (fun z=>nomatch z) fun tk=>⟨.bl (subT "NoneType" c),H,I.tok tk,rfl,?_⟩
  cases c<;>first | exact absurd rfl (hc _) | exact h.ok hS (by simp[IsD,subT])
 | bl b =>
  cases bl_of hd
  cases(show u=Value.bool b from ru)
  refine PySem.W.kia_one PySem.W.kitx_bool I.kIn True.intro (kit_ty X.K "bool" c hc (by decide)) (fun z=>nomatch z) fun tk=>⟨.bl (subT "bool" c),H,I.tok tk,rfl,?_⟩
  cases c<;>first | exact absurd rfl (hc _) | exact h.ok hS (by simp[IsD,subT])
 | int i =>
  cases int_of hd
  obtain⟨t,rfl⟩:=(show ∃t,u=Value.int i t from ru)
  refine PySem.W.kia_one PySem.W.kitx_int I.kIn True.intro (kit_ty X.K "int" c hc (by decide)) (fun z=>nomatch z) fun tk=>⟨.bl (subT "int" c),H,I.tok tk,rfl,?_⟩
  cases c<;>first | exact absurd rfl (hc _) | exact h.ok hS (by simp[IsD,subT])
 | str x =>
  cases(show v=.str x by simpa[IsD]using hd)
  obtain⟨t,rfl⟩:=(show ∃t,u=Value.str x t from ru)
  refine PySem.W.kia_one PySem.W.kitx_str I.kIn True.intro (kit_ty X.K "str" c hc (by decide)) (fun z=>nomatch z) fun tk=>⟨.bl (subT "str" c),H,I.tok tk,rfl,?_⟩
  cases c<;>first | exact absurd rfl (hc _) | exact h.ok hS (by simp[IsD,subT])
 | tup ds =>
  obtain⟨a,xs,rfl,hq,hxs⟩:=tup_of hd
  cases(show u=Value.ref a from ru)
  obtain⟨its,hv,⟨o,h1,h2,_⟩,hz⟩:=I.tuple hq
  refine PySem.W.kia_one PySem.W.kitx_tuple I.kIn ⟨o,h1,h2⟩ (kit_ty X.K "tuple" c hc (by decide)) (fun z=>nomatch z) fun tk=>⟨.bl (subT "tuple" c),H,I.tok tk,rfl,?_⟩
  cases c<;>first | exact absurd rfl (hc _) | exact h.ok hS (by simp[IsD,subT])
 | lst ds =>
  obtain⟨a,xs,rfl,hq,hxs⟩:∃a xs,v=.ref a∧FzL X.K H a xs∧IsDs X.K ι H ds xs:=by simpa[IsD]using hd
  refine lst a xs rfl (.inr hq) ?_
  cases c<;>first | exact absurd rfl (hc _) | exact h.ok hS (by simp[IsD,subT])
 | loc n =>
  cases c with
  | list =>
   simp only[isiD]at h
   split at h
   ·rename_i ds em
    obtain⟨a,xs,rfl,hq,hxs⟩:=list_of (ds:=ds) hS hd (by simp[listOf,em])
    exact lst a xs rfl hq (h.ok hS (by simp[IsD,subT]))
   ·rename_i ds em
    obtain⟨a,xs,rfl,hq,hxs⟩:=list_of (ds:=ds) hS hd (by simp[listOf,em])
    exact lst a xs rfl hq (h.ok hS (by simp[IsD,subT]))
   ·exact h.elim
  | own k=>exact absurd rfl (hc k)
  | _=>exact h.elim
theorem s_isi {a:Expr} {xa:Ex} {c:Cl} {cn:Str} {p cp pos:Pos} (hc:∀n,c≠.own n) (ha:PE X a (tE X.K φ xa)) (hgi:Gl X "isinstance") (hmi:X.mg "isinstance"=none) (hgc:Gl X cn) (hmc:X.mg cn=none) (hbc:bootBuiltins cn=some (.type (clName c)))
  (hn:cn≠"__name__") (hd:(cn==("__debug__":Str))=false) (hs:starEach [a,.Name cn cp] X.env=(false,eval a X.env)::starEach [.Name cn cp] X.env) :
  PE X (.Call (.Name "isinstance" p) [a,.Name cn cp] [] pos) (tE X.K φ (.isi xa c)):=by
 have hb:PE X (.Name cn cp) (tC (.ty (clName c))):=pe_bltn hgc hmc hbc rfl hn hd
 refine PE.imp (pe_callB (isi_ok hc) hgi hmi boot_isinstance (pa_cons ha (pa_cons hb pa_nil) hs) (by decide) (by decide) hs) fun σv H Q ⟨ι,σ,μ,hS,hL,h⟩=>?_
 simp only[evE]at h
 obtain⟨d,μ1,e1,h⟩:=h.bind
 refine⟨ι,σ,μ,hS,hL,?_⟩
 rw[e1]
 exact fun ι1 v H1 p1 x1 s1 d1=>⟨ι1,d,μ1,v,rfl,s1,d1,h.mono p1 x1⟩
end
end Lp
namespace Lp
open PySem PySem.Spec PyProof.Rows L2
section
variable {X : Cx} {φ : Phi} {pins : List (Addr × Obj)} {σ : St} {H : Hp} {s : Shared}
theorem loc_at {K:PySem.W.Frag} {ι:List Addr} {μ:Sto} {n:Nat} {v:V} {ob:O} {xs:List D} (hS:Sim K ι H μ) (hd:IsD K ι H (.loc n) v) (e:μ[n]? = some ob) (hi:itemsO ob=some xs) :
  ∃a vs,v=.ref a∧ι[n]? = some a∧H a=some (.lst vs)∧IsDs K ι H xs vs∧(∀ds,ob=.l ds→IsDs K [] H xs vs):=by
 obtain⟨a,rfl,ha⟩:∃a,v=.ref a∧ι[n]? = some a:=by simpa[IsD]using hd
 obtain⟨a',ea,ho⟩:=hS.at e
 rw[ha]at ea;cases ea
 cases ob with
 | l ds =>
  cases hi
  obtain⟨vs,e1,e2⟩:=ho
  exact⟨a,vs,rfl,ha,e1,IsDs.mono (List.nil_prefix) (.refl _) _ _ e2,fun _ _=>e2⟩
 | r ds =>
  cases hi
  obtain⟨vs,e1,e2⟩:=ho
  exact⟨a,vs,rfl,ha,e1,e2,fun _ z=>by cases z⟩
 | d _=>cases hi
 | dt _=>cases hi
 | dead=>cases hi
theorem put_post {K:PySem.W.Frag} {ι:List Addr} {μ:Sto} {n:Nat} {ob:O} {ys:List D} {vs ws:List V} {d:D} {v:V} {a:Addr} {Q:VK} (hS:Sim K ι H μ) (ha:ι[n]? = some a) (hH:H a=some (.lst vs))
  (hw:IsDs K ι H ys ws) (hw0:∀ds,ob=.l ds→IsDs K [] H ys ws) (hd:IsD K ι H d v) (h:Post K (RD K) ι H (putL n ob ys d μ) Q):Q v (upd H a (.lst ws)):=by
 cases ob with
 | l ds =>
  exact h ι v _ (List.prefix_refl _) (.lst hH) (hS.put ha (.lst hH) ⟨ws,upd_same,IsDs.mono (List.prefix_refl _) (.lst hH) _ _ (hw0 ds rfl)⟩) (IsD.mono (List.prefix_refl _) (.lst hH) _ _ hd)
 | r ds =>
  exact h ι v _ (List.prefix_refl _) (.lst hH) (hS.put ha (.lst hH) ⟨ws,upd_same,IsDs.mono (List.prefix_refl _) (.lst hH) _ _ hw⟩) (IsD.mono (List.prefix_refl _) (.lst hH) _ _ hd)
 | d _=>exact h.elim
 | dt _=>exact h.elim
 | dead=>exact h.elim
theorem fits_pure {K:PySem.W.Frag} {ι:List Addr} {ob:O} {d:D} {v:V} (hf:fits ob d=true) (hd:IsD K ι H d v):∀ds,ob=.l ds→IsD K [] H d v:=fun ds e=>by
 subst e
 exact IsD.pur hf hd
noncomputable def rMt (K:PySem.W.Frag) (mt:Mt):V→List V→Hp→VK→Prop:=fun x vs H Q=>∃ι d ds μ,Sim K ι H μ∧IsD K ι H d x∧IsDs K ι H ds vs∧Post K (RD K) ι H (mtD mt d ds μ) Q
theorem mt_of {mt:Mt} (hne:mt≠.count∧mt≠.countL∧mt≠.get) {x:V} {vs:List V} {Q:VK} (h:rMt X.K mt x vs H Q):∃ι n ob xs ds μ a ws,Sim X.K ι H μ∧IsDs X.K ι H ds vs∧x=.ref a∧ι[n]? = some a∧H a=some (.lst ws)∧IsDs X.K ι H xs ws ∧
  (∀es,ob=.l es→IsDs X.K [] H xs ws)∧Post X.K (RD X.K) ι H (mtL mt n ob xs ds μ) Q:=by
 obtain⟨ι,d,ds,μ,hS,hd,hds,h⟩:=h
 have e0:mtD mt d ds μ=mtLoc mt d ds μ:=by
  cases mt<;>first | exact absurd rfl hne.1 | exact absurd rfl hne.2.1 | exact absurd rfl hne.2.2 | rfl
 rw[e0]at h
 cases d with
 | loc n =>
  simp only[mtLoc]at h
  cases em:μ[n]? with
  | none=>rw[em]at h;exact h.elim
  | some ob =>
   rw[em]at h
   simp only at h
   cases ei:itemsO ob with
   | none=>rw[ei]at h;exact h.elim
   | some xs =>
    rw[ei]at h
    obtain⟨a,ws,ex,ha,hH,h1,h2⟩:=loc_at hS hd em ei
    exact⟨ι,n,ob,xs,ds,μ,a,ws,hS,hds,ex,ha,hH,h1,h2,h⟩
 | _=>exact h.elim
theorem m_append:MtR X "list.append" (rMt X.K .append):=MtR.imp mt_append fun x vs H Q h0=>by
 obtain⟨ι,n,ob,xs,ds,μ,a,ws,hS,hds,rfl,ha,hH,h1,h2,h⟩:=mt_of (by decide) h0
 clear h0
 simp only[mtL]at h
 obtain⟨d,v,rfl,hv,h⟩:=one1_of hds h
 split at h
 ·rename_i hf
  rw[lim_line]at hf
  refine⟨a,ws,v,rfl,rfl,hH,by rw[h1.length];exact hf.2,put_post hS ha hH (h1.append (.one hv)) (fun es e=>(h2 es e).append (.one (fits_pure hf.1 hv es e))) (by simp[IsD]) h⟩
 ·exact h.elim
theorem m_pop:MtR X "list.pop" (rMt X.K .pop):=by
 intro pins s σ H x vs v us Q I rx rv h0
 obtain⟨ι,n,ob,xs,ds,μ,a,ws,hS,hds,rfl,ha,hH,h1,h2,h⟩:=mt_of (by decide) h0
 clear h0
 simp only[mtL]at h
 split at h
 ·have e:vs=[]:=by simpa[IsDs]using hds
  subst e
  split at h
  ·rename_i d ed
   have hl:xs[xs.length-1]? = some d:=by rw[←List.getLast?_eq_getElem?];exact ed
   obtain⟨w,ew,hw⟩:=h1.get hl
   refine mt_pop pins s σ H _ _ v us Q I rx rv ⟨a,ws,w,rfl,rfl,hH,by rw[h1.length];exact ew,put_post hS ha hH h1.dropLast (fun es e=>(h2 es e).dropLast) hw h⟩
  ·exact h.elim
 ·rename_i i
  obtain⟨w0,rfl,hw0⟩:=one_of hds
  cases int_of hw0
  split at h
  ·rename_i hi
   rw[lim_line]at hi
   have h24:sizeLine=16777216:=sizeLine_eq
   rw[h24]at hi
   split at h
   ·rename_i d ed
    obtain⟨w,ew,hw⟩:=h1.get ed
    have hlt:i.toNat<xs.length:=(List.getElem?_eq_some_iff.mp ed).1
    refine mt_popAt pins s σ H _ _ v us Q I rx rv ⟨a,ws,i,i.toNat,w,rfl,rfl,hH,by lia,by lia,?_,ew,put_post hS ha hH (h1.eraseIdx _) (fun es e=>(h2 es e).eraseIdx _) hw h⟩
    rw[h1.length]
    exact PySem.StrLaws.seqIndex_nonneg hi.1 (by lia)
   ·exact h.elim
  ·exact h.elim
 ·exact h.elim
end
end Lp
namespace Lp
open PySem PySem.Spec PyProof.Rows L2
theorem IsD.belowN {K:PySem.W.Frag} {ι ι':List Addr} {H:Hp} (hp:ι <+: ι'):∀(k:Nat) (d:D) (v:V),D.belowN ι.length k d=true→IsD K ι' H d v→IsD K ι H d v:=by
 have list:∀(k:Nat),(∀(d:D) (v:V),D.belowN ι.length k d=true→IsD K ι' H d v→IsD K ι H d v) →
   ∀(ds:List D) (xs:List V),ds.all (D.belowN ι.length k)=true→IsDs K ι' H ds xs→IsDs K ι H ds xs:=by
  intro k ih ds
  induction ds with
  | nil=>intro xs _ h;simpa[IsDs]using h
  | cons d ds ihd =>
   intro xs hp h
   simp only[IsDs]at h ⊢
   simp only[List.all_cons,Bool.and_eq_true]at hp
   obtain⟨v,r,e,q,t⟩:=h
   exact⟨v,r,e,ih d v hp.1 q,ihd r hp.2 t⟩
 have loc:∀(n:Nat) (v:V),n<ι.length→IsD K ι' H (.loc n) v→IsD K ι H (.loc n) v:=fun n v hn h=>by
  simp only[IsD]at h ⊢
  obtain⟨a,e,q⟩:=h
  obtain⟨t,rfl⟩:=hp
  rw[List.getElem?_append_left hn]at q
  exact⟨a,e,q⟩
 intro k
 induction k with
 | zero =>
  intro d v hb h
  cases d with
  | loc n=>exact loc n v (by simpa[D.belowN]using hb) h
  | tup ds=>simp[D.belowN]at hb
  | lst ds=>simp[D.belowN]at hb
  | _=>simpa[IsD]using h
 | succ k ih =>
  intro d v hb h
  cases d with
  | tup ds =>
   simp only[D.belowN]at hb
   simp only[IsD]at h ⊢
   obtain⟨a,xs,e,q,r⟩:=h
   exact⟨a,xs,e,q,list k ih ds xs hb r⟩
  | lst ds =>
   simp only[D.belowN]at hb
   simp only[IsD]at h ⊢
   obtain⟨a,xs,e,q,r⟩:=h
   exact⟨a,xs,e,q,list k ih ds xs hb r⟩
  | loc n=>exact loc n v (by simpa[D.belowN]using hb) h
  | _=>simpa[IsD]using h
theorem IsDs.belowN {K:PySem.W.Frag} {ι ι':List Addr} {H:Hp} (hp:ι <+: ι') {k:Nat}:∀(ds:List D) (xs:List V),ds.all (D.belowN ι.length k)=true→IsDs K ι' H ds xs→IsDs K ι H ds xs
 | [],xs,_,h=>by simpa[IsDs]using h
 | d::ds,xs,hb,h=>by
  simp only[IsDs]at h ⊢
  simp only[List.all_cons,Bool.and_eq_true]at hb
  obtain⟨v,r,e,q,t⟩:=h
  exact⟨v,r,e,IsD.belowN hp k d v hb.1 q,IsDs.belowN hp ds r hb.2 t⟩
theorem Sim.cut {K:PySem.W.Frag} {ι ι':List Addr} {H:Hp} {μ:Sto} (h:Sim K ι' H μ) (hp:ι <+: ι') (hc:(μ.take ι.length).all (closedO ι.length)=true):Sim K ι H (μ.take ι.length):=by
 have hl:ι.length≤μ.length:=by rw[←h.len];exact hp.length_le
 refine⟨by rw[List.length_take];lia,hp.sublist.nodup h.nd,fun n a o e1 e2=>?_⟩
 have hn:n<ι.length:=(List.getElem?_eq_some_iff.mp e1).1
 have e1':ι'[n]? = some a:=by
  obtain⟨t,rfl⟩:=hp
  rw[List.getElem?_append_left hn];exact e1
 have e2':μ[n]? = some o:=by
  rw[List.getElem?_take_of_lt hn]at e2;exact e2
 have q:=h.obj n a o e1' e2'
 have c:closedO ι.length o=true:=List.all_eq_true.mp hc o (List.mem_of_getElem? e2)
 cases o with
 | l ds=>exact q
 | r ds =>
  obtain⟨xs,e,r⟩:=q
  exact⟨xs,e,IsDs.belowN hp ds xs c r⟩
 | d kvs=>exact q
 | dt kvs=>exact q
 | dead=>exact q
theorem back_post {K:PySem.W.Frag} {ι:List Addr} {H:Hp} {μ:Sto} {keep:Bool} {r:Res D} {Q:VK} (hS:Sim K ι H μ) (h:Post K (RD K) ι H (backD keep μ.length r) Q):Post K (RD K) ι H r Q:=by
 cases r with
 | exc c ds μ'=>exact h
 | stuck=>exact h
 | ok d μ' =>
  cases keep with
  | true=>simpa[backD]using h
  | false =>
   simp only[backD,Bool.false_eq_true,if_false]at h
   split at h
   ·rename_i hc
    rw[←hS.len]at hc h
    exact fun ι' v H' p e s q=>h ι v H' (List.prefix_refl _) e (s.cut p hc.2) (IsD.belowN p 8 d v hc.1 q)
   ·exact h.elim
noncomputable def spD (K:PySem.W.Frag) (φ:Phi) (f:Nat):Sp:=fun vs H Q _=>∃ι ds μ,Sim K ι H μ∧IsDs K ι H ds vs∧Post K (RD K) ι H (φ f ds μ) Q
noncomputable def Callee (P:Program) (w:World) (K:PySem.W.Frag) (mg:Str→Option Value) (base:Heap) (A:Around) (φ:Phi) (f:Nat) (x:Str):Prop :=
 ∃(k:Nat) (fa:Addr) (fd:FuncData) (ps:List Str),FnOk P w K mg base CX0 k fa fd ps (spD K φ f)∧Room k A∧mg x=some (.ref fa)∧PySem.W.keepIn K (.ref fa)=true∧Binds K fd ps []
section
variable {X : Cx} {φ : Phi} {x : Str} {p pos : Pos} {e : Expr} {es : List Expr} {xs : Exs} {f : Nat} {keep : Bool}
theorem s_call (C:Callee X.prog X.w X.K X.mg X.base X.A φ f x) (hg:Gl X x) (ha:PA X (e::es) (tEs X.K φ xs)) (hdb:(x==("__debug__":Str))=false)
  (he:starEach (e::es) X.env=(false,eval e X.env)::starEach es X.env) (hpl:(backTo pos (starEach es X.env)).any (·.1)=false):PE X (.Call (.Name x p) (e::es) [] pos) (tE X.K φ (.call keep f xs)):=by
 obtain⟨k,fa,fd,ps,F,hr,hm,hk,hb⟩:=C
 refine PE.imp (pe_call F hr hg hm hk hb .nil pass0 ha hdb he hpl) fun σv H Q ⟨ι,σ,μ,hS,hL,h⟩=>?_
 simp only[evE]at h
 obtain⟨ds,μ1,e1,h⟩:=h.bind
 refine⟨ι,σ,μ,hS,hL,?_⟩
 rw[e1]
 intro ι1 vs H1 p1 x1 s1 d1
 exact⟨ι1,ds,μ1,s1,by rw[List.append_nil];exact d1,back_post s1 (h.mono p1 x1)⟩
end
theorem fn_step {P:Program} {w:World} {K:PySem.W.Frag} {mg:Str→Option Value} {base:Heap} {x qual:Str} {st:Stmt} {fa:Addr} {fd:FuncData} {N ps:List Str} {n f:Nat} {T:List Df} {df:Df} (F:Fun K x qual st fa fd) (S:FnScope N ps (defScope st))
  (hd:T[f]? = some df) (hnp:df.np=ps.length) (hnn:df.nn=N.length)
  (hb:∀(cdv:Value) (A:Around) (outer:List Env) (s:Shared) (H:Hp) (E:XK),Room n (A.deeper (envOfC qual (defScope st) s.heap.objs.size fa cdv)) →
   PSs (cxOf CX0 P w K mg base N qual (defScope st) fa cdv A outer s H E).nox (defBody st) (tSs K (callN T n) df.body)):FnOk P w K mg base CX0 (n+1) fa fd ps (spD K (callN T (n+1)) f):=by
 have len:∀{vs:List V} {H:Hp} {ds:List D} {ι:List Addr} {μ:Sto} {Q:VK},IsDs K ι H ds vs→Post K (RD K) ι H (callN T (n+1) f ds μ) Q→ds.length=df.np:=fun {vs H ds ι μ Q} hds h=>by
  simp only[callN,hd,runD]at h
  split at h
  ·assumption
  ·exact h.elim
 refine F.ok S (fun vs H Q E ⟨ι,ds,μ,hS,hds,h⟩=>?_) fun cdv A outer s H vs Q E hr ⟨ι,ds,μ,hS,hds,h⟩=>⟨_,hb cdv A outer s H E hr,?_⟩
 ·rw[hds.length,len hds h,hnp]
 ·have hl:=len hds h
  refine⟨ι,ds.map some++List.replicate (df.nn-df.np) none,μ,hS,fun i d e=>?_,?_,?_⟩
  ·by_cases hi:i<ds.length
   ·rw[List.getElem?_append_left (by simpa using hi),List.getElem?_map]at e
    cases ed:ds[i]? with
    | none=>rw[ed]at e;cases e
    | some d' =>
     rw[ed]at e
     simp only[Option.map_some,Option.some.injEq]at e
     subst e
     obtain⟨v,ev,hv⟩:=hds.get ed
     refine⟨v,?_,hv⟩
     unfold L2.start
     rw[List.getElem?_append_left (by rw[List.length_map,hds.length];exact hi),List.getElem?_map,ev]
     rfl
   ·rw[List.getElem?_append_right (by simpa using hi),List.getElem?_replicate]at e
    split at e<;>cases e
  ·unfold L2.start
   simp only[List.length_append,List.length_map,List.length_replicate,hds.length]
   lia
  ·simp only[callN,hd,runD,if_pos hl]at h
   cases er:evSs (callN T n) df.body (ds.map some++List.replicate (df.nn-df.np) none) μ with
   | exc c es μ'=>rw[er]at h;exact h.elim
   | stuck=>rw[er]at h;exact h.elim
   | ok fl μ' =>
    rw[er]at h
    simp only[Res.bind_ok]at h
    cases fl with
    | nx σ'=>exact fun ι' σv H' p e s' l z=>h ι' .non H' p e s' (by simp[IsD])
    | rt d=>exact fun ι' v H' p e s' q=>h ι' v H' p e s' q
    | bk σ'=>exact h.elim
    | ct σ'=>exact h.elim
theorem fn_zero {P:Program} {w:World} {K:PySem.W.Frag} {mg:Str→Option Value} {base:Heap} {fa:Addr} {fd:FuncData} {ps:List Str} {f:Nat} {T:List Df}:FnOk P w K mg base CX0 0 fa fd ps (spD K (callN T 0) f) :=
 ⟨fun vs H Q E ⟨ι,ds,μ,hS,hds,h⟩=>h.elim,fun A outer s H args us vs Q E hr he hb hv ⟨ι,ds,μ,hS,hds,h⟩=>h.elim⟩
structure Ent where
 id:Nat
 name:Str
 st:Stmt
 N:List Str
 ps:List Str
 df:Df
structure ModOf (K:PySem.W.Frag) (mg:Str→Option Value) (e:Ent):Prop where
 ex:∃(fa:Addr) (fd:FuncData),mg e.name=some (.ref fa)∧Fun K e.name e.name e.st fa fd∧∀us:List Value,us.length=e.ps.length→bindArgs fd ⟨us,[]⟩=pure (e.ps.zip us)
theorem mod_mk {K:PySem.W.Frag} {h:Heap} {mg:Str→Option Value} {e:Ent} {f:Addr} {oc:Value} {od an:Option Addr} {sl:Array (Option Value)} {kV dc pm cd ct:Value} (X:K.In h) (G:h.Ns mainGlobals mg) (a:PySem.W.nsIn K mainGlobals e.name=some (some (.ref f)))
  (l:K.lookup f=some ⟨oc,od,.func (PySem.W.fnOf e.name e.name (defArgs e.st) (defBody e.st) (defScope e.st) .none kV dc pm an cd ct),sl⟩) (c:PySem.W.codeIn K cd e.name=true) (k:PySem.W.keepIn K (.ref f)=true)
  (hb:∀(kV doc pm:Value) (an:Option Addr) (cdv ct:Value) (us:List Value),us.length=e.ps.length→bindArgs (PySem.W.fnOf e.name e.name (defArgs e.st) (defBody e.st) (defScope e.st) .none kV doc pm an cdv ct) ⟨us,[]⟩=pure (e.ps.zip us)):ModOf K mg e :=
 ⟨f,_,PySem.W.mg_of X G a,fun_mk l c k,hb kV dc pm an cd ct⟩
structure Derived (T:List Df) (P:Program) (w:World) (K:PySem.W.Frag) (mg:Str→Option Value) (base:Heap) (es:List Ent) (e:Ent):Prop where
 sc:FnScope e.N e.ps (defScope e.st)
 tb:T[e.id]? = some e.df
 np:e.df.np=e.ps.length
 nn:e.df.nn=e.N.length
 dv:∀(n:Nat) (fa:Addr) (cdv:Value) (A:Around) (outer:List Env) (s:Shared) (H:Hp) (E:XK),(A.deeper (envOfC e.name (defScope e.st) s.heap.objs.size fa cdv)).units+64<cLine →
  (∀(j:Nat) e',es[j]? = some e'→Callee P w K mg base (A.deeper (envOfC e.name (defScope e.st) s.heap.objs.size fa cdv)) (callN T n) e'.id e'.name) →
  PSs (cxOf CX0 P w K mg base e.N e.name (defScope e.st) fa cdv A outer s H E).nox (defBody e.st) (tSs K (callN T n) e.df.body)
theorem all_ok {T:List Df} {P:Program} {w:World} {K:PySem.W.Frag} {mg:Str→Option Value} {base:Heap} {es:List Ent} (M:∀(j:Nat) e,es[j]? = some e→ModOf K mg e) (Dv:∀(j:Nat) e,es[j]? = some e→Derived T P w K mg base es e) :
  ∀(n:Nat) (j:Nat) e,es[j]? = some e→∀(fa:Addr) (fd:FuncData),mg e.name=some (.ref fa)→Fun K e.name e.name e.st fa fd→FnOk P w K mg base CX0 n fa fd e.ps (spD K (callN T n) e.id)
 | 0,j,e,_,fa,fd,_,_=>fn_zero
 | n+1,j,e,he,fa,fd,hm,hF=>by
  have d:=Dv j e he
  refine fn_step hF d.sc d.tb d.np d.nn fun cdv A outer s H E hr=>d.dv n fa cdv A outer s H E hr.units fun i e' he'=>?_
  obtain⟨fa',fd',hm',hF',hb'⟩:=(M i e' he').ex
  exact⟨n,fa',fd',e'.ps,all_ok M Dv n i e' he' fa' fd' hm' hF',hr,hm',hF'.kp,.all hb'⟩
noncomputable def spLaw (K:PySem.W.Frag):Sp:=fun vs H Q _=>∃(a:Addr) (ns:List Int),vs=[.ref a]∧FzL K H a (ns.map V.int)∧ns.length≤63∧∀H',Q (.bl true) H'
theorem law_ok {T:List Df} {P:Program} {w:World} {K:PySem.W.Frag} {mg:Str→Option Value} {base:Heap} {es:List Ent} {n j:Nat} {e:Ent} {fa:Addr} {fd:FuncData} (M:∀(j:Nat) e,es[j]? = some e→ModOf K mg e) (Dv:∀(j:Nat) e,es[j]? = some e→Derived T P w K mg base es e)
  (he:es[j]? = some e) (hm:mg e.name=some (.ref fa)) (hF:Fun K e.name e.name e.st fa fd) (hps:e.ps.length=1)
  (hlaw:∀ns:List Int,ns.length≤63→∃μ',callN T n e.id [.lst (ns.map D.int)] []=.ok (.bl true) μ'):FnOk P w K mg base CX0 n fa fd e.ps (spLaw K):=by
 refine(all_ok M Dv n j e he fa fd hm hF).imp fun vs H Q E ⟨a,ns,ev,hS,hl,q⟩=>?_
 subst ev
 obtain⟨μ',el⟩:=hlaw ns hl
 refine⟨[],[.lst (ns.map D.int)],[],⟨rfl,List.nodup_nil,fun n a o e1 e2=>by simp at e1⟩,?_,?_⟩
 ·simp only[IsDs,IsD]
  exact⟨.ref a,[],rfl,⟨a,_,rfl,hS,IsDs.ints ns⟩,rfl⟩
 ·rw[el]
  intro ι' v H' p x s' d
  have ev:v=.bl true:=by simpa[IsD]using d
  subst ev
  exact q H'
theorem law_fin {T:List Df} {P:Program} {w:World} {K:PySem.W.Frag} {mg:Str→Option Value} {es:List Ent} {n j:Nat} {e:Ent} {fa:Addr} (M:∀(j:Nat) e,es[j]? = some e→ModOf K mg e) (Dv:∀(base:Heap) (j:Nat) e,es[j]? = some e→Derived T P w K mg base es e)
  (he:es[j]? = some e) (hfa:mg e.name=some (.ref fa)) (hps:e.ps=[("script":Str)])
  (hlaw:∀ns:List Int,ns.length≤63→∃μ',callN T n e.id [.lst (ns.map D.int)] []=.ok (.bl true) μ') :
  ∃fd:FuncData,(∀(s:Shared) (v:Value),BindsTo s fd ⟨[v],[]⟩ [("script",v)])∧∀base:Heap,K.In base→base.Ns mainGlobals mg→FnOk P w K mg base CX0 n fa fd ["script"] (spLaw K):=by
 obtain⟨fa',fd,hm,hF,hb⟩:=(M j e he).ex
 have z:=hfa.symm.trans hm
 cases z
 rw[hps]at hb
 refine⟨fd,fun s v=>.of_eq (hb [v] rfl),fun base _ _=>?_⟩
 have q:=law_ok M (Dv base) he hm hF (by rw[hps];rfl) hlaw
 rw[hps]at q
 exact q
theorem law_walk {l:PySem.W.OpenLaw} {n:Nat} {q:Program} {loose:List Str} {XP:(Str→Option Value)→Heap→Prop} {YP:World→Heap→Prop} {d:DefRec} {K:Params→PySem.W.Frag} (hr:Room n callerA) (hn:l.most=some 63) (hdf:d.params.defaults=[])
  (hY:∀(w:World) (h:Heap),YP w h→(K w.params).In h)
  (F:∀(w:World) (mg:Str→Option Value) (fa:Addr) (h:Heap),(K w.params).In h→h.Ns mainGlobals mg→mg d.name=some (.ref fa) →
   ∃fd:FuncData,(∀(s:Shared) (u:Value),BindsTo s fd ⟨[u],[]⟩ [("script",u)])∧∀base:Heap,(K w.params).In base→base.Ns mainGlobals mg→FnOk l.prog w (K w.params) mg base CX0 n fa fd ["script"] (spLaw (K w.params))) :
  PySem.W.WalkO q loose XP YP l.row.toRowW d [] (fun f vs=>PySem.call f vs) :=
 L2.walk_of (n:=63) (k:=n) (x:="script") (CX:=fun _=>CX0) (sp:=fun w=>spLaw (K w.params)) hn (by decide) hdf hr hY F (fun _ _ a ns hl _ hS=>⟨a,ns,rfl,hS,hl,fun _=>rfl⟩) fun _ _ _ _ _ z=>z
end Lp
namespace Lp
open PySem PySem.Spec PyProof.Rows L2
noncomputable def Exs.len:Exs→Nat
 | .nil=>0
 | .cons _ r=>r.len+1
theorem evEs_len {φ:Phi}:∀{xs:Exs} {σ:Sl} {μ:Sto} {ds:List D} {μ':Sto},evEs φ xs σ μ=.ok ds μ'→ds.length=xs.len
 | .nil,σ,μ,ds,μ',h=>by
  simp only[evEs]at h
  cases h;rfl
 | .cons e r,σ,μ,ds,μ',h=>by
  simp only[evEs]at h
  cases e1:evE φ e σ μ with
  | exc _ _ _=>rw[e1]at h;cases h
  | stuck=>rw[e1]at h;cases h
  | ok d μ1 =>
   rw[e1]at h
   simp only[Res.bind_ok]at h
   cases e2:evEs φ r σ μ1 with
   | exc _ _ _=>rw[e2]at h;cases h
   | stuck=>rw[e2]at h;cases h
   | ok es μ2 =>
    rw[e2]at h
    cases h
    simp[Exs.len,evEs_len e2]
noncomputable def compOk (sc scope:Scope) (N Nb:List Str) (cap:List Nat) (nl:Nat):Bool :=
 decide (scope.kind=.function)&&scope.names.all (fun y=>decide (y.2≠.cell)&&decide (scope.names.lookup y.1=some y.2)
  && (!decide (y.2=.free) || decide (sc.names.lookup y.1=some .cell) || decide (sc.names.lookup y.1=some .free)))
 && decide Nb.Nodup&&decide (Nb.length=cap.length+nl)
 && (List.range cap.length).all (fun j=>match cap[j]?,Nb[j]? with
  | some i,some x=>decide (N[i]? = some x)&&scope.names.any fun y=>decide (y.1=x)&&decide (y.2=.free)
  | _,_=>false)
theorem lookup_mem {l:List (Str×NameKind)} {n:Str} {k:NameKind} (h:l.lookup n=some k):(n,k)∈l:=by
 induction l with
 | nil=>cases h
 | cons a r ih =>
  obtain⟨m,j⟩:=a
  rw[List.lookup_cons]at h
  cases hb:n==m with
  | true =>
   rw[hb]at h
   cases h
   have:n=m:=by simpa using hb
   subst this
   exact List.mem_cons_self
  | false =>
   rw[hb]at h
   exact List.mem_cons_of_mem _ (ih h)
theorem relabel_mem {scope:Scope} {env:Env} {n:Str} {k:NameKind} (h:(n,k)∈(relabel scope env).names):(n,k)∈scope.names∨(k=.cell∧(n,NameKind.free)∈scope.names):=by
 have h2:(n,k)∈scope.names.map (fun(n,k)=>if(k==NameKind.free&&env.scope.kind==.function&&env.kindOf n==some .cell)then(n,NameKind.cell)else(n,k)):=h
 obtain⟨⟨m,j⟩,hm,e⟩:=List.mem_map.mp h2
 dsimp only at e
 split at e
 ·rename_i hc
  cases e
  simp only[Bool.and_eq_true,beq_iff_eq]at hc
  obtain⟨⟨rfl,_⟩,_⟩:=hc
  exact .inr ⟨rfl,hm⟩
 ·cases e
  exact .inl hm
theorem comp_scope {sc scope:Scope} {N Nb:List Str} {cap:List Nat} {nl:Nat} (h:compOk sc scope N Nb cap nl=true):CompScope sc scope N Nb cap nl:=by
 simp only[compOk,Bool.and_eq_true,List.all_eq_true,decide_eq_true_eq,Bool.or_eq_true,Bool.not_eq_true',decide_eq_false_iff_not]at h
 obtain⟨⟨⟨⟨h1,h2⟩,h3⟩,h4⟩,h5⟩:=h
 refine⟨h1,fun y hy=>(h2 y hy).1.1,fun y hy=>(h2 y hy).1.2,fun n hn=>?_,fun n hn=>?_,h3,h4,fun j i e=>?_⟩
 ·rcases(h2 (n,.free) hn).2 with(z | z) | z
  ·exact absurd rfl z
  ·exact .inl z
  ·exact .inr z
 ·rcases hn with hn | hn
  ·rcases relabel_mem (lookup_mem hn)with z | z
   ·exact absurd rfl (h2 _ z).1.1
   ·exact z.2
  ·rcases relabel_mem (lookup_mem hn)with z | z
   ·exact z
   ·exact z.2
 ·have hj:j<cap.length:=(List.getElem?_eq_some_iff.mp e).1
  have q:=h5 j (List.mem_range.mpr hj)
  rw[e]at q
  cases ex:Nb[j]? with
  | none=>rw[ex]at q;simp at q
  | some x =>
   rw[ex]at q
   simp only[Bool.and_eq_true,decide_eq_true_eq,List.any_eq_true]at q
   obtain⟨q1,⟨y,k⟩,hy,e1,e2⟩:=q
   dsimp only at e1 e2
   subst e1;subst e2
   exact⟨y,rfl,q1,hy⟩
noncomputable def ndB (l:List Str):Bool:=decide l.Nodup
theorem ndB_ok {l:List Str} (h:ndB l=true):l.Nodup:=of_decide_eq_true h
section
variable {X : Cx} {φ : Phi} {a b c e : Expr} {es : List Expr} {xa xb xc xe : Ex} {xs : Exs} {pos : Pos}
theorem q_var (i:Nat) {x:Str} (hN:X.N[i]? = some x:=by rfl) (hv:Vis X.env.scope x:=by first | exact Or.inl rfl | exact Or.inr (Or.inl rfl) | exact Or.inr (Or.inr rfl)) (hd:(x==("__debug__":Str))=false:=by decide)
  (hcd:(x==("__classdict__":Str))=false:=by decide):PE X (.Name x pos) (tE X.K φ (.var i)):=s_var hN hv hd hcd
theorem q_int {i:Int} {j:Nat}:PE X (.Constant (.int i) j pos) (tE X.K φ (.cst (.int i))):=s_int
theorem q_bl {i:Bool} {j:Nat}:PE X (.Constant (.bool i) j pos) (tE X.K φ (.cst (.bl i))):=s_bl
theorem q_nil:PA X [] (tEs X.K φ .nil):=s_nil
theorem q_cons (ha:PE X a (tE X.K φ xa)) (hb:PA X es (tEs X.K φ xs)) (hs:starEach (a::es) X.env=(false,eval a X.env)::starEach es X.env:=by rfl):PA X (a::es) (tEs X.K φ (.cons xa xs)):=s_cons ha hb hs
theorem q_bin {op:Operator} {m:Mk} (ha:PE X a (tE X.K φ xa)) (hb:PE X b (tE X.K φ xb)):PE X (.BinOp a op b pos) (tE X.K φ (.bin op m xa xb)):=s_bin bin_ok ha hb
theorem q_not (ha:PE X a (tE X.K φ xa)):PE X (.UnaryOp .Not a pos) (tE X.K φ (.not xa)):=s_enot ha
theorem q_and {rest:List Expr} (ha:PE X a (tE X.K φ xa)) (hb:PE X (.BoolOp .And (b::rest) pos) (tE X.K φ xb)):PE X (.BoolOp .And (a::b::rest) pos) (tE X.K φ (.and xa xb)):=s_eand ha hb
theorem q_and1 {t:TE} (h:PE X a t):PE X (.BoolOp .And [a] pos) t:=pe_one h
theorem q_tup {k:Nat} (h:PA X es (tEs X.K φ xs)) (hl:xs.len≤1000:=by decide):PE X (.Tuple es k pos) (tE X.K φ (.tup xs)):=s_tup h fun σ μ ds μ' e=>by
 rw[evEs_len e];exact Nat.le_of_lt (small1000 hl)
theorem q_lst {m:Mk} (h:PA X es (tEs X.K φ xs)) (hl:xs.len≤1000:=by decide):PE X (.List es pos) (tE X.K φ (.lst m xs)):=s_lst h fun σ μ ds μ' e=>by
 rw[evEs_len e];exact Nat.le_of_lt (small1000 hl)
theorem q_ix (ha:PE X a (tE X.K φ xa)) (hb:PE X b (tE X.K φ xb)) (hs:PlainIx b:=by intro _ _;rfl):PE X (.Subscript a b pos) (tE X.K φ (.ix xa xb)):=s_ix ix_ok ha hb hs
theorem q_no:PO X none (tEo X.K φ .no):=o_no
theorem q_so (he:PE X e (tE X.K φ xe)):PO X (some e) (tEo X.K φ (.so xe)):=o_so he
theorem q_sl {lo hi:Option Expr} {xl xh:ExO} {m:Mk} {p2:Pos} (he:PE X e (tE X.K φ xe)) (hl:PO X lo (tEo X.K φ xl)) (hh:PO X hi (tEo X.K φ xh)):PE X (.Subscript e (.Slice lo hi none p2) pos) (tE X.K φ (.sl m xe xl xh)):=s_sl he hl hh
theorem q_ch1 (hu:X.A.units+64<cLine) (op:Cp) (he:PE X e (tE X.K φ xe)):PCh X [opOf op] [e] (tCh X.K φ (.cons op xe .nil)):=ch_last (cmp_ok op (by lia)) he
theorem q_th1 (hu:X.A.units+64<cLine) (op:Cp) (he:PE X e (tE X.K φ xe)):PTh X [opOf op] [e] (tTh X.K φ (.cons op xe .nil)):=th_last (cmp_ok op (by lia)) he
theorem q_cmp {ops:List CmpOp} {r:Cps} (ha:PE X a (tE X.K φ xa)) (hr:PCh X ops es (tCh X.K φ r)) (hm:lastMarks ops es=false:=by rfl):PE X (.Compare a ops es pos) (tE X.K φ (.cmp xa r)):=s_cmp ha hr hm
theorem q_tcmp {ops:List CmpOp} {r:Cps} (ha:PE X a (tE X.K φ xa)) (hr:PTh X ops es (tTh X.K φ r)) (hm:lastMarks ops es=false:=by rfl):PT X (.Compare a ops es pos) (tT X.K φ (.cmp xa r)):=s_tcmp ha hr hm
theorem q_truth (ha:PE X a (tE X.K φ xa)) (he:∀whole,isTrue a X.env whole=(do let v ←whole;standAt a.pos;holding [v] (truthy v)):=by intro _;rfl):PT X a (tT X.K φ xa):=s_truth ha he
theorem q_tnot (ha:PT X a (tT X.K φ xa)):PT X (.UnaryOp .Not a pos) (tT X.K φ (.not xa)):=s_pnot ha
theorem q_wor1 (ha:PT X a (tT X.K φ xa)):PW X (.BoolOp .Or [a] pos) (tT X.K φ xa):=pw_or1 ha
theorem q_wor {rest:List Expr} (ha:PT X a (tT X.K φ xa)) (hb:PW X (.BoolOp .Or (b::rest) pos) (tT X.K φ xb)):PW X (.BoolOp .Or (a::b::rest) pos) (tT X.K φ (.or xa xb)):=s_por ha hb
theorem q_wt {t:TT} (h:PW X a t):PT X a t:=h.pt
theorem q_call {x:Str} {p:Pos} {f:Nat} {keep:Bool} (C:Callee X.prog X.w X.K X.mg X.base X.A φ f x) (ha:PA X (e::es) (tEs X.K φ xs)) (hg:Gl X x:=by rfl) (hdb:(x==("__debug__":Str))=false:=by decide)
  (he:starEach (e::es) X.env=(false,eval e X.env)::starEach es X.env:=by rfl) (hpl:(backTo pos (starEach es X.env)).any (·.1)=false:=by rfl):PE X (.Call (.Name x p) (e::es) [] pos) (tE X.K φ (.call keep f xs)):=s_call C hg ha hdb he hpl
theorem bt_read {r:List V→Hp→VK→Prop} {b:Bt} {m:Mk} {es:List Expr} (h:PE X e (tCB (rCall X.K (btD b m)) (tEs X.K φ xs))):PE X e (tE X.K φ (.blt b m xs)) :=
 PE.imp h fun σv H Q ⟨ι,σ,μ,hS,hL,h⟩=>by
  simp only[evE]at h
  obtain⟨ds,μ1,e1,h⟩:=h.bind
  refine⟨ι,σ,μ,hS,hL,?_⟩
  rw[e1]
  exact fun ι1 vs H1 p1 x1 s1 d1=>⟨ι1,ds,μ1,s1,d1,h.mono p1 x1⟩
theorem q_b_len {m:Mk} {p:Pos} (hm:X.mg "len"=none) (ha:PA X (e::es) (tEs X.K φ xs)) (hg:Gl X "len":=by rfl) (he:starEach (e::es) X.env=(false,eval e X.env)::starEach es X.env:=by rfl) (hpl:(backTo pos (starEach es X.env)).any (·.1)=false:=by rfl) :
  PE X (.Call (.Name "len" p) (e::es) [] pos) (tE X.K φ (.blt .len m xs)):=bt_read (r:=fun _ _ _=>True) (es:=es) (pe_callB bt_len hg hm PySem.boot_len ha (by decide) (by decide) he hpl)
theorem q_b_tuple {m:Mk} {p:Pos} (hm:X.mg "tuple"=none) (ha:PA X (e::es) (tEs X.K φ xs)) (hg:Gl X "tuple":=by rfl) (he:starEach (e::es) X.env=(false,eval e X.env)::starEach es X.env:=by rfl) (hpl:(backTo pos (starEach es X.env)).any (·.1)=false:=by rfl) :
  PE X (.Call (.Name "tuple" p) (e::es) [] pos) (tE X.K φ (.blt .tuple m xs)):=bt_read (r:=fun _ _ _=>True) (es:=es) (pe_callTy bt_tuple hg hm (by first | exact PyProof.Rows.boot_tuple | decide +kernel) ha (by decide) (by decide) he hpl)
theorem q_b_min {m:Mk} {p:Pos} (hm:X.mg "min"=none) (ha:PA X (e::es) (tEs X.K φ xs)) (hc:X.calm=true:=by rfl) (hg:Gl X "min":=by rfl) (he:starEach (e::es) X.env=(false,eval e X.env)::starEach es X.env:=by rfl) (hpl:(backTo pos (starEach es X.env)).any (·.1)=false:=by rfl) :
  PE X (.Call (.Name "min" p) (e::es) [] pos) (tE X.K φ (.blt .min m xs)):=bt_read (r:=fun _ _ _=>True) (es:=es) (pe_callB (bt_min hc) hg hm (by first | exact PyProof.Rows.boot_min | decide +kernel) ha (by decide) (by decide) he hpl)
theorem q_b_max {m:Mk} {p:Pos} (hm:X.mg "max"=none) (ha:PA X (e::es) (tEs X.K φ xs)) (hc:X.calm=true:=by rfl) (hg:Gl X "max":=by rfl) (he:starEach (e::es) X.env=(false,eval e X.env)::starEach es X.env:=by rfl) (hpl:(backTo pos (starEach es X.env)).any (·.1)=false:=by rfl) :
  PE X (.Call (.Name "max" p) (e::es) [] pos) (tE X.K φ (.blt .max m xs)):=bt_read (r:=fun _ _ _=>True) (es:=es) (pe_callB (bt_max hc) hg hm (by first | exact PyProof.Rows.boot_max | decide +kernel) ha (by decide) (by decide) he hpl)
theorem q_isi {c:Cl} {cn:Str} {p cp:Pos} (ha:PE X a (tE X.K φ xa)) (hmi:X.mg "isinstance"=none) (hmc:X.mg cn=none) (hc:∀n,c≠.own n:=by intro _ h;cases h) (hgi:Gl X "isinstance":=by rfl) (hgc:Gl X cn:=by rfl)
  (hbc:bootBuiltins cn=some (.type (clName c)):=by first | boot_by_name | rfl | kernel_rfl) (hn:cn≠"__name__":=by decide) (hd:(cn==("__debug__":Str))=false:=by decide) (hs:starEach [a,.Name cn cp] X.env=(false,eval a X.env)::starEach [.Name cn cp] X.env:=by rfl) :
  PE X (.Call (.Name "isinstance" p) [a,.Name cn cp] [] pos) (tE X.K φ (.isi xa c)):=s_isi hc ha hgi hmi hgc hmc hbc hn hd hs
theorem q_iseq {tg:Expr} (hl:PE X e (tE X.K φ xe)):PI X tg e (tI X.K φ (.seq xe)):=pi_seq hl
theorem q_irng {tg:Expr} {p:Pos} (hm:X.mg "range"=none) (ha:PE X a (tE X.K φ xa)) (hg:Gl X "range":=by rfl) (hs:starEach [a] X.env=[(false,eval a X.env)]:=by rfl):PI X tg (.Call (.Name "range" p) [a] [] pos) (tI X.K φ (.rng xa)):=pi_rng hg hm ha hs
theorem q_gname (i:Nat) {y:Str} (hi:X.N[i]? = some y:=by rfl) (hN:ndB X.N=true:=by first | rfl | kernel_rfl) (hx:Loc X.env.scope y:=by first | exact Or.inl rfl | exact Or.inr rfl) (hf:X.fn y=true∨X.env.scope.names.lookup y=some .local:=by first | exact Or.inl rfl | exact Or.inr rfl) :
  PG X (.Name y pos) (tG X.K (.one i)):=g_name (ndB_ok hN) hi hx hf
theorem q_gnil:PGs X [] (tGs X.K []):=gs_nil
theorem q_gcons (i:Nat) {is:List Nat} {y:Str} (h2:PGs X es (tGs X.K is)) (hi:X.N[i]? = some y:=by rfl) (hN:ndB X.N=true:=by first | rfl | kernel_rfl) (hx:Loc X.env.scope y:=by first | exact Or.inl rfl | exact Or.inr rfl) (hf:X.fn y=true∨X.env.scope.names.lookup y=some .local:=by first | exact Or.inl rfl | exact Or.inr rfl)
  (hs:(assignEach (.Name y pos::es) X.env).map (·.2)=assign (.Name y pos) X.env::(assignEach es X.env).map (·.2):=by rfl):PGs X (.Name y pos::es) (tGs X.K (i::is)):=gs_cons (pg_name (ndB_ok hN) hi hx hf) h2 hs
theorem q_gtup {is:List Nat} {k:Nat} (h:PGs X es (tGs X.K is)) (hc:X.calm=true:=by rfl) (hn:(assignEach es X.env).length=is.length:=by rfl) (hst:(assignEach es X.env).findIdx? (·.1)=none:=by rfl):PG X (.Tuple es k pos) (tG X.K (.many is)):=g_tup hc h hn hst
theorem q_tsnil:PTs X [] (tTs X.K φ .nil):=ts_nil
theorem q_tscons {r:List Expr} {xr:Exs} (h1:PT X c (tT X.K φ xc)) (h2:PTs X r (tTs X.K φ xr)):PTs X (c::r) (tTs X.K φ (.cons xc xr)):=ts_cons h1 h2
theorem q_comp (Nb:List Str) {target iter:Expr} {ifs:List Expr} {scope:Scope} {cap:List Nat} {nl:Nat} {m:Mk} {tg:Tg} {it:It} {cs:Exs} {elt:Ex} (hi:PI X target iter (tI X.K φ it))
  (B:BlkOk X scope Nb target ifs e (tG X.K tg) (tTs X.K φ cs) (tE X.K φ elt)) (S:compOk X.env.scope scope X.N Nb cap nl=true:=by first | rfl | kernel_rfl) (hc:X.calm=true:=by rfl) (hf:∀x,foldedSetIterable iter X.env x=pure x:=by intro _;rfl) (hs:∀j∈slots tg,cap.length≤j:=by decide) :
  PE X (.ListComp e [⟨target,iter,ifs,0⟩] scope pos) (tE X.K φ (.comp m cap nl tg it cs elt)):=s_comp (comp_scope S) hc hi B hf hs
theorem q_setcomp (i:Nat) (Nb:List Str) {target iter:Expr} {ifs:List Expr} {scope:Scope} {cap:List Nat} {nl:Nat} {m:Mk} {tg:Tg} {it:It} {cs:Exs} {elt:Ex} {spos py:Pos} {y:Str} (hi:PI X target iter (tI X.K φ it))
  (B:BlkOk X scope Nb target ifs e (tG X.K tg) (tTs X.K φ cs) (tE X.K φ elt)) (S:compOk X.env.scope scope X.N Nb cap nl=true:=by first | rfl | kernel_rfl) (hc:X.calm=true:=by rfl) (hf:∀x,foldedSetIterable iter X.env x=pure x:=by intro _;rfl) (hs:∀j∈slots tg,cap.length≤j:=by decide)
  (hsw:swapsWith (.ListComp e [⟨target,iter,ifs,0⟩] scope pos) (some (.Name y py)) spos.line X.env=pure true:=by rfl) (hiN:X.N[i]? = some y:=by rfl) (hN:ndB X.N=true:=by first | rfl | kernel_rfl) (hy:X.env.scope.names.lookup y=some .local:=by rfl) :
  PS X (.Assign [.Name y py] (.ListComp e [⟨target,iter,ifs,0⟩] scope pos) spos) (tS X.K φ (.set i (.comp m cap nl tg it cs elt))):=k_setcomp (comp_scope S) hc hi B hf hs hsw (ndB_ok hN) hiN hy
theorem q_sn:PSs X [] (tSs X.K φ .nil):=k_nil
theorem q_sc {s:Stmt} {ss:List Stmt} {x:Sm} {xss:Sms} (h1:PS X s (tS X.K φ x)) (h2:PSs X ss (tSs X.K φ xss)):PSs X (s::ss) (tSs X.K φ (.cons x xss)):=k_cons h1 h2
theorem q_ex (he:PE X e (tE X.K φ xe)) (hs:swapsWith e none pos.line X.env=pure false:=by rfl):PS X (.Expr e pos) (tS X.K φ (.ex xe)):=k_expr he hs
theorem q_ret (he:PE X e (tE X.K φ xe)):PS X (.Return (some e) pos) (tS X.K φ (.ret xe)):=k_ret he
theorem q_if {x y:List Stmt} {xx xy:Sms} (hc:PT X c (tT X.K φ xc)) (ha:PSs X x (tSs X.K φ xx)) (hb:PSs X y (tSs X.K φ xy)):PS X (.If c x y pos) (tS X.K φ (.ite xc xx xy)):=k_if hc ha hb
theorem q_set (i:Nat) {y:Str} {pos':Pos} (he:PE X e (tE X.K φ xe)) (hi:X.N[i]? = some y:=by rfl) (hN:ndB X.N=true:=by first | rfl | kernel_rfl) (hx:Loc X.env.scope y:=by first | exact Or.inl rfl | exact Or.inr rfl) (hf:X.fn y=true∨X.env.scope.names.lookup y=some .local:=by first | exact Or.inl rfl | exact Or.inr rfl)
  (hs:swapsWith e (some (.Name y pos')) pos.line X.env=pure false:=by rfl):PS X (.Assign [.Name y pos'] e pos) (tS X.K φ (.set i xe)):=k_set (ndB_ok hN) hi hx hf he hs
theorem q_unp {is:List Nat} {tg:Expr} (hg:PG X tg (tG X.K (.many is))) (he:PE X e (tE X.K φ xe)) (hs:swapsWithSole [tg] e pos.line X.env=pure false:=by rfl) (hw:swappedStores [tg] e X.env=pure none:=by rfl)
  (h1:(assignEach [tg] X.env).map (·.2)=[assign tg X.env]:=by rfl):PS X (.Assign [tg] e pos) (tS X.K φ (.unp is xe)):=k_unp hg he hs hw h1
theorem q_for {tg it:Expr} {body:List Stmt} {xt:Tg} {xi:It} {xb:Sms} (hi:PI X tg it (tI X.K φ xi)) (hg:PG X tg (tG X.K xt)) (hb:PSs X body (tSs X.K φ xb)) (hp:PassesOwn (model X.prog X.w) X.A X.env X.xe:=by exact PassesOwn.never) (hc:X.calm=true:=by rfl)
  (hs:∀x,foldedSetIterable it X.env x=pure x:=by intro _;rfl):PS X (.For tg it body [] pos) (tS X.K φ (.loop xt xi xb)):=k_for hp hc hi hg hb hs
end
end Lp
namespace Lp
open PySem PySem.Spec PyProof.Rows L2
theorem rv_nolen:typeLookup (.type "list_reverseiterator") "__len__"=pure none:=by rw[typeLookup_type,builtinLookup_eq_fast];kernel_rfl
theorem rv_slot:typeLookup (.type "list_reverseiterator") "__length_hint__"=pure (some (.builtin "list_reverseiterator.__length_hint__")):=by rw[typeLookup_type,builtinLookup_eq_fast];kernel_rfl
section
variable {prog : Program} {w : World} {A : Around} {E : Value → Shared → Prop} {s : Shared} {r l : Addr}
theorem rv_hint {Q:Bool→Shared→Prop} (hT:s.TypeIs (.ref r) "list_reverseiterator") (h:Q false s):wpAny (model prog w) A (Builtin.List.listLengthHint (.ref r)) Q E s:=by
 unfold Builtin.List.listLengthHint
 refine wpAny_bind (wpAny_specialOf hT rv_nolen ?_)
 show wpAny _ _ (specialOf (Value.ref r) (Str.ofString "__length_hint__")>>=_) _ _ _
 refine wpAny_bind (wpAny_specialOf hT rv_slot ?_)
 generalize hid:("list_reverseiterator.__length_hint__":String)=id0
 wp_delta
 rw[show splitId id0=some ("list_reverseiterator","__length_hint__")from by subst hid;decide +kernel]
 subst hid
 refine wpAny_bind (wpAny_isInstance (T:="list_reverseiterator") (b:=true) hT (by rw[isSubtype_type];kernel_rfl) ?_)
 refine wpAny_ite_split (fun hab=>absurd hab (by decide)) (fun _=>?_)
 refine wpAny_ite_split (fun _=>?_) (fun hab=>absurd (by decide +kernel) hab)
 refine wpAny_ite_split (fun hab=>absurd hab (by decide +kernel)) (fun _=>?_)
 exact wpAny_pure h
theorem rv_extend {R:Result→Shared→Prop} {items:Array Value} (hh:A.handled=none) (S:Addr) (hSr:S≠r) (hSl:S≠l) (hlr:l≠r) (res:Value) (c₀:Nat) (hit:s.heap.IsRevIter r l ((items.size:Int)-1)) (hl:s.heap.IsList l items)
  (hS:s.heap.get? S=some {cls:=.type "list",data:=.seq #[] c₀})
  (hR:∀h' tk acc' c',(∀b o,b≠S→b≠r→s.heap.get? b=some o→h'.get? b=some o)→h'.get? S=some {cls:=.type "list",dict:=none,data:=.seq acc' c',slots:=#[]}→ItemsOf (fun i v=>items[items.size-1-i]? = some v) acc' items.size→R (.ok (.ret res)) {s with heap:=h',toks:=tk}) (hn:items.size≤sizeLine) :
  wpAny (model prog w) A.in1 (Builtin.List.listExtendWith (.ref S) (.ref r) res)
   (fun fin s'=>match fin with | .done f=>R (.ok f) s' | .again c'=>c'.quiet=true∧codeAny (model prog w) A c' R s') (fun e s'=>R (.error e) s') s:=by
 have W:=Walks.listRev (prog:=prog) (w:=w) (A:=A.in1) hh r l hlr items
 have hSf:S∉[r,l]:=by simp only[List.mem_cons,List.not_mem_nil,or_false,not_or];exact⟨hSr,hSl⟩
 have st0:∀h:Heap,h.IsRevIter r l ((items.size:Int)-1)→h.IsList l items→(0≤items.size∧h.IsRevIter r l ((items.size:Int)-1-((0:Nat):Int))∧h.IsList l items):=fun h a b=>⟨Nat.zero_le _,by simpa using a,b⟩
 have key:∀(h:Heap) (c₁ tk:Nat),(0≤items.size∧h.IsRevIter r l ((items.size:Int)-1-((0:Nat):Int))∧h.IsList l items)→(∀b o,b≠S→s.heap.get? b=some o→h.get? b=some o) →
   h.get? S=some {cls:=.type "list",data:=.seq #[] c₁}→codeAny (model prog w) A (.builtin "list.extend.loop" ⟨[.ref S,.ref r,res],[]⟩) R {s with heap:=h,toks:=tk}:=by
  intro h c₁ tk hst hk hS₁
  refine codeAny_extend_loopS W.toS hn S hSf res items.size 0 _ #[] c₁ rfl (Nat.zero_le _) hst hS₁ (ItemsOf.nil _) fun s' acc' c' hm hS' hacc=>?_
  rw[Moved.eq_with hm]
  refine hR s'.heap s'.toks acc' c' (fun b o hb hbr e=>hm.heap b o (fun hmem=>?_) (hk b o hb e)) hS' hacc
  rcases List.mem_cons.mp hmem with e' | hmem
  ·exact hb e'
  ·exact hbr (List.mem_singleton.mp hmem)
 unfold Builtin.List.listExtendWith
 refine wpAny_bind (wpAny_typeOf (T:="list_reverseiterator") hit.typeIs ?_)
 have h1:Builtin.List.listSameRef (.ref S) (.ref r)=false:=by simp[Builtin.List.listSameRef,hSr]
 have h2:(Value.type "list_reverseiterator"==Value.type "list")=false:=by decide
 have h3:(Value.type "list_reverseiterator"==Value.type "tuple")=false:=by decide
 simp only[h1,h2,h3,Bool.or_false,Bool.false_eq_true,if_false]
 refine wpAny_bind (wpAny_pyIter_revIter hit ?_)
 refine wpAny_bind (wpAny_holding (rv_hint hit.typeIs ?_))
 refine wpAny_ite_split (fun hab=>absurd hab (by decide)) (fun _=>wpAny_pure ⟨plainId_quiet PySem.F.plain_extend_loop _,key _ c₀ _ (st0 _ hit hl) (fun b o _ e=>e) hS⟩)
theorem rv_init {R:Result→Shared→Prop} {items:Array Value} (hh:A.handled=none) (S:Addr) (hSr:S≠r) (hSl:S≠l) (hlr:l≠r) (hit:s.heap.IsRevIter r l ((items.size:Int)-1)) (hl:s.heap.IsList l items)
  (hS:s.heap.get? S=some {cls:=.type "list",data:=.seq #[]})
  (hR:∀h' tk acc' c',(∀b o,b≠S→b≠r→s.heap.get? b=some o→h'.get? b=some o)→h'.get? S=some {cls:=.type "list",dict:=none,data:=.seq acc' c',slots:=#[]}→ItemsOf (fun i v=>items[items.size-1-i]? = some v) acc' items.size→R (.ok (.ret .none)) {s with heap:=h',toks:=tk}) (hn:items.size≤sizeLine) :
  wpAny (model prog w) A.in1 (Builtin.«list.__init__» ⟨[.ref S,.ref r],[]⟩)
   (fun fin s'=>match fin with | .done f=>R (.ok f) s' | .again c'=>c'.quiet=true∧codeAny (model prog w) A c' R s') (fun e s'=>R (.error e) s') s:=by
 show wpAny _ _ (do let old ←Builtin.List.listItems (.ref S);Builtin.List.listUpdate (.ref S) (fun _=>#[]);letGo old.toList.reverse;Builtin.List.listExtendWith (.ref S) (.ref r) .none) _ _ s
 refine wpAny_bind ?_
 unfold Builtin.List.listItems
 refine wpAny_bind (wpAny_seqItems hS rfl (wpAny_pure ?_))
 show wpAny _ _ (updateSeq S (fun _=>#[])>>=fun _=>letGo (#[]:Array Value).toList.reverse>>=fun _=>Builtin.List.listExtendWith (.ref S) (.ref r) .none) _ _ s
 refine wpAny_bind (wpAny_updateSeq hS rfl ?_)
 have hS₂:=Heap.get?_update_self (Obj.mapSeq (fun _=>(#[]:Array Value))) hS rfl
 have oth:∀b o,b≠S→s.heap.get? b=some o→(s.heap.update S (Obj.mapSeq (fun _=>(#[]:Array Value)))).get? b=some o :=
  fun b o hb e=>(Heap.get?_update_other _ _ (Ne.symm hb)).trans e
 refine wpAny_bind (wpAny_letGo ?_)
 refine rv_extend hh S hSr hSl hlr .none _ (hit.at fun o e=>oth r o (Ne.symm hSr) e) (hl.at fun o e=>oth l o (Ne.symm hSl) e) hS₂ (fun h' tk acc' c' hk hS' hacc=>?_) hn
 exact hR h' tk acc' c' (fun b o hb hbr e=>hk b o hb hbr (oth b o hb e)) hS' hacc
theorem rv_call {Q:Value→Shared→Prop} {items:Array Value} (hh:A.handled=none) (hlr:l≠r) (hit:s.heap.IsRevIter r l ((items.size:Int)-1)) (hl:s.heap.IsList l items) (hn:items.size≤sizeLine)
  (hQ:∀h' tk acc' c',(∀b o,b≠r→s.heap.get? b=some o→h'.get? b=some o)→h'.get? s.heap.objs.size=some {cls:=.type "list",dict:=none,data:=.seq acc' c',slots:=#[]}→ItemsOf (fun i v=>items[items.size-1-i]? = some v) acc' items.size→Q (.ref s.heap.objs.size) {s with heap:=h',toks:=tk}) :
  wpAny (model prog w) A (call (.type "list") [.ref r]) Q E s:=by
 refine callType_codes (Q₁:=fun obj s₁=>obj=.ref s.heap.objs.size∧s₁={s with heap:=s.heap.push {cls:=.type "list",data:=.seq #[]}}) PySem.F.called_list (PySem.F.typeCall_list_1 _) PySem.F.entry_list_init
  (code_list_new _ ⟨rfl,rfl⟩) fun obj s₁ h₁=>?_
 obtain⟨rfl,rfl⟩:=h₁
 have hS:(s.heap.push {cls:=.type "list",data:=.seq #[]}).get? s.heap.objs.size=some {cls:=.type "list",data:=.seq #[]}:=Heap.get?_push_size _ rfl
 have hr:r<s.heap.objs.size:=by obtain⟨o,e,_⟩:=hit;exact Heap.lt_size e
 have hl':l<s.heap.objs.size:=by obtain⟨o,e,_⟩:=hl;exact Heap.lt_size e
 refine⟨⟨_,hS,rfl⟩,PySem.F.args_list_init_2 _ _,rv_init (A:=A.in1) hh _ (Nat.ne_of_gt hr) (Nat.ne_of_gt hl') hlr (hit.at fun o e=>Heap.get?_push_of_some _ e) (hl.at fun o e=>Heap.get?_push_of_some _ e) hS (fun h' tk acc' c' hk hS' hacc=>?_) hn⟩
 exact⟨rfl,hQ h' tk acc' c' (fun b o hb e=>hk b o (Nat.ne_of_lt (Heap.lt_size e)) hb (Heap.get?_push_of_some _ e)) hS' hacc⟩
end
theorem items_rev {its:List Value} {acc:Array Value} (h:ItemsOf (fun i v=>its.toArray[its.toArray.size-1-i]? = some v) acc its.toArray.size):acc.toList=its.reverse:=by
 obtain⟨h1,h2⟩:=h
 simp only[List.size_toArray]at h1 h2
 refine List.ext_getElem? fun i=>?_
 by_cases hi:i<its.length
 ·have e:acc[i]? = some (acc[i]'(by lia)):=Array.getElem?_eq_getElem (by lia)
  have q:=h2 i _ e
  rw[Array.getElem?_toList,e,←q,List.getElem?_toArray,List.getElem?_reverse hi]
 ·rw[Array.getElem?_toList,List.getElem?_eq_none (by simpa using hi),Array.getElem?_eq_none (by lia)]
section
variable {X : Cx} {φ : Phi} {a : Expr} {xa : Ex} {p p2 pos pos2 : Pos} {m : Mk}
theorem s_listRev (hml:X.mg "list"=none) (hmr:X.mg "reversed"=none) (ha:PE X a (tE X.K φ xa)) (hgl:Gl X "list":=by rfl) (hgr:Gl X "reversed":=by rfl) (hc:X.calm=true:=by rfl)
  (hs:starEach [a] X.env=[(false,eval a X.env)]:=by rfl) (hs2:starEach [.Call (.Name "reversed" p2) [a] [] pos2] X.env=[(false,eval (.Call (.Name "reversed" p2) [a] [] pos2) X.env)]:=by rfl) :
  PE X (.Call (.Name "list" p) [.Call (.Name "reversed" p2) [a] [] pos2] [] pos) (tE X.K φ (.blt .listRev m (.cons xa .nil))):=by
 refine PE.imp (t:=fun σ H Q=>tE X.K φ xa σ H fun v H1=>∃l ys,v=.ref l∧LsL X.K H1 l ys∧∀q,H1 q=none→FQ Q (.ref q) (upd H1 q (.lst ys.reverse))) ?_ fun σv H Q ⟨ι,σ,μ,hS,hL,h⟩=>?_
 ·intro pins s σ H Q I h
  refine wpAny_Call_Name_kw (ld_blt I hgl hml PyProof.Rows.boot_list ?_ (by decide) (by decide))
  refine PyProof.Rows.callWith_type1 ?_ hs2 rfl
  rw[hs2]
  refine Calls.spliced_cons ?_
  refine wpAny_Call_Name_kw (ld_blt I hgr hmr PyProof.Rows.boot_reversed ?_ (by decide) (by decide))
  refine PyProof.Rows.callWith_type1 ?_ hs rfl
  rw[hs]
  refine Calls.spliced_cons (thn (ha pins s σ H _ I h) fun u s1 ⟨v,H1,I1,r1,l,ys,ev,hls,q⟩=>Calls.spliced_nil ?_)
  subst ev
  cases(show u=Value.ref l from r1)
  obtain⟨hz,its,n,rv,hlen,hget⟩:=I1.ls hls
  have hlist:s1.heap.IsList l its.toArray:=⟨_,hget,rfl,n,rfl⟩
  refine call_reversed_list hlist ?_
  refine Calls.spliced_nil ?_
  have hl1:l<s1.heap.objs.size:=Heap.lt_size hget
  refine EP_fq' (rv_call (l:=l) (r:=s1.heap.objs.size) (items:=its.toArray) (I1.ok.hd hc) (Nat.ne_of_lt hl1) ⟨_,Heap.get?_push_size _ rfl,rfl,rfl⟩ (hlist.at fun o e=>Heap.get?_push_of_some _ e) (by rw[List.size_toArray];lia) fun h' tk acc c hk hD hacc=>?_)
  have hsz:(s1.heap.push (revObj l ((its.toArray.size:Int)-1))).objs.size=s1.heap.objs.size+1:=Heap.size_push _ _
  have ea:=items_rev hacc
  have hf:H1 (s1.heap.objs.size+1)=none:=I1.hok.fresh (Nat.le_succ _)
  refine⟨.ref (s1.heap.objs.size+1),upd H1 (s1.heap.objs.size+1) (.lst ys.reverse),I1.laid (t':=tk) (fun b o e=>hk b o (Nat.ne_of_lt (Heap.lt_size e)) (Heap.get?_push_of_some _ e)) (Nat.le_succ _) ?_,?_,q _ hf⟩
  ·refine⟨by rw[List.length_reverse];exact hz,its.reverse,c,rv.reverse,?_⟩
   rw[hsz]at hD
   rw[hD,←ea,Array.toArray_toList]
  ·show Value.ref _=Value.ref _
   rw[hsz]
 ·simp only[evE,evEs]at h
  rw[Res.bind_assoc]at h
  obtain⟨d,μ1,e1,h⟩:=h.bind
  refine⟨ι,σ,μ,hS,hL,?_⟩
  rw[e1]
  intro ι1 v H1 p1 x1 s1 d1
  have h:=h.mono p1 x1
  simp only[Res.bind_ok,btD,one1_one,listRev1]at h
  split at h
  ·rename_i xs ex
   obtain⟨l,ys,ev,hls,hys⟩:=list_of s1 d1 ex
   exact⟨l,ys,ev,hls,fun q hq=>mk_post s1 hys.reverse h hq⟩
  ·exact h.elim
end
end Lp
namespace Lp
open PySem PySem.Spec PyProof.Rows L2
section
variable {X : Cx} {φ : Phi} {o e : Expr} {es : List Expr} {xo : Ex} {xs : Exs} {apos cpos : Pos} {T id : String} {name : Str} {mt : Mt}
theorem m_read0 (hT:∀(ι:List Addr) (H:Hp) (μ:Sto) (d:D) (x:V),Sim X.K ι H μ→IsD X.K ι H d x→methOk mt d μ=true→tyV X.K T x H) (h:PE X e (tBM0 X.K T (rMt X.K mt) (tE X.K φ xo))):PE X e (tE X.K φ (.meth mt xo .nil)) :=
 PE.imp h fun σv H Q ⟨ι,σ,μ,hS,hL,h⟩=>by
  simp only[evE,evEs]at h
  obtain⟨d,μ1,e1,h⟩:=h.bind
  refine⟨ι,σ,μ,hS,hL,?_⟩
  rw[e1]
  intro ι1 x H1 p1 x1 s1 d1
  split at h
  ·rename_i hm
   exact⟨hT ι1 H1 μ1 d x s1 d1 hm,ι1,d,[],μ1,s1,d1,by simp[IsDs],h.mono p1 x1⟩
  ·exact h.elim
theorem m_read (hT:∀(ι:List Addr) (H:Hp) (μ:Sto) (d:D) (x:V),Sim X.K ι H μ→IsD X.K ι H d x→methOk mt d μ=true→tyV X.K T x H) (h:PE X e (tBM X.K T (rMt X.K mt) (tE X.K φ xo) (tEs X.K φ xs))):PE X e (tE X.K φ (.meth mt xo xs)) :=
 PE.imp h fun σv H Q ⟨ι,σ,μ,hS,hL,h⟩=>by
  simp only[evE]at h
  obtain⟨d,μ1,e1,h⟩:=h.bind
  refine⟨ι,σ,μ,hS,hL,?_⟩
  rw[e1]
  intro ι1 x H1 p1 x1 s1 d1
  split at h
  ·rename_i hm
   refine⟨hT ι1 H1 μ1 d x s1 d1 hm,ι1,σ,μ1,s1,hL.mono p1 x1,?_⟩
   obtain⟨ds,μ2,e2,h⟩:=h.bind
   rw[e2]
   exact fun ι2 vs H2 p2 x2 s2 d2=>⟨ι2,d,ds,μ2,s2,IsD.mono p2 x2 _ _ d1,d2,h.mono (p1.trans p2) (x1.trans x2)⟩
  ·exact h.elim
theorem ty_of_list (hmt:∀d μ,methOk mt d μ=(listOf μ d).isSome) (ι:List Addr) (H:Hp) (μ:Sto) (d:D) (x:V) (hS:Sim X.K ι H μ) (hd:IsD X.K ι H d x) (hm:methOk mt d μ=true):tyV X.K "list" x H:=by
 rw[hmt]at hm
 obtain⟨ds,e⟩:=Option.isSome_iff_exists.mp hm
 obtain⟨a,xs,rfl,hls,_⟩:=list_of hS hd e
 exact .inl ⟨rfl,_,hls.sq⟩
theorem q_m_pop0 (ho:PE X o (tE X.K φ xo)) (hbase:attributeBase o "pop" X.env (eval o X.env)=eval o X.env:=by rfl) (hline:(apos.endLine==cpos.line)=true:=by rfl):PE X (.Call (.Attribute o "pop" apos) [] [] cpos) (tE X.K φ (.meth .pop xo .nil)) :=
 m_read0 (ty_of_list fun _ _=>rfl) (pe_bm0 F.plainAttrs_list F.slot_list_pop F.type_list_pop m_pop ho hbase hline)
theorem q_m_append1 (ho:PE X o (tE X.K φ xo)) (ha:PA X (e::es) (tEs X.K φ xs)) (hbase:attributeBase o "append" X.env (eval o X.env)=eval o X.env:=by rfl)
  (hfew:((backTo cpos (starEach (e::es) X.env)).all (fun x=>!x.1)&&(backToKw cpos (keywordEach [] X.env)).all (fun x=>x.1.isSome)&&decide ((e::es).length+([]:List Keyword).length+(if([]:List Keyword).isEmpty then 0 else 1)<30))=true:=by rfl)
  (hline:(apos.endLine==cpos.line)=true:=by rfl) (hs:starEach (e::es) X.env=(false,eval e X.env)::starEach es X.env:=by rfl) (hplain:(backTo cpos (starEach es X.env)).any (·.1)=false:=by rfl):PE X (.Call (.Attribute o "append" apos) (e::es) [] cpos) (tE X.K φ (.meth .append xo xs)) :=
 m_read (ty_of_list fun _ _=>rfl) (pe_bm F.plainAttrs_list F.slot_list_append F.type_list_append m_append ho ha hbase hfew hline hs hplain)
theorem q_listRev {a:Expr} {xa:Ex} {p p2 pos pos2:Pos} {m:Mk} (hml:X.mg "list"=none) (hmr:X.mg "reversed"=none) (ha:PE X a (tE X.K φ xa)) (hgl:Gl X "list":=by rfl) (hgr:Gl X "reversed":=by rfl) (hc:X.calm=true:=by rfl)
  (hs:starEach [a] X.env=[(false,eval a X.env)]:=by rfl) (hs2:starEach [.Call (.Name "reversed" p2) [a] [] pos2] X.env=[(false,eval (.Call (.Name "reversed" p2) [a] [] pos2) X.env)]:=by rfl) :
  PE X (.Call (.Name "list" p) [.Call (.Name "reversed" p2) [a] [] pos2] [] pos) (tE X.K φ (.blt .listRev m (.cons xa .nil))):=s_listRev hml hmr ha hgl hgr hc hs hs2
end
end Lp
namespace Lp
open PySem PySem.Spec PyProof.Rows L2
section
variable {prog : Program} {w : World} {A : Around} {E : Value → Shared → Prop} {s : Shared} {r : Addr} {a b c : Int} {t u v : Tok} {n : Nat}
theorem collect_range {Q:List Value→Shared→Prop} (hh:A.handled=none) (hr:IsRange s.heap r a b c t u v) (hsmall:Builtin.Range.small a b c=true) (hn:Builtin.Range.rangeSize a b c=n) (hlen:n≤2 ^ 24)
  (hQ:∀(h':Heap) (tk:Nat) (acc:Array Value),(∀b o',s.heap.get? b=some o'→h'.get? b=some o')→ItemsOf (fun i v=>∃t,v=.int (a+i*c) t) acc n→Q acc.toList {s with heap:=h',toks:=tk}) :
  wpAny (model prog w) A (collect (.ref r)) Q E s:=by
 unfold collect
 refine wpAny_bind (wpAny_runValue (codeAny_builtin PySem.F.entry_proto_collect ?_))
 rw[Around.under_plainId PySem.F.plain_proto_collect _]
 show wpAny _ A.in1 (newList []>>=fun l=>again (.builtin "list.__iadd__" ⟨[l,.ref r],[]⟩)) _ _ s
 refine wpAny_bind (wpAny_newObj_type ?_)
 refine wpAny_pure ⟨plainId_quiet PySem.F.plain_list_iadd _,codeAny_builtin PySem.F.entry_list_iadd ?_⟩
 rw[Around.under_plainId PySem.F.plain_list_iadd _]
 show wpAny _ A.in1 (Builtin.List.listExtendWith (.ref s.heap.objs.size) (.ref r) (.ref s.heap.objs.size)) _ _ _
 have hS:(s.heap.push {cls:=.type "list",data:=.seq ([]:List Value).toArray}).get? s.heap.objs.size=some {cls:=.type "list",data:=.seq #[] 0}:=Heap.get?_push_size _ rfl
 refine wpAny_mono (wpAny_extend_range (A:=A) (s:={s with heap:=s.heap.push {cls:=.type "list",data:=.seq ([]:List Value).toArray}}) (R:=fun r' s'=>r'=.ok (.ret (.ref s.heap.objs.size))∧∃(h':Heap) (tk:Nat) (acc:Array Value) (c':Nat),s'={s with heap:=h',toks:=tk}∧(∀b o',s.heap.get? b=some o'→h'.get? b=some o') ∧
   h'.get? s.heap.objs.size=some {cls:=.type "list",dict:=none,data:=.seq acc c',slots:=#[]}∧ItemsOf (fun i v=>∃t,v=.int (a+i*c) t) acc n) hh (Heap.get?_push_of_some _ hr) hsmall hn hlen s.heap.objs.size _ 0 hS
  fun h' tk acc c' hk hD hacc=>⟨rfl,h',tk,acc,c',rfl,fun b o' e=>hk b o' (Nat.ne_of_lt (Heap.lt_size e)) (Heap.get?_push_of_some _ e),hD,hacc⟩) (fun fin s' h=>?_) (fun e s' h=>?_)
 ·have fin':∀(r':Result) (s'':Shared),(r'=.ok (.ret (.ref s.heap.objs.size))∧∃(h':Heap) (tk:Nat) (acc:Array Value) (c':Nat),s''={s with heap:=h',toks:=tk}∧(∀b o',s.heap.get? b=some o'→h'.get? b=some o') ∧
   h'.get? s.heap.objs.size=some {cls:=.type "list",dict:=none,data:=.seq acc c',slots:=#[]}∧ItemsOf (fun i v=>∃t,v=.int (a+i*c) t) acc n)→wpAny (model prog w) A (match Value.ref s.heap.objs.size with
   | Value.ref a=>do
    match(←load a).data with
     | Data.seq xs _=>pure xs.toList
     | _=>unsupported "internal:collect"
   | _=>unsupported "internal:collect") Q E s'':=by
   rintro r' s'' ⟨rfl,h',tk,acc,c',rfl,hk,hD,hacc⟩
   show wpAny _ A (load s.heap.objs.size>>=_) _ _ _
   refine wpAny_bind (wpAny_load hD ?_)
   exact wpAny_pure (hQ h' tk acc hk hacc)
  cases fin with
  | done f =>
   have e:f=.ret (.ref s.heap.objs.size):=by have:=h.1;cases this;rfl
   subst e
   exact fin' _ _ h
  | again c'=>exact⟨h.1,codeAny_mono h.2 fun r' s'' hr=>by obtain⟨rfl,z⟩:=hr;exact fin' _ _ ⟨rfl,z⟩⟩
 ·exact absurd h.1 (by simp)
theorem code_tuple_range {Q₁:Value→Shared→Prop} (hh:A.handled=none) (hr:IsRange s.heap r a b c t u v) (hsmall:Builtin.Range.small a b c=true) (hn:Builtin.Range.rangeSize a b c=n) (hlen:n≤2 ^ 24)
  (h:∀(h':Heap) (tk:Nat) (acc:Array Value),(∀b o',s.heap.get? b=some o'→h'.get? b=some o')→ItemsOf (fun i v=>∃t,v=.int (a+i*c) t) acc n→Q₁ (.ref h'.objs.size) {s with heap:=h'.push {cls:=.type "tuple",data:=.seq acc},toks:=tk}) :
  codeAny (model prog w) A (.call (.builtin "tuple.__new__") ⟨[.type "tuple",.ref r],[]⟩) (wants Q₁ E) s:=by
 refine codeAny_of_tree ?_
 show wpAny _ A.in1 (do checkBuiltinCall "tuple.__new__" ⟨[.type "tuple",.ref r],[]⟩;again (.builtin "tuple.__new__" ⟨[.type "tuple",.ref r],[]⟩)) _ _ s
 refine wpAny_bind (wpAny_of_eq (PySem.F.newCall_tuple_1 _) (wpAny_pure ⟨plainId_quiet PySem.F.plain_tuple_new _,codeAny_builtin PySem.F.entry_tuple_new ?_⟩))
 rw[Around.under_plainId PySem.F.plain_tuple_new _]
 have hsub:=sub_tuple_self
 have hinit:=init_tuple_lookup
 have hmh:=madeHere_tuple
 have hTI:s.TypeIs (.ref r) "range":=⟨_,hr,rfl⟩
 have hh':A.in1.in1.handled=none:=hh
 wp_walk using wpAny_typeOf hTI,collect_range (A:=A.in1) (show A.in1.handled=none from hh) hr hsmall hn hlen
 intro h' tk acc hk hacc
 show wpAny _ _ (Builtin.Tuple.tupleExact acc.toList.toArray>>=fun v=>ret v) _ _ _
 unfold Builtin.Tuple.tupleExact
 refine wpAny_bind (wpAny_newObj_type ?_ (by show acc.toList.toArray.size≤sizeLine;simp only[Array.toArray_toList];rw[hacc.1,sizeLine_eq];lia))
 refine wpAny_pure ?_
 have e:acc.toList.toArray=acc:=by simp
 rw[e]
 exact h h' tk acc hk hacc
theorem call_tuple_range {Q:Value→Shared→Prop} (hh:A.handled=none) (hr:IsRange s.heap r a b c t u v) (hsmall:Builtin.Range.small a b c=true) (hn:Builtin.Range.rangeSize a b c=n) (hlen:n≤2 ^ 24)
  (hQ:∀(h':Heap) (tk:Nat) (acc:Array Value),(∀b o',s.heap.get? b=some o'→h'.get? b=some o')→ItemsOf (fun i v=>∃t,v=.int (a+i*c) t) acc n→Q (.ref h'.objs.size) {s with heap:=h'.push {cls:=.type "tuple",data:=.seq acc},toks:=tk}) :
  wpAny (model prog w) A (call (.type "tuple") [.ref r]) Q E s:=by
 refine callType_codes (Q₁:=fun obj s₁=>s₁.TypeIs obj "tuple"∧Q obj s₁) PySem.F.called_tuple (PySem.F.typeCall_tuple_1 _) PySem.F.entry_object_init
  (code_tuple_range (A:=A.in1) hh hr hsmall hn hlen fun h' tk acc hk hacc=>⟨⟨_,Heap.get?_push_size _ rfl,rfl⟩,hQ h' tk acc hk hacc⟩) fun obj s₁ h₁=>?_
 exact⟨h₁.1,PySem.F.args_object_init_2 obj _,object_init_meets PySem.F.called_tuple.init.lookup PySem.F.called_tuple.made (by decide) prog w A.in1 _ s₁ ⟨h₁.1,rfl,h₁.2⟩⟩
end
theorem items_range {acc:Array Value} {n:Nat} (h:ItemsOf (fun i v=>∃t,v=.int (0+i*1) t) acc n):Vals ((List.range n).map fun(k:Nat)=>V.int k) acc.toList:=by
 obtain⟨h1,h2⟩:=h
 have gen:∀(us:List Value) (k:Nat),(∀(j:Nat) u,us[j]? = some u→∃t,u=.int ((k+j:Nat):Int) t)→Vals ((List.range' k us.length).map fun(k:Nat)=>V.int k) us:=by
  intro us
  induction us with
  | nil=>intro k _;exact .nil
  | cons u r ih =>
   intro k hu
   rw[List.length_cons,List.range'_succ,List.map_cons]
   refine .cons ?_ (ih (k+1) fun j u' e=>?_)
   ·obtain⟨t,e⟩:=hu 0 u rfl
    exact⟨t,by simpa using e⟩
   ·obtain⟨t,e'⟩:=hu (j+1) u' (by simpa using e)
    exact⟨t,by rw[e'];congr 1;lia⟩
 have q:=gen acc.toList 0 fun j u e=>by
  obtain⟨t,e'⟩:=h2 j u (by rw[←Array.getElem?_toList];exact e)
  exact⟨t,by rw[e'];congr 1;lia⟩
 rw[Array.length_toList,h1]at q
 rwa [List.range_eq_range']
theorem ints_range {K:PySem.W.Frag} {ι:List Addr} {H:Hp} (n:Nat):IsDs K ι H ((List.range n).map fun(i:Nat)=>D.int i) ((List.range n).map fun(k:Nat)=>V.int k):=by
 have h:=IsDs.ints (K:=K) (ι:=ι) (H:=H) ((List.range n).map fun(i:Nat)=>(i:Int))
 simpa[List.map_map,Function.comp_def]using h
section
variable {X : Cx} {φ : Phi} {a : Expr} {xa : Ex} {p p2 pos pos2 : Pos} {m : Mk}
noncomputable def tRng (ta:TE) (k:Nat→Hp→VK→Prop):TE:=fun σ H Q=>ta σ H fun v H1=>∃j:Int,v=.int j ∧ -(2 ^ 24)≤j∧j≤2 ^ 24∧k j.toNat H1 Q
theorem rng_read {b:Bt} {f:List D→Sto→Res D} {k:Nat→Hp→VK→Prop} (hb:∀ds μ,btD b m ds μ=one1 (range1 f) ds μ)
  (hk:∀(n:Nat) (ι:List Addr) (H:Hp) (μ:Sto) (Q:VK),Sim X.K ι H μ→Post X.K (RD X.K) ι H (f ((List.range n).map fun(i:Nat)=>D.int i) μ) Q→k n H Q) {σv:St} {H:Hp} {Q:VK} (h:tE X.K φ (.blt b m (.cons xa .nil)) σv H Q):tRng (tE X.K φ xa) k σv H Q:=by
 obtain⟨ι,σ,μ,hS,hL,h⟩:=h
 simp only[evE,evEs]at h
 rw[Res.bind_assoc]at h
 obtain⟨d,μ1,e1,h⟩:=h.bind
 refine⟨ι,σ,μ,hS,hL,?_⟩
 rw[e1]
 intro ι1 v H1 p1 x1 s1 d1
 have h:=h.mono p1 x1
 simp only[Res.bind_ok]at h
 rw[hb]at h
 cases d with
 | int j =>
  simp only[one1_one,range1]at h
  split at h
  ·rename_i hj
   rw[lim_eq]at hj
   exact⟨j,int_of d1,by lia,by lia,hk j.toNat ι1 H1 μ1 Q s1 h⟩
  ·exact h.elim
 | _=>exact h.elim
theorem q_tupleRange (hmt:X.mg "tuple"=none) (hmr:X.mg "range"=none) (ha:PE X a (tE X.K φ xa)) (hgt:Gl X "tuple":=by rfl) (hgr:Gl X "range":=by rfl) (hc:X.calm=true:=by rfl)
  (hs:starEach [a] X.env=[(false,eval a X.env)]:=by rfl) (hs2:starEach [.Call (.Name "range" p2) [a] [] pos2] X.env=[(false,eval (.Call (.Name "range" p2) [a] [] pos2) X.env)]:=by rfl) :
  PE X (.Call (.Name "tuple" p) [.Call (.Name "range" p2) [a] [] pos2] [] pos) (tE X.K φ (.blt .tupleRange m (.cons xa .nil))):=by
 refine PE.imp (t:=tRng (tE X.K φ xa) fun n H Q=>∀q,H q=none→Q (.ref q) (upd H q (.tup ((List.range n).map fun(k:Nat)=>V.int k)))) ?_ fun σv H Q h=>rng_read (m:=m) (b:=.tupleRange) (fun _ _=>rfl) (fun n ι H μ Q hS h q hq=>tup_post hS (ints_range n) h hq) h
 intro pins s σ H Q I h
 refine wpAny_Call_Name_kw (ld_blt I hgt hmt PyProof.Rows.boot_tuple ?_ (by decide) (by decide))
 refine PyProof.Rows.callWith_type1 ?_ hs2 rfl
 rw[hs2]
 refine Calls.spliced_cons ?_
 refine wpAny_Call_Name_kw (ld_blt I hgr hmr PyProof.Rows.boot_range ?_ (by decide) (by decide))
 refine PyProof.Rows.callWith_type1 ?_ hs rfl
 rw[hs]
 refine Calls.spliced_cons (thn (ha pins s σ H _ I h) fun u s1 ⟨v,H1,I1,r1,j,ev,q1,q2,q⟩=>Calls.spliced_nil ?_)
 subst ev
 obtain⟨t,rfl⟩:=r1
 refine call_range_1 ?_
 refine Calls.spliced_nil ?_
 have e2:Builtin.Range.rangeSize 0 j 1=((j.toNat:Nat):Int):=by rw[rangeSize_one];split<;>lia
 refine call_tuple_range (n:=j.toNat) (I1.ok.hd hc) (IsRange.new ..) (small_one (by lia) (by lia) (by lia) (by lia)) e2 (by lia) fun h' tk acc hk hacc=>?_
 have hold:∀b o,s1.heap.get? b=some o→h'.get? b=some o:=fun b o e=>hk b o (Heap.get?_push_of_some _ e)
 have I2:Inv X pins σ H1 {s1 with heap:=h'}:=I1.kept (t':=s1.toks) hold
 refine⟨.ref h'.objs.size,_,I2.laid (a:=h'.objs.size) (t':=tk) (o:=.tup ((List.range j.toNat).map fun(k:Nat)=>V.int k)) (fun b o e=>Heap.get?_push_of_some _ e) (Nat.le_refl _) ?_,rfl,q _ (I2.hok.fresh (Nat.le_refl _))⟩
 exact⟨by simp;rw[sizeLine_eq];lia,acc.toList,items_range hacc,by simpa using IsTupD.new h' acc⟩
theorem q_listRange (hmt:X.mg "list"=none) (hmr:X.mg "range"=none) (ha:PE X a (tE X.K φ xa)) (hgt:Gl X "list":=by rfl) (hgr:Gl X "range":=by rfl) (hc:X.calm=true:=by rfl)
  (hs:starEach [a] X.env=[(false,eval a X.env)]:=by rfl) (hs2:starEach [.Call (.Name "range" p2) [a] [] pos2] X.env=[(false,eval (.Call (.Name "range" p2) [a] [] pos2) X.env)]:=by rfl) :
  PE X (.Call (.Name "list" p) [.Call (.Name "range" p2) [a] [] pos2] [] pos) (tE X.K φ (.blt .listRange m (.cons xa .nil))):=by
 refine PE.imp (t:=tRng (tE X.K φ xa) fun n H Q=>∀q,H q=none→FQ Q (.ref q) (upd H q (.lst ((List.range n).map fun(k:Nat)=>V.int k)))) ?_ fun σv H Q h=>rng_read (m:=m) (b:=.listRange) (fun _ _=>rfl) (fun n ι H μ Q hS h q hq=>mk_post hS (ints_range n) h hq) h
 intro pins s σ H Q I h
 refine wpAny_Call_Name_kw (ld_blt I hgt hmt PyProof.Rows.boot_list ?_ (by decide) (by decide))
 refine PyProof.Rows.callWith_type1 ?_ hs2 rfl
 rw[hs2]
 refine Calls.spliced_cons ?_
 refine wpAny_Call_Name_kw (ld_blt I hgr hmr PyProof.Rows.boot_range ?_ (by decide) (by decide))
 refine PyProof.Rows.callWith_type1 ?_ hs rfl
 rw[hs]
 refine Calls.spliced_cons (thn (ha pins s σ H _ I h) fun u s1 ⟨v,H1,I1,r1,j,ev,q1,q2,q⟩=>Calls.spliced_nil ?_)
 subst ev
 obtain⟨t,rfl⟩:=r1
 refine call_range_1 ?_
 refine Calls.spliced_nil ?_
 have e2:Builtin.Range.rangeSize 0 j 1=((j.toNat:Nat):Int):=by rw[rangeSize_one];split<;>lia
 refine EP_fq' (call_list_range (n:=j.toNat) (I1.ok.hd hc) (IsRange.new ..) (small_one (by lia) (by lia) (by lia) (by lia)) e2 (by lia) fun h' tk acc c' hk hD hacc=>?_)
 have hold:∀b o,s1.heap.get? b=some o→h'.get? b=some o:=fun b o e=>hk b o (Heap.get?_push_of_some _ e)
 refine⟨.ref _,_,I1.laid (t':=tk) (o:=.lst ((List.range j.toNat).map fun(k:Nat)=>V.int k)) hold ?_ ?_,rfl,q _ (I1.hok.fresh ?_)⟩
 ·show _≤(s1.heap.push _).objs.size
  rw[Heap.size_push];exact Nat.le_succ _
 ·exact⟨by simp;rw[sizeLine_eq];lia,acc.toList,c',items_range hacc,by rw[Array.toArray_toList];exact hD⟩
 ·show _≤(s1.heap.push _).objs.size
  rw[Heap.size_push];exact Nat.le_succ _
theorem set_ok (hu:X.A.units+64<cLine):PSet X (rSet X.K):=by
 intro pins s σ H o i v ov iv u Q I ro ri rv ⟨ι,a,b,d,μ,hS,ha,hb,hd,h⟩
 cases a with
 | loc n =>
  simp only[setD]at h
  cases em:μ[n]? with
  | none=>rw[em]at h;exact h.elim
  | some ob =>
   rw[em]at h
   obtain⟨q,rfl,hq⟩:∃q,o=.ref q∧ι[n]? = some q:=by simpa[IsD]using ha
   obtain⟨q',eq',hob⟩:=hS.at em
   rw[hq]at eq';cases eq'
   have lst:∀(ob:O) (xs:List D),itemsO ob=some xs→μ[n]? = some ob→OIs X.K ι H q ob→Post X.K (fun _ _ _ (_:Unit)=>True) ι H (match some xs,b with
     | some xs,.int i=>match ixN xs.length i with
      | some j=>if fits ob d=true then(putL n ob (xs.set j d) .non μ).bind fun _ μ=>.ok () μ else .stuck
      | none=>.stuck
     | _,_=>.stuck) (fun _ H'=>Q H')→wpAny (model X.prog X.w) X.A (setItem ov iv u) (fun _ s'=>∃H',Inv X pins σ H' s'∧Q H') X.xe s:=by
    intro ob xs ei em ho h
    cases b with
    | int k =>
     simp only at h
     split at h
     ·rename_i j ej
      split at h
      ·rename_i hf
       obtain⟨a',vs,ea,hι,hH,h1,h2⟩:=loc_at hS ha em ei
       cases ea
       cases int_of hb
       refine set_list pins s σ H _ _ v ov iv u Q I ro ri rv ⟨_,vs,k,j,rfl,rfl,hH,by rw[h1.length];exact ej,?_⟩
       have h':Post X.K (RD X.K) ι H (putL n ob (xs.set j d) .non μ) fun _ H'=>Q H':=by
        cases ob with
        | l _=>exact fun ι' v' H' p e s' _=>h ι' () H' p e s' trivial
        | r _=>exact fun ι' v' H' p e s' _=>h ι' () H' p e s' trivial
        | d _=>exact h.elim
        | dt _=>exact h.elim
        | dead=>exact h.elim
       exact put_post (v:=.non) hS hι hH (h1.set hd j) (fun es e=>(h2 es e).set (fits_pure hf hd es e) j) (by simp[IsD]) h'
      ·exact h.elim
     ·exact h.elim
    | _=>exact h.elim
   cases ob with
   | l xs=>exact lst (.l xs) xs rfl em hob h
   | r xs=>exact lst (.r xs) xs rfl em hob h
   | d kvs =>
    simp only at h
    split at h
    ·rename_i hc
     obtain⟨hk,hv,hl⟩:=hc
     obtain⟨xs,hH,hkv⟩:=hob
     obtain⟨k,rfl,rfl⟩:=key_of' hk hb
     cases(show ov=Value.ref q from ro)
     have hlen:xs.length=kvs.length:=(Paired.length hkv).symm
     refine d_setItem (by lia) I (DPut.k (k:=k) (v:=v) hH (by rw[hlen,←lim_line];exact hl)) ri rv fun s' I'=>⟨_,I',?_⟩
     exact h ι () _ (List.prefix_refl _) (.dK hH) (hS.put hq (.dK hH) ⟨_,upd_same,Paired.mapP (dput_put (IsD.pur hv hd) hkv) fun p r z=>⟨IsD.mono (List.prefix_refl _) (.dK hH) _ _ z.1,IsD.mono (List.prefix_refl _) (.dK hH) _ _ z.2⟩⟩) trivial
    ·exact h.elim
   | dt kvs=>simp only[itemsO]at h;exact h.elim
   | dead=>simp only[itemsO]at h;exact h.elim
 | _=>exact h.elim
theorem q_setx (hu:X.A.units+64<cLine) {o i e:Expr} {xo xi x:Ex} {tp:Pos} (ho:PE X o (tE X.K φ xo)) (hi:PE X i (tE X.K φ xi)) (he:PE X e (tE X.K φ x))
  (ha:∀v,assign (.Subscript o i tp) X.env v=(do
   let ov ←holding [v] (eval o X.env)
   let iv ←holding [v,ov] (eval i X.env)
   standAt tp
   holding [v,ov,iv] (setItem ov iv v)
   release [v,ov,iv] []):=by intro _;rfl) (hs:swapsWithSole [.Subscript o i tp] e pos.line X.env=pure false:=by rfl) (hw:swappedStores [.Subscript o i tp] e X.env=pure none:=by rfl)
  (h1:(assignEach [.Subscript o i tp] X.env).map (·.2)=[assign (.Subscript o i tp) X.env]:=by rfl):PS X (.Assign [.Subscript o i tp] e pos) (tS X.K φ (.setx xo xi x)):=k_setx (set_ok hu) ho hi he ha hs hw h1
end
end Lp
namespace Lp.Sets
open PySem PySem.W PyProof.Rows PySem.Calls
theorem ints_snoc {n:Int} {t:Tok}:∀{vs:List Value} {ns:List Int},IntsAre vs ns→IntsAre (vs++[.int n t]) (ns++[n])
 | _,_,.nil=>.cons n t .nil
 | _,_,.cons m u r=>.cons m u (ints_snoc r)
end Lp.Sets
namespace Lp.Sets
open PySem PySem.W PyProof.Rows PySem.Calls
noncomputable def intOf:Value→Int
 | .int n _=>n
 | _=>0
theorem ints_of:∀{vs:List Value} {ns:List Int},IntsAre vs ns→ns=vs.map intOf∧∀v∈vs,∃n t,v=.int n t
 | _,_,.nil=>⟨rfl,fun v h=>by simp at h⟩
 | _,_,.cons n t r=>by
  obtain⟨e,h⟩:=ints_of r
  refine⟨by rw[List.map_cons,←e];rfl,fun v hv=>?_⟩
  rcases List.mem_cons.mp hv with rfl | hv
  ·exact⟨n,t,rfl⟩
  ·exact h v hv
end Lp.Sets
namespace Lp
open PySem PySem.Spec PyProof.Rows L2
namespace Sets
theorem vals_ints:∀{ns:List Int} {us:List Value},Vals (ns.map V.int) us→IntsAre us ns
 | [],[],_=>.nil
 | n::r,u::us,h=>by
  cases h with
  | cons h1 h2 =>
   obtain⟨t,rfl⟩:=h1
   exact .cons n t (vals_ints h2)
 | [],u::us,h=>by cases h
 | n::r,[],h=>by cases h
end Sets
end Lp
namespace Lp
open PySem
noncomputable abbrev i_law_next:Nat:=3
noncomputable abbrev i_law_turn:Nat:=4
noncomputable abbrev i_law_size:Nat:=5
noncomputable abbrev i_law_whole:Nat:=6
noncomputable abbrev i_law_lamp:Nat:=7
noncomputable abbrev i_law_day:Nat:=8
noncomputable abbrev i_law_book:Nat:=9
noncomputable abbrev i_law_all_whole:Nat:=17
noncomputable abbrev i_law_same_book:Nat:=18
noncomputable abbrev i_replaced:Nat:=21
noncomputable abbrev i_lamp_cut_to:Nat:=22
noncomputable abbrev i_cut_to:Nat:=23
noncomputable abbrev i_left_out:Nat:=24
noncomputable abbrev i_boat_of:Nat:=25
noncomputable abbrev i_with_boat:Nat:=26
noncomputable abbrev i_boat_moved:Nat:=27
noncomputable abbrev i_with_store:Nat:=28
noncomputable abbrev i_with_oil:Nat:=29
noncomputable abbrev i_law_cut:Nat:=30
noncomputable abbrev i_law_spared:Nat:=31
noncomputable abbrev i_law_moved:Nat:=32
noncomputable abbrev i_law_k04:Nat:=33
noncomputable abbrev i_with_day_part:Nat:=160
noncomputable def D_law_next:Df:=⟨1,1,(.cons (.ite (.cmp (.blt .len .z (.cons (.var 0) .nil)) (.cons .gt (.cst (.int 0)) .nil)) (.cons (.ret (.meth .pop (.var 0) .nil)) .nil) .nil) (.cons (.ret (.cst (.int 0))) .nil))⟩
noncomputable def D_law_turn:Df:=⟨1,2,(.cons (.set 1 (.bin .Mod .z (.bin .Mult .z (.bin .Add .z (.bin .Mod .z (.var 0) (.bin .Pow .z (.cst (.int 10)) (.cst (.int 60)))) (.cst (.int 1))) (.cst (.int 69621))) (.cst (.int 2147483647)))) (.cons (.ret (.bin .FloorDiv .z (.bin .Mod .z (.bin .Mult .z (.var 1) (.var 1)) (.cst (.int 1000000007))) (.cst (.int 7)))) .nil))⟩
noncomputable def D_law_size:Df:=⟨2,3,(.cons (.set 2 (.call false i_law_turn (.cons (.var 0) .nil))) (.cons (.ite (.cmp (.bin .Mod .z (.var 2) (.cst (.int 8))) (.cons .lt (.cst (.int 6)) .nil)) (.cons (.ret (.blt .min .z (.cons (.var 1) (.cons (.bin .Mod .z (.bin .FloorDiv .z (.var 2) (.cst (.int 8))) (.cst (.int 13))) .nil)))) .nil) .nil) (.cons (.ite (.cmp (.bin .Mod .z (.var 2) (.cst (.int 8))) (.cons .eq (.cst (.int 6)) .nil)) (.cons (.ret (.bin .Sub .z (.var 1) (.bin .Mod .z (.bin .FloorDiv .z (.var 2) (.cst (.int 8))) (.cst (.int 2))))) .nil) .nil) (.cons (.ret (.bin .Mod .z (.var 0) (.bin .Add .z (.var 1) (.cst (.int 1))))) .nil))))⟩
noncomputable def D_law_whole:Df:=⟨1,1,(.cons (.ret (.and (.isi (.var 0) .int) (.not (.isi (.var 0) .bool)))) .nil)⟩
noncomputable def D_law_lamp_z1:Exs:=(.cons (.cmp (.bin .Mod .z (.bin .RShift .z (.var 0) (.bin .Add .z (.var 1) (.cst (.int 1)))) (.cst (.int 2))) (.cons .eq (.cst (.int 1)) .nil)) .nil)
noncomputable def D_law_lamp_y1:Ex:=(.var 1)
noncomputable def D_law_lamp:Df:=⟨2,6,(.cons (.set 2 (.call false i_law_size (.cons (.call false i_law_next (.cons (.var 0) .nil)) (.cons (.bin .Pow .z (.cst (.int 10)) (.cst (.int 30))) .nil)))) (.cons (.set 3 (.blt .min .z (.cons (.var 2) (.cons (.call false i_law_size (.cons (.call false i_law_next (.cons (.var 0) .nil)) (.cons (.bin .Pow .z (.cst (.int 10)) (.cst (.int 30))) .nil))) .nil)))) (.cons (.set 4 (.call false i_law_turn (.cons (.call false i_law_next (.cons (.var 0) .nil)) .nil))) (.cons (.set 5 (.tup .nil)) (.cons (.ite (.cmp (.bin .Mod .z (.var 4) (.cst (.int 2))) (.cons .eq (.cst (.int 1)) .nil)) (.cons (.set 5 (.blt .tuple .z (.cons (.comp .z [4] 1 (.one 1) (.rng (.var 1)) D_law_lamp_z1 D_law_lamp_y1) .nil))) .nil) .nil) (.cons (.ret (.tup (.cons (.var 2) (.cons (.var 3) (.cons (.var 5) .nil))))) .nil))))))⟩
noncomputable def D_law_day:Df:=⟨2,6,(.cons (.set 2 (.call false i_law_size (.cons (.call false i_law_next (.cons (.var 0) .nil)) (.cons (.bin .Pow .z (.cst (.int 10)) (.cst (.int 30))) .nil)))) (.cons (.set 3 (.call false i_law_size (.cons (.call false i_law_next (.cons (.var 0) .nil)) (.cons (.bin .Pow .z (.cst (.int 10)) (.cst (.int 30))) .nil)))) (.cons (.set 4 (.call false i_law_size (.cons (.call false i_law_next (.cons (.var 0) .nil)) (.cons (.bin .Pow .z (.cst (.int 10)) (.cst (.int 15))) .nil)))) (.cons (.set 5 (.blt .max .z (.cons (.cst (.int 1)) (.cons (.call false i_law_size (.cons (.call false i_law_next (.cons (.var 0) .nil)) (.cons (.bin .Pow .z (.cst (.int 10)) (.cst (.int 15))) .nil))) .nil)))) (.cons (.ret (.tup (.cons (.var 2) (.cons (.var 3) (.cons (.var 4) (.cons (.var 5) (.cons (.bin .Mod .z (.call false i_law_turn (.cons (.call false i_law_next (.cons (.var 0) .nil)) .nil)) (.bin .Add .z (.var 1) (.cst (.int 1)))) .nil))))))) .nil)))))⟩
noncomputable def D_law_book_y1:Ex:=(.call false i_law_lamp (.cons (.var 0) (.cons (.var 1) .nil)))
noncomputable def D_law_book_y2:Ex:=(.call false i_law_day (.cons (.var 0) (.cons (.var 1) .nil)))
noncomputable def D_law_book:Df:=⟨1,7,(.cons (.set 1 (.call false i_law_turn (.cons (.call false i_law_next (.cons (.var 0) .nil)) .nil))) (.cons (.set 2 (.bin .Add .z (.cst (.int 1)) (.bin .Mod .z (.var 1) (.cst (.int 3))))) (.cons (.set 3 (.bin .Add .z (.cst (.int 1)) (.bin .Mod .z (.bin .FloorDiv .z (.var 1) (.cst (.int 3))) (.cst (.int 4))))) (.cons (.ite (.cmp (.bin .Mod .z (.bin .FloorDiv .z (.var 1) (.cst (.int 12))) (.cst (.int 5))) (.cons .eq (.cst (.int 1)) .nil)) (.cons (.set 2 (.bin .Add .z (.cst (.int 1)) (.bin .Mod .z (.bin .FloorDiv .z (.var 1) (.cst (.int 60))) (.cst (.int 8))))) (.cons (.set 3 (.bin .Add .z (.cst (.int 1)) (.bin .Mod .z (.bin .FloorDiv .z (.var 1) (.cst (.int 480))) (.cst (.int 16))))) .nil)) .nil) (.cons (.set 4 (.call false i_law_size (.cons (.call false i_law_next (.cons (.var 0) .nil)) (.cons (.bin .Pow .z (.cst (.int 10)) (.cst (.int 30))) .nil)))) (.cons (.set 5 (.call false i_law_size (.cons (.call false i_law_next (.cons (.var 0) .nil)) (.cons (.bin .Pow .z (.cst (.int 10)) (.cst (.int 30))) .nil)))) (.cons (.set 6 (.comp .z [0,3] 1 (.one 2) (.rng (.var 2)) .nil D_law_book_y1)) (.cons (.ret (.tup (.cons (.var 4) (.cons (.var 5) (.cons (.blt .tuple .z (.cons (.var 6) .nil)) (.cons (.blt .tuple .z (.cons (.comp .z [0,2] 1 (.one 2) (.rng (.var 3)) .nil D_law_book_y2) .nil)) .nil)))))) .nil))))))))⟩
noncomputable def D_law_all_whole_z1:Exs:=(.cons (.not (.call false i_law_whole (.cons (.var 0) .nil))) .nil)
noncomputable def D_law_all_whole_y1:Ex:=(.var 0)
noncomputable def D_law_all_whole:Df:=⟨1,1,(.cons (.ret (.cmp (.blt .len .z (.cons (.comp .z [] 1 (.one 0) (.seq (.var 0)) D_law_all_whole_z1 D_law_all_whole_y1) .nil)) (.cons .eq (.cst (.int 0)) .nil))) .nil)⟩
noncomputable def D_law_same_book_b1:Sms:=(.cons (.ite (.or (.not (.isi (.var 2) .tuple)) (.or (.not (.call false i_law_all_whole (.cons (.sl .z (.var 2) .no (.so (.cst (.int 2)))) .nil))) (.not (.isi (.ix (.var 2) (.cst (.int 2))) .tuple)))) (.cons (.ret (.cst (.bl false))) .nil) .nil) (.cons (.ite (.not (.call false i_law_all_whole (.cons (.ix (.var 2) (.cst (.int 2))) .nil))) (.cons (.ret (.cst (.bl false))) .nil) .nil) .nil))
noncomputable def D_law_same_book_z1:Exs:=(.cons (.or (.not (.isi (.var 0) .tuple)) (.not (.call false i_law_all_whole (.cons (.var 0) .nil)))) .nil)
noncomputable def D_law_same_book_y1:Ex:=(.var 0)
noncomputable def D_law_same_book:Df:=⟨2,3,(.cons (.ite (.or (.not (.isi (.var 0) .tuple)) (.or (.cmp (.blt .len .z (.cons (.var 0) .nil)) (.cons .ne (.cst (.int 4)) .nil)) (.or (.cmp (.var 0) (.cons .ne (.var 1) .nil)) (.not (.call false i_law_all_whole (.cons (.sl .z (.var 0) .no (.so (.cst (.int 2)))) .nil)))))) (.cons (.ret (.cst (.bl false))) .nil) .nil) (.cons (.ite (.or (.not (.isi (.ix (.var 0) (.cst (.int 2))) .tuple)) (.not (.isi (.ix (.var 0) (.cst (.int 3))) .tuple))) (.cons (.ret (.cst (.bl false))) .nil) .nil) (.cons (.loop (.one 2) (.seq (.ix (.var 0) (.cst (.int 2)))) D_law_same_book_b1) (.cons (.ret (.cmp (.blt .len .z (.cons (.comp .z [] 1 (.one 0) (.seq (.ix (.var 0) (.cst (.int 3)))) D_law_same_book_z1 D_law_same_book_y1) .nil)) (.cons .eq (.cst (.int 0)) .nil))) .nil))))⟩
noncomputable def D_replaced:Df:=⟨3,3,(.cons (.ret (.bin .Add .z (.bin .Add .z (.sl .z (.var 0) .no (.so (.var 1))) (.tup (.cons (.var 2) .nil))) (.sl .z (.var 0) (.so (.bin .Add .z (.var 1) (.cst (.int 1)))) .no))) .nil)⟩
noncomputable def D_lamp_cut_to_z1:Exs:=(.cons (.cmp (.var 1) (.cons .lt (.var 0) .nil)) .nil)
noncomputable def D_lamp_cut_to_y1:Ex:=(.var 1)
noncomputable def D_lamp_cut_to:Df:=⟨2,5,(.cons (.unp [2,3,4] (.var 0)) (.cons (.ret (.tup (.cons (.var 2) (.cons (.var 3) (.cons (.blt .tuple .z (.cons (.comp .z [1] 1 (.one 1) (.seq (.var 4)) D_lamp_cut_to_z1 D_lamp_cut_to_y1) .nil)) .nil))))) .nil))⟩
noncomputable def D_cut_to_y1:Ex:=(.call false i_lamp_cut_to (.cons (.var 1) (.cons (.var 0) .nil)))
noncomputable def D_cut_to:Df:=⟨2,6,(.cons (.unp [2,3,4,5] (.var 0)) (.cons (.ret (.tup (.cons (.var 2) (.cons (.var 3) (.cons (.blt .tuple .z (.cons (.comp .z [1] 1 (.one 1) (.seq (.var 4)) .nil D_cut_to_y1) .nil)) (.cons (.sl .z (.var 5) .no (.so (.var 1))) .nil)))))) .nil))⟩
noncomputable def D_left_out:Df:=⟨2,10,(.cons (.unp [2,3,4,5] (.var 0)) (.cons (.unp [6,7,8] (.ix (.var 4) (.var 1))) (.cons (.set 9 (.tup (.cons (.var 6) (.cons (.var 7) (.cons (.blt .tupleRange .z (.cons (.blt .len .z (.cons (.var 5) .nil)) .nil)) .nil))))) (.cons (.ret (.tup (.cons (.var 2) (.cons (.var 3) (.cons (.call false i_replaced (.cons (.var 4) (.cons (.var 1) (.cons (.var 9) .nil)))) (.cons (.var 5) .nil)))))) .nil))))⟩
noncomputable def D_boat_of:Df:=⟨2,7,(.cons (.unp [2,3,4,5,6] (.ix (.ix (.var 0) (.cst (.int 3))) (.var 1))) (.cons (.ret (.var 2)) .nil))⟩
noncomputable def D_with_boat:Df:=⟨3,3,(.cons (.ret (.call false i_with_day_part (.cons (.var 0) (.cons (.var 1) (.cons (.cst (.int 0)) (.cons (.var 2) .nil)))))) .nil)⟩
noncomputable def D_boat_moved:Df:=⟨3,4,(.cons (.set 3 (.call false i_with_boat (.cons (.var 0) (.cons (.var 1) (.cons (.cst (.int 0)) .nil))))) (.cons (.ret (.call false i_with_boat (.cons (.var 3) (.cons (.var 2) (.cons (.bin .Add .z (.call false i_boat_of (.cons (.var 3) (.cons (.var 2) .nil))) (.call false i_boat_of (.cons (.var 0) (.cons (.var 1) .nil)))) .nil))))) .nil))⟩
noncomputable def D_with_store:Df:=⟨2,2,(.cons (.ret (.bin .Add .z (.tup (.cons (.var 1) .nil)) (.sl .z (.var 0) (.so (.cst (.int 1))) .no))) .nil)⟩
noncomputable def D_with_oil:Df:=⟨2,2,(.cons (.ret (.call false i_replaced (.cons (.var 0) (.cons (.cst (.int 1)) (.cons (.var 1) .nil))))) .nil)⟩
noncomputable def D_law_cut_b1:Sms:=(.cons (.ite (.cmp (.var 5) (.cons .lt (.var 1) .nil)) (.cons (.set 4 (.bin .Add .z (.var 4) (.tup (.cons (.var 5) .nil)))) .nil) .nil) .nil)
noncomputable def D_law_cut_b2:Sms:=(.cons (.set 4 (.tup .nil)) (.cons (.loop (.one 5) (.seq (.ix (.var 3) (.cst (.int 2)))) D_law_cut_b1) (.cons (.ex (.meth .append (.var 2) (.cons (.tup (.cons (.ix (.var 3) (.cst (.int 0))) (.cons (.ix (.var 3) (.cst (.int 1))) (.cons (.var 4) .nil)))) .nil))) .nil)))
noncomputable def D_law_cut:Df:=⟨2,6,(.cons (.set 2 (.lst .l .nil)) (.cons (.loop (.one 3) (.seq (.ix (.var 0) (.cst (.int 2)))) D_law_cut_b2) (.cons (.ret (.tup (.cons (.ix (.var 0) (.cst (.int 0))) (.cons (.ix (.var 0) (.cst (.int 1))) (.cons (.blt .tuple .z (.cons (.var 2) .nil)) (.cons (.sl .z (.ix (.var 0) (.cst (.int 3))) .no (.so (.var 1))) .nil)))))) .nil)))⟩
noncomputable def D_law_spared_b1:Sms:=(.cons (.set 4 (.ix (.ix (.ix (.var 0) (.cst (.int 2))) (.var 3)) (.cst (.int 2)))) (.cons (.ite (.cmp (.var 3) (.cons .eq (.var 1) .nil)) (.cons (.set 4 (.blt .tuple .z (.cons (.blt .listRange .z (.cons (.blt .len .z (.cons (.ix (.var 0) (.cst (.int 3))) .nil)) .nil)) .nil))) .nil) .nil) (.cons (.ex (.meth .append (.var 2) (.cons (.tup (.cons (.ix (.ix (.ix (.var 0) (.cst (.int 2))) (.var 3)) (.cst (.int 0))) (.cons (.ix (.ix (.ix (.var 0) (.cst (.int 2))) (.var 3)) (.cst (.int 1))) (.cons (.var 4) .nil)))) .nil))) .nil)))
noncomputable def D_law_spared:Df:=⟨2,5,(.cons (.set 2 (.lst .l .nil)) (.cons (.loop (.one 3) (.rng (.blt .len .z (.cons (.ix (.var 0) (.cst (.int 2))) .nil))) D_law_spared_b1) (.cons (.ret (.tup (.cons (.ix (.var 0) (.cst (.int 0))) (.cons (.ix (.var 0) (.cst (.int 1))) (.cons (.blt .tuple .z (.cons (.var 2) .nil)) (.cons (.ix (.var 0) (.cst (.int 3))) .nil)))))) .nil)))⟩
noncomputable def D_law_moved_y1:Ex:=(.ix (.var 0) (.cst (.int 0)))
noncomputable def D_law_moved_y2:Ex:=(.bin .Add .z (.tup (.cons (.ix (.var 0) (.var 2)) .nil)) (.sl .z (.ix (.ix (.var 1) (.cst (.int 3))) (.var 2)) (.so (.cst (.int 1))) .no))
noncomputable def D_law_moved:Df:=⟨3,5,(.cons (.set 3 (.comp .l [] 1 (.one 0) (.seq (.ix (.var 0) (.cst (.int 3)))) .nil D_law_moved_y1)) (.cons (.setx (.var 3) (.var 2) (.bin .Add .z (.ix (.var 3) (.var 2)) (.ix (.var 3) (.var 1)))) (.cons (.setx (.var 3) (.var 1) (.bin .Sub .z (.ix (.var 3) (.var 1)) (.ix (.ix (.ix (.var 0) (.cst (.int 3))) (.var 1)) (.cst (.int 0))))) (.cons (.set 4 (.comp .z [3,0] 1 (.one 2) (.rng (.blt .len .z (.cons (.var 3) .nil))) .nil D_law_moved_y2)) (.cons (.ret (.tup (.cons (.ix (.var 0) (.cst (.int 0))) (.cons (.ix (.var 0) (.cst (.int 1))) (.cons (.ix (.var 0) (.cst (.int 2))) (.cons (.blt .tuple .z (.cons (.var 4) .nil)) .nil)))))) .nil)))))⟩
noncomputable def D_law_k04_b1:Sms:=(.cons (.set 4 (.bin .Add .z (.cst (.int 1)) (.bin .Mod .z (.call false i_law_turn (.cons (.call false i_law_next (.cons (.var 1) .nil)) .nil)) (.blt .len .z (.cons (.ix (.var 2) (.cst (.int 3))) .nil))))) (.cons (.set 5 (.bin .Mod .z (.call false i_law_turn (.cons (.call false i_law_next (.cons (.var 1) .nil)) .nil)) (.blt .len .z (.cons (.ix (.var 2) (.cst (.int 2))) .nil)))) (.cons (.set 6 (.bin .Mod .z (.call false i_law_turn (.cons (.call false i_law_next (.cons (.var 1) .nil)) .nil)) (.blt .len .z (.cons (.ix (.var 2) (.cst (.int 3))) .nil)))) (.cons (.set 7 (.bin .Mod .z (.call false i_law_turn (.cons (.call false i_law_next (.cons (.var 1) .nil)) .nil)) (.blt .len .z (.cons (.ix (.var 2) (.cst (.int 3))) .nil)))) (.cons (.set 8 (.call false i_law_size (.cons (.call false i_law_next (.cons (.var 1) .nil)) (.cons (.bin .Pow .z (.cst (.int 10)) (.cst (.int 30))) .nil)))) (.cons (.ite (.not (.call false i_law_same_book (.cons (.call false i_cut_to (.cons (.var 2) (.cons (.var 4) .nil))) (.cons (.call false i_law_cut (.cons (.var 2) (.cons (.var 4) .nil))) .nil)))) (.cons (.ret (.cst (.bl false))) .nil) .nil) (.cons (.ite (.not (.call false i_law_same_book (.cons (.call false i_left_out (.cons (.var 2) (.cons (.var 5) .nil))) (.cons (.call false i_law_spared (.cons (.var 2) (.cons (.var 5) .nil))) .nil)))) (.cons (.ret (.cst (.bl false))) .nil) .nil) (.cons (.ite (.cmp (.bin .Add .z (.ix (.ix (.ix (.var 2) (.cst (.int 3))) (.var 6)) (.cst (.int 0))) (.ix (.ix (.ix (.var 2) (.cst (.int 3))) (.var 7)) (.cst (.int 0)))) (.cons .le (.bin .Pow .z (.cst (.int 10)) (.cst (.int 30))) .nil)) (.cons (.ite (.not (.call false i_law_same_book (.cons (.call false i_boat_moved (.cons (.var 2) (.cons (.var 6) (.cons (.var 7) .nil)))) (.cons (.call false i_law_moved (.cons (.var 2) (.cons (.var 6) (.cons (.var 7) .nil)))) .nil)))) (.cons (.ret (.cst (.bl false))) .nil) .nil) .nil) .nil) (.cons (.ite (.not (.call false i_law_same_book (.cons (.call false i_with_store (.cons (.var 2) (.cons (.var 8) .nil))) (.cons (.tup (.cons (.var 8) (.cons (.ix (.var 2) (.cst (.int 1))) (.cons (.ix (.var 2) (.cst (.int 2))) (.cons (.ix (.var 2) (.cst (.int 3))) .nil))))) .nil)))) (.cons (.ret (.cst (.bl false))) .nil) .nil) (.cons (.ite (.not (.call false i_law_same_book (.cons (.call false i_with_oil (.cons (.var 2) (.cons (.var 8) .nil))) (.cons (.tup (.cons (.ix (.var 2) (.cst (.int 0))) (.cons (.var 8) (.cons (.ix (.var 2) (.cst (.int 2))) (.cons (.ix (.var 2) (.cst (.int 3))) .nil))))) .nil)))) (.cons (.ret (.cst (.bl false))) .nil) .nil) .nil))))))))))
noncomputable def D_law_k04:Df:=⟨1,9,(.cons (.set 1 (.blt .listRev .l (.cons (.var 0) .nil))) (.cons (.set 2 (.call false i_law_book (.cons (.var 1) .nil))) (.cons (.loop (.one 3) (.rng (.cst (.int 3))) D_law_k04_b1) (.cons (.ret (.cst (.bl true))) .nil))))⟩
noncomputable def D_with_day_part:Df:=⟨4,8,(.cons (.unp [4,5,6,7] (.var 0)) (.cons (.ret (.tup (.cons (.var 4) (.cons (.var 5) (.cons (.var 6) (.cons (.call false i_replaced (.cons (.var 7) (.cons (.var 1) (.cons (.call false i_replaced (.cons (.ix (.var 7) (.var 1)) (.cons (.var 2) (.cons (.var 3) .nil)))) .nil)))) .nil)))))) .nil))⟩
noncomputable def GL:List Df:=[⟨0,0,.nil⟩,⟨0,0,.nil⟩,⟨0,0,.nil⟩,D_law_next,D_law_turn,D_law_size,D_law_whole,D_law_lamp,D_law_day,D_law_book,⟨0,0,.nil⟩,⟨0,0,.nil⟩,⟨0,0,.nil⟩,⟨0,0,.nil⟩,⟨0,0,.nil⟩,⟨0,0,.nil⟩,⟨0,0,.nil⟩,D_law_all_whole,D_law_same_book,⟨0,0,.nil⟩,⟨0,0,.nil⟩,D_replaced,D_lamp_cut_to,D_cut_to,D_left_out,D_boat_of,D_with_boat,D_boat_moved,D_with_store,D_with_oil,D_law_cut,D_law_spared,D_law_moved,D_law_k04,⟨0,0,.nil⟩,⟨0,0,.nil⟩,⟨0,0,.nil⟩,⟨0,0,.nil⟩,⟨0,0,.nil⟩,⟨0,0,.nil⟩,⟨0,0,.nil⟩,⟨0,0,.nil⟩,⟨0,0,.nil⟩,⟨0,0,.nil⟩,⟨0,0,.nil⟩,⟨0,0,.nil⟩,⟨0,0,.nil⟩,⟨0,0,.nil⟩,⟨0,0,.nil⟩,⟨0,0,.nil⟩,⟨0,0,.nil⟩,⟨0,0,.nil⟩,⟨0,0,.nil⟩,⟨0,0,.nil⟩,⟨0,0,.nil⟩,⟨0,0,.nil⟩,⟨0,0,.nil⟩,⟨0,0,.nil⟩,⟨0,0,.nil⟩,⟨0,0,.nil⟩,⟨0,0,.nil⟩,⟨0,0,.nil⟩,⟨0,0,.nil⟩,⟨0,0,.nil⟩,⟨0,0,.nil⟩,⟨0,0,.nil⟩,⟨0,0,.nil⟩,⟨0,0,.nil⟩,⟨0,0,.nil⟩,⟨0,0,.nil⟩,⟨0,0,.nil⟩,⟨0,0,.nil⟩,⟨0,0,.nil⟩,⟨0,0,.nil⟩,⟨0,0,.nil⟩,⟨0,0,.nil⟩,⟨0,0,.nil⟩,⟨0,0,.nil⟩,⟨0,0,.nil⟩,⟨0,0,.nil⟩,⟨0,0,.nil⟩,⟨0,0,.nil⟩,⟨0,0,.nil⟩,⟨0,0,.nil⟩,⟨0,0,.nil⟩,⟨0,0,.nil⟩,⟨0,0,.nil⟩,⟨0,0,.nil⟩,⟨0,0,.nil⟩,⟨0,0,.nil⟩,⟨0,0,.nil⟩,⟨0,0,.nil⟩,⟨0,0,.nil⟩,⟨0,0,.nil⟩,⟨0,0,.nil⟩,⟨0,0,.nil⟩,⟨0,0,.nil⟩,⟨0,0,.nil⟩,⟨0,0,.nil⟩,⟨0,0,.nil⟩,⟨0,0,.nil⟩,⟨0,0,.nil⟩,⟨0,0,.nil⟩,⟨0,0,.nil⟩,⟨0,0,.nil⟩,⟨0,0,.nil⟩,⟨0,0,.nil⟩,⟨0,0,.nil⟩,⟨0,0,.nil⟩,⟨0,0,.nil⟩,⟨0,0,.nil⟩,⟨0,0,.nil⟩,⟨0,0,.nil⟩,⟨0,0,.nil⟩,⟨0,0,.nil⟩,⟨0,0,.nil⟩,⟨0,0,.nil⟩,⟨0,0,.nil⟩,⟨0,0,.nil⟩,⟨0,0,.nil⟩,⟨0,0,.nil⟩,⟨0,0,.nil⟩,⟨0,0,.nil⟩,⟨0,0,.nil⟩,⟨0,0,.nil⟩,⟨0,0,.nil⟩,⟨0,0,.nil⟩,⟨0,0,.nil⟩,⟨0,0,.nil⟩,⟨0,0,.nil⟩,⟨0,0,.nil⟩,⟨0,0,.nil⟩,⟨0,0,.nil⟩,⟨0,0,.nil⟩,⟨0,0,.nil⟩,⟨0,0,.nil⟩,⟨0,0,.nil⟩,⟨0,0,.nil⟩,⟨0,0,.nil⟩,⟨0,0,.nil⟩,⟨0,0,.nil⟩,⟨0,0,.nil⟩,⟨0,0,.nil⟩,⟨0,0,.nil⟩,⟨0,0,.nil⟩,⟨0,0,.nil⟩,⟨0,0,.nil⟩,⟨0,0,.nil⟩,⟨0,0,.nil⟩,⟨0,0,.nil⟩,⟨0,0,.nil⟩,⟨0,0,.nil⟩,⟨0,0,.nil⟩,⟨0,0,.nil⟩,⟨0,0,.nil⟩,⟨0,0,.nil⟩,⟨0,0,.nil⟩,⟨0,0,.nil⟩,⟨0,0,.nil⟩,⟨0,0,.nil⟩,D_with_day_part,⟨0,0,.nil⟩,⟨0,0,.nil⟩,⟨0,0,.nil⟩,⟨0,0,.nil⟩,⟨0,0,.nil⟩,⟨0,0,.nil⟩]
theorem G_law_next:GL[i_law_next]? = some D_law_next:=rfl
theorem G_law_turn:GL[i_law_turn]? = some D_law_turn:=rfl
theorem G_law_size:GL[i_law_size]? = some D_law_size:=rfl
theorem G_law_whole:GL[i_law_whole]? = some D_law_whole:=rfl
theorem G_law_lamp:GL[i_law_lamp]? = some D_law_lamp:=rfl
theorem G_law_day:GL[i_law_day]? = some D_law_day:=rfl
theorem G_law_book:GL[i_law_book]? = some D_law_book:=rfl
theorem G_law_all_whole:GL[i_law_all_whole]? = some D_law_all_whole:=rfl
theorem G_law_same_book:GL[i_law_same_book]? = some D_law_same_book:=rfl
theorem G_replaced:GL[i_replaced]? = some D_replaced:=rfl
theorem G_lamp_cut_to:GL[i_lamp_cut_to]? = some D_lamp_cut_to:=rfl
theorem G_cut_to:GL[i_cut_to]? = some D_cut_to:=rfl
theorem G_left_out:GL[i_left_out]? = some D_left_out:=rfl
theorem G_boat_of:GL[i_boat_of]? = some D_boat_of:=rfl
theorem G_with_boat:GL[i_with_boat]? = some D_with_boat:=rfl
theorem G_boat_moved:GL[i_boat_moved]? = some D_boat_moved:=rfl
theorem G_with_store:GL[i_with_store]? = some D_with_store:=rfl
theorem G_with_oil:GL[i_with_oil]? = some D_with_oil:=rfl
theorem G_law_cut:GL[i_law_cut]? = some D_law_cut:=rfl
theorem G_law_spared:GL[i_law_spared]? = some D_law_spared:=rfl
theorem G_law_moved:GL[i_law_moved]? = some D_law_moved:=rfl
theorem G_law_k04:GL[i_law_k04]? = some D_law_k04:=rfl
theorem G_with_day_part:GL[i_with_day_part]? = some D_with_day_part:=rfl
end Lp
namespace Lr
open Lp
open PySem
theorem loopR_ok {f:D→Sl→Sto→Res Fl} (I:Nat→Sl→Sto→Prop):∀{ds:List D} {σ:Sl} {μ:Sto} (k:Nat),I k σ μ →
  (∀(j:Nat) d σ μ,ds[j]? = some d→I (k+j) σ μ→∃σ' μ',f d σ μ=.ok (.nx σ') μ'∧I (k+j+1) σ' μ') →
  ∃σ' μ',loopR none f ds σ μ=.ok (.nx σ') μ'∧I (k+ds.length) σ' μ'
 | [],σ,μ,k,h,_=>⟨σ,μ,by simp[loopR],h⟩
 | d::ds,σ,μ,k,h,st=>by
  obtain⟨σ1,μ1,e1,h1⟩:=st 0 d σ μ rfl h
  obtain⟨σ2,μ2,e2,h2⟩:=loopR_ok I (ds:=ds) (σ:=σ1) (μ:=μ1) (k+1) h1 fun j d σ μ e i=>by
   obtain⟨σ',μ',a,b⟩:=st (j+1) d σ μ (by simpa using e) (by rw[show k+(j+1)=k+1+j by omega];exact i)
   exact⟨σ',μ',a,by rw[show k+1+j+1=k+(j+1)+1 by omega];exact b⟩
  refine⟨σ2,μ2,?_,by rw[show k+(d::ds).length=k+1+ds.length by simp;omega];exact h2⟩
  simp only[loopR,gd_none,if_true,e1,Res.bind_ok,e2]
theorem callN_succ {T:List Df} {n i:Nat} {d:Df} {ds:List D} {μ:Sto} (h:T[i]? = some d):callN T (n+1) i ds μ=runD (callN T n) d ds μ:=by
 simp only[callN,h]
noncomputable def finD (fl:Fl) (μ:Sto):Res D:=match fl with
 | .nx _=>.ok .non μ
 | .rt d=>.ok d μ
 | _=>.stuck
@[simp] theorem finD_rt (d:D) (μ:Sto):finD (.rt d) μ=.ok d μ:=rfl
@[simp] theorem finD_nx (σ:Sl) (μ:Sto):finD (.nx σ) μ=.ok .non μ:=rfl
theorem run_eq {φ:Phi} {f:Df} {ds:List D} {μ:Sto} (h:ds.length=f.np):runD φ f ds μ=(evSs φ f.body (ds.map some++List.replicate (f.nn-f.np) none) μ).bind finD:=by
 rw[runD,if_pos h];rfl
theorem pure_below (b:Nat):∀(k:Nat) (d:D),D.pureN k d=true→D.belowN b k d=true
 | 0,d,h=>by cases d<;>simp_all[D.pureN,D.belowN]
 | k+1,d,h=>by
  cases d with
  | tup ds =>
   simp only[D.pureN,D.belowN,List.all_eq_true]at h ⊢
   exact fun x hx=>pure_below b k x (h x hx)
  | lst ds =>
   simp only[D.pureN,D.belowN,List.all_eq_true]at h ⊢
   exact fun x hx=>pure_below b k x (h x hx)
  | loc n=>simp[D.pureN]at h
  | _=>rfl
theorem pure_tup {k:Nat} {ds:List D}:D.pureN (k+1) (.tup ds)=ds.all (D.pureN k):=rfl
theorem pureN_int {k:Nat} {i:Int}:D.pureN k (.int i)=true:=by cases k<;>rfl
noncomputable abbrev Shut (μ:Sto):Prop:=μ.all (closedO μ.length)=true
theorem backD_pure {d:D} {μ:Sto} {b:Nat} (hd:d.pure=true) (hb:μ.length=b) (hr:Shut μ):backD false b (.ok d μ)=.ok d μ:=by
 have e:μ.take b=μ:=List.take_of_length_le (by omega)
 have hr':μ.all (closedO b)=true:=by rw[←hb];exact hr
 simp only[backD,Bool.false_eq_true,if_false,e,pure_below b 8 d hd,hr',and_self,if_true]
@[simp] theorem backD_keep {d:D} {μ:Sto} {b:Nat}:backD true b (.ok d μ)=.ok d μ:=by simp[backD]
theorem op_mul {i j:Int} {μ:Sto} (h:CMul i j):opI .Mult i j μ=.ok (.int (i*j)) μ:=by simp[opI,h]
theorem op_div {i j:Int} {μ:Sto} (h:0<j) (h2:j<1073741824):opI .FloorDiv i j μ=.ok (.int (i / j)) μ:=by simp[opI,h,h2]
theorem op_mod {i j:Int} {μ:Sto} (h:0<j):opI .Mod i j μ=.ok (.int (i % j)) μ:=by simp[opI,h]
theorem op_add {i j:Int} {μ:Sto}:opI .Add i j μ=.ok (.int (i+j)) μ:=rfl
theorem op_sub {i j:Int} {μ:Sto}:opI .Sub i j μ=.ok (.int (i-j)) μ:=rfl
theorem op_pow {i:Int} {j:Int} {μ:Sto} (h:0≤j∧j≤1000000∧i.natAbs<2 ^ 64):opI .Pow i j μ=.ok (.int (i ^ j.toNat)) μ:=by simp[opI,h]
theorem op_shr {i j:Int} {μ:Sto} (h:0≤j):opI .RShift i j μ=.ok (.int (i / 2 ^ j.toNat)) μ:=by simp[opI,h]
theorem opD_int {op:Operator} {m:Mk} {i j:Int} {μ:Sto}:opD op m (.int i) (.int j) μ=opI op i j μ:=rfl
theorem _root_.Lp.CMul.left {i j:Int} (h:-(2 ^ 64)<i) (h2:i<2 ^ 64):CMul i j:=.inl ⟨h,h2⟩
theorem _root_.Lp.CMul.right {i j:Int} (h:-(2 ^ 64)<j) (h2:j<2 ^ 64):CMul i j:=.inr ⟨h,h2⟩
end Lr
namespace Lr
open Lp
open PySem
section
variable (φ : Phi)
noncomputable def varD (o:Option (Option D)) (μ:Sto):Res D:=match o with
 | some (some d)=>.ok d μ
 | _=>.stuck
noncomputable def kB (op:Operator) (m:Mk) (b:Ex) (σ:Sl) (x:D) (μ:Sto):Res D:=(evE φ b σ μ).bind (opD op m x)
noncomputable def kNeg (x:D) (μ:Sto):Res D:=match x with
 | .int i=>.ok (.int (-i)) μ
 | _=>.stuck
noncomputable def kNot (x:D) (μ:Sto):Res D:=match x with
 | .bl b=>.ok (.bl (!b)) μ
 | _=>.stuck
noncomputable def kAnd (b:Ex) (σ:Sl) (x:D) (μ:Sto):Res D:=match x with
 | .bl c=>if c=true then evE φ b σ μ else .ok (.bl false) μ
 | _=>.stuck
noncomputable def kOr (b:Ex) (σ:Sl) (x:D) (μ:Sto):Res D:=match x with
 | .bl c=>if c=true then .ok (.bl true) μ else evE φ b σ μ
 | _=>.stuck
noncomputable def kIte (a b:Ex) (σ:Sl) (x:D) (μ:Sto):Res D:=match x with
 | .bl c=>if c=true then evE φ a σ μ else evE φ b σ μ
 | _=>.stuck
noncomputable def kCmp (r:Cps) (σ:Sl) (x:D) (μ:Sto):Res D:=evC φ r x σ μ
noncomputable def kCh2 (r:Cps) (y:D) (σ:Sl) (z:D) (μ:Sto):Res D:=match z with
 | .bl b=>if b=true then evC φ r y σ μ else .ok (.bl false) μ
 | _=>.stuck
noncomputable def kCh (op:Cp) (x:D) (r:Cps) (σ:Sl) (y:D) (μ:Sto):Res D:=(cpD op x y μ).bind (kCh2 φ r y σ)
noncomputable def kCall (keep:Bool) (f:Nat) (ds:List D) (μ:Sto):Res D:=backD keep μ.length (φ f ds μ)
noncomputable def kM (mt:Mt) (es:Exs) (σ:Sl) (x:D) (μ:Sto):Res D:=if methOk mt x μ=true then(evEs φ es σ μ).bind (mtD mt x)else .stuck
noncomputable def kIx (b:Ex) (σ:Sl) (x:D) (μ:Sto):Res D:=(evE φ b σ μ).bind (ixD x)
noncomputable def kSl2 (m:Mk) (hi:ExO) (σ:Sl) (x:D) (l:Option Int) (μ:Sto):Res D:=(evO φ hi σ μ).bind (slD m x l)
noncomputable def kSl (m:Mk) (lo hi:ExO) (σ:Sl) (x:D) (μ:Sto):Res D:=(evO φ lo σ μ).bind (kSl2 φ m hi σ x)
noncomputable def kTup (ds:List D) (μ:Sto):Res D:=.ok (.tup ds) μ
noncomputable def kEs2 (d:D) (ds:List D) (μ:Sto):Res (List D):=.ok (d::ds) μ
noncomputable def kEs (es:Exs) (σ:Sl) (d:D) (μ:Sto):Res (List D):=(evEs φ es σ μ).bind (kEs2 d)
noncomputable def kInt (x:D) (μ:Sto):Res (Option Int):=match x with
 | .int i=>.ok (some i) μ
 | _=>.stuck
noncomputable def kOne (x:D) (μ:Sto):Res (List D):=.ok [x] μ
noncomputable def kElt (elt:Ex) (σ:Sl) (b:Bool) (μ:Sto):Res (List D):=if b=true then(evE φ elt σ μ).bind kOne else .ok [] μ
noncomputable def kBlk (cs:Exs) (elt:Ex) (μ:Sto) (σ:Sl):Res (List D):=(evCs φ cs σ μ).bind (kElt φ elt σ)
noncomputable def fCmp (tg:Tg) (cs:Exs) (elt:Ex) (σ0:Sl) (d:D) (μ:Sto):Res (List D):=onSome (bindT tg d σ0) (kBlk φ cs elt μ)
noncomputable def kComp (m:Mk) (tg:Tg) (cs:Exs) (elt:Ex) (σ0:Sl) (w:List D×Gd) (μ:Sto):Res D:=(mapR w.2 (fCmp φ tg cs elt σ0) w.1 μ).bind (mkL m)
noncomputable def kCs (es:Exs) (σ:Sl) (x:D) (μ:Sto):Res Bool:=match x with
 | .bl b=>if b=true then evCs φ es σ μ else .ok false μ
 | _=>.stuck
noncomputable def kSeq (x:D) (μ:Sto):Res (List D×Gd):=match walkOf μ x with
 | some w=>.ok w μ
 | none=>.stuck
noncomputable def kRng (x:D) (μ:Sto):Res (List D×Gd):=match x with
 | .int j=>if -(lim:Int)≤j∧j≤lim then .ok ((List.range j.toNat).map fun(i:Nat)=>D.int i,none) μ else .stuck
 | _=>.stuck
noncomputable def kRng2b (x y:D) (μ:Sto):Res (List D×Gd):=match x,y with
 | .int i,.int j=>if -(lim:Int)≤i∧i≤lim∧j≤lim ∧ -(lim:Int)≤j∧(j-i)≤lim then .ok ((List.range (j-i).toNat).map fun(k:Nat)=>D.int (i+k),none) μ else .stuck
 | _,_=>.stuck
noncomputable def kRng2 (b:Ex) (σ:Sl) (x:D) (μ:Sto):Res (List D×Gd):=(evE φ b σ μ).bind (kRng2b x)
noncomputable def kZip2 (x y:D) (μ:Sto):Res (List D×Gd):=match walkOf μ x,seqOf [] y with
 | some w,some ys=>.ok ((w.1.zip ys).map fun p=>.tup [p.1,p.2],w.2) μ
 | _,_=>.stuck
noncomputable def kZip (b:Ex) (σ:Sl) (x:D) (μ:Sto):Res (List D×Gd):=(evE φ b σ μ).bind (kZip2 x)
noncomputable def kEnum (x:D) (μ:Sto):Res (List D×Gd):=match walkOf μ x with
 | some w=>.ok ((List.range w.1.length |>.zip w.1).map fun(p:Nat×D)=>.tup [.int p.1,p.2],w.2) μ
 | none=>.stuck
noncomputable def kVals (x:D) (μ:Sto):Res (List D×Gd):=match x with
 | .loc n=>match μ[n]? with
  | some (.d kvs)=>.ok (kvs.map (·.2),none) (μ.set n .dead)
  | _=>.stuck
 | _=>.stuck
noncomputable def kSet (i:Nat) (σ:Sl) (d:D) (μ:Sto):Res Fl:=.ok (.nx (σ.set i (some d))) μ
noncomputable def onSl (o:Option Sl) (μ:Sto):Res Fl:=match o with
 | some σ'=>.ok (.nx σ') μ
 | none=>.stuck
noncomputable def kUnp (is:List Nat) (σ:Sl) (d:D) (μ:Sto):Res Fl:=onSl (bindT (.many is) d σ) μ
noncomputable def kNx {α:Type} (σ:Sl) (_:α) (μ:Sto):Res Fl:=.ok (.nx σ) μ
noncomputable def kSx3 (σ:Sl) (d x:D) (y:D) (μ:Sto):Res Fl:=(setD x y d μ).bind (kNx σ)
noncomputable def kSx2 (i:Ex) (σ:Sl) (d:D) (x:D) (μ:Sto):Res Fl:=(evE φ i σ μ).bind (kSx3 σ d x)
noncomputable def kSx (o i:Ex) (σ:Sl) (d:D) (μ:Sto):Res Fl:=(evE φ o σ μ).bind (kSx2 φ i σ d)
noncomputable def kIf (a b:Sms) (σ:Sl) (x:D) (μ:Sto):Res Fl:=match x with
 | .bl k=>if k=true then evSs φ a σ μ else evSs φ b σ μ
 | _=>.stuck
noncomputable def kLp (b:Sms) (μ:Sto) (σ:Sl):Res Fl:=evSs φ b σ μ
noncomputable def fLp (tg:Tg) (b:Sms) (d:D) (σ:Sl) (μ:Sto):Res Fl:=onSome (bindT tg d σ) (kLp φ b μ)
noncomputable def kLoop (tg:Tg) (b:Sms) (σ:Sl) (w:List D×Gd) (μ:Sto):Res Fl:=loopR w.2 (fLp φ tg b) w.1 σ μ
noncomputable def kRet (d:D) (μ:Sto):Res Fl:=.ok (.rt d) μ
noncomputable def kSs (r:Sms) (fl:Fl) (μ:Sto):Res Fl:=match fl with
 | .nx σ'=>evSs φ r σ' μ
 | fl=>.ok fl μ
end
section
variable {φ : Phi} {σ : Sl} {μ : Sto} {a b c e o i : Ex} {es : Exs} {m : Mk} {op : Operator} {r : Cps} {s : Sm} {rs : Sms}
theorem E_var {i:Nat}:evE φ (.var i) σ μ=varD σ[i]? μ:=rfl
theorem E_cst {d:D}:evE φ (.cst d) σ μ=.ok d μ:=rfl
theorem E_bin:evE φ (.bin op m a b) σ μ=(evE φ a σ μ).bind (kB φ op m b σ):=rfl
theorem E_neg:evE φ (.neg a) σ μ=(evE φ a σ μ).bind kNeg:=rfl
theorem E_not:evE φ (.not a) σ μ=(evE φ a σ μ).bind kNot:=rfl
theorem E_and:evE φ (.and a b) σ μ=(evE φ a σ μ).bind (kAnd φ b σ):=rfl
theorem E_or:evE φ (.or a b) σ μ=(evE φ a σ μ).bind (kOr φ b σ):=rfl
theorem E_ite:evE φ (.ite c a b) σ μ=(evE φ c σ μ).bind (kIte φ a b σ):=rfl
theorem E_cmp:evE φ (.cmp a r) σ μ=(evE φ a σ μ).bind (kCmp φ r σ):=rfl
theorem bind_ret {α:Type} (x:Res α):(x.bind fun a μ=>.ok a μ)=x:=by cases x<;>rfl
theorem C_one {op:Cp} {x:D}:evC φ (.cons op e .nil) x σ μ=(evE φ e σ μ).bind (cpD op x):=by
 simp only[evC,bind_ret]
theorem C_cons {op op':Cp} {x:D} {e':Ex}:evC φ (.cons op e (.cons op' e' r)) x σ μ=(evE φ e σ μ).bind (kCh φ op x (.cons op' e' r) σ):=by
 rw[evC]
 all_goals rfl
theorem E_call {keep:Bool} {f:Nat}:evE φ (.call keep f es) σ μ=(evEs φ es σ μ).bind (kCall φ keep f):=rfl
theorem E_blt {b:Bt}:evE φ (.blt b m es) σ μ=(evEs φ es σ μ).bind (btD b m):=rfl
theorem E_isi {c:Cl}:evE φ (.isi a c) σ μ=(evE φ a σ μ).bind (isiD c):=rfl
theorem E_meth {mt:Mt}:evE φ (.meth mt o es) σ μ=(evE φ o σ μ).bind (kM φ mt es σ):=rfl
theorem E_ix:evE φ (.ix a b) σ μ=(evE φ a σ μ).bind (kIx φ b σ):=rfl
theorem E_sl {lo hi:ExO}:evE φ (.sl m a lo hi) σ μ=(evE φ a σ μ).bind (kSl φ m lo hi σ):=rfl
theorem E_tup:evE φ (.tup es) σ μ=(evEs φ es σ μ).bind kTup:=rfl
theorem E_lst:evE φ (.lst m es) σ μ=(evEs φ es σ μ).bind (mkL m):=rfl
theorem E_dic {t:Bool}:evE φ (.dic t es) σ μ=(evEs φ es σ μ).bind (dicD t):=rfl
theorem E_comp {cap:List Nat} {nl:Nat} {tg:Tg} {it:It} {cs:Exs} {elt:Ex}:evE φ (.comp m cap nl tg it cs elt) σ μ=(evI φ it σ μ).bind (kComp φ m tg cs elt (cap.map (fun i=>(σ[i]?).getD none)++List.replicate nl none)):=rfl
theorem Es_nil:evEs φ .nil σ μ=.ok [] μ:=rfl
theorem Es_cons:evEs φ (.cons e es) σ μ=(evE φ e σ μ).bind (kEs φ es σ):=rfl
theorem O_no:evO φ .no σ μ=.ok none μ:=rfl
theorem O_so:evO φ (.so e) σ μ=(evE φ e σ μ).bind kInt:=rfl
theorem Cs_nil:evCs φ .nil σ μ=.ok true μ:=rfl
theorem Cs_cons:evCs φ (.cons e es) σ μ=(evE φ e σ μ).bind (kCs φ es σ):=rfl
theorem I_seq:evI φ (.seq e) σ μ=(evE φ e σ μ).bind kSeq:=rfl
theorem I_rng:evI φ (.rng e) σ μ=(evE φ e σ μ).bind kRng:=rfl
theorem I_rng2:evI φ (.rng2 a b) σ μ=(evE φ a σ μ).bind (kRng2 φ b σ):=rfl
theorem I_zip:evI φ (.zip a b) σ μ=(evE φ a σ μ).bind (kZip φ b σ):=rfl
theorem I_enum:evI φ (.enum a) σ μ=(evE φ a σ μ).bind kEnum:=rfl
theorem I_vals:evI φ (.vals a) σ μ=(evE φ a σ μ).bind kVals:=rfl
theorem S_set {i:Nat}:evS φ (.set i e) σ μ=(evE φ e σ μ).bind (kSet i σ):=rfl
theorem S_unp {is:List Nat}:evS φ (.unp is e) σ μ=(evE φ e σ μ).bind (kUnp is σ):=rfl
theorem S_setx:evS φ (.setx o i e) σ μ=(evE φ e σ μ).bind (kSx φ o i σ):=rfl
theorem S_ex:evS φ (.ex e) σ μ=(evE φ e σ μ).bind (kNx σ):=rfl
theorem S_ite {x y:Sms}:evS φ (.ite c x y) σ μ=(evE φ c σ μ).bind (kIf φ x y σ):=rfl
theorem S_loop {tg:Tg} {it:It} {b:Sms}:evS φ (.loop tg it b) σ μ=(evI φ it σ μ).bind (kLoop φ tg b σ):=rfl
theorem S_ret:evS φ (.ret e) σ μ=(evE φ e σ μ).bind kRet:=rfl
theorem S_pass:evS φ .pass σ μ=.ok (.nx σ) μ:=rfl
theorem S_brk:evS φ .brk σ μ=.ok (.bk σ) μ:=rfl
theorem S_cont:evS φ .cont σ μ=.ok (.ct σ) μ:=rfl
theorem Ss_nil:evSs φ .nil σ μ=.ok (.nx σ) μ:=rfl
theorem Ss_cons:evSs φ (.cons s rs) σ μ=(evS φ s σ μ).bind (kSs φ rs):=rfl
theorem kCall_of {f:Nat} {ds:List D} {d:D} {μ':Sto} (h:φ f ds μ=.ok d μ') (hd:d.pure=true) (hl:μ'.length=μ.length) (hr:Shut μ'):kCall φ false f ds μ=.ok d μ':=by
 rw[kCall,h,backD_pure hd hl hr]
theorem kM_ok {mt:Mt} {x:D} (h:methOk mt x μ=true):kM φ mt es σ x μ=(evEs φ es σ μ).bind (mtD mt x):=by rw[kM,if_pos h]
theorem varD_some {d:D}:varD (some (some d)) μ=.ok d μ:=rfl
theorem kNeg_int {i:Int}:kNeg (.int i) μ=.ok (.int (-i)) μ:=rfl
theorem kNot_bl {b:Bool}:kNot (.bl b) μ=.ok (.bl (!b)) μ:=rfl
theorem kAnd_t {b:Ex}:kAnd φ b σ (.bl true) μ=evE φ b σ μ:=rfl
theorem kAnd_f {b:Ex}:kAnd φ b σ (.bl false) μ=.ok (.bl false) μ:=rfl
theorem kOr_t {b:Ex}:kOr φ b σ (.bl true) μ=.ok (.bl true) μ:=rfl
theorem kOr_f {b:Ex}:kOr φ b σ (.bl false) μ=evE φ b σ μ:=rfl
theorem kIte_t:kIte φ a b σ (.bl true) μ=evE φ a σ μ:=rfl
theorem kIte_f:kIte φ a b σ (.bl false) μ=evE φ b σ μ:=rfl
theorem kCh2_t {y:D}:kCh2 φ r y σ (.bl true) μ=evC φ r y σ μ:=rfl
theorem kCh2_f {y:D}:kCh2 φ r y σ (.bl false) μ=.ok (.bl false) μ:=rfl
theorem kCs_t:kCs φ es σ (.bl true) μ=evCs φ es σ μ:=rfl
theorem kCs_f:kCs φ es σ (.bl false) μ=.ok false μ:=rfl
theorem kElt_t {elt:Ex}:kElt φ elt σ true μ=(evE φ elt σ μ).bind kOne:=rfl
theorem kElt_f {elt:Ex}:kElt φ elt σ false μ=.ok [] μ:=rfl
theorem kInt_int {i:Int}:kInt (.int i) μ=.ok (some i) μ:=rfl
theorem kIf_t {x y:Sms}:kIf φ x y σ (.bl true) μ=evSs φ x σ μ:=rfl
theorem kIf_f {x y:Sms}:kIf φ x y σ (.bl false) μ=evSs φ y σ μ:=rfl
theorem kSs_nx {σ':Sl}:kSs φ rs (.nx σ') μ=evSs φ rs σ' μ:=rfl
theorem kSs_rt {d:D}:kSs φ rs (.rt d) μ=.ok (.rt d) μ:=rfl
theorem kSs_bk {σ':Sl}:kSs φ rs (.bk σ') μ=.ok (.bk σ') μ:=rfl
theorem kSs_ct {σ':Sl}:kSs φ rs (.ct σ') μ=.ok (.ct σ') μ:=rfl
theorem onSl_some {σ':Sl}:onSl (some σ') μ=.ok (.nx σ') μ:=rfl
theorem kSeq_tup {ds:List D}:kSeq (.tup ds) μ=.ok (ds,none) μ:=rfl
theorem kSeq_lst {ds:List D}:kSeq (.lst ds) μ=.ok (ds,none) μ:=rfl
theorem kRng_ok {j:Int} (h:-1000000≤j∧j≤1000000):kRng (.int j) μ=.ok ((List.range j.toNat).map fun(i:Nat)=>D.int i,none) μ:=by
 have:=lim_big
 simp only[kRng]
 rw[if_pos ⟨by lia,by lia⟩]
theorem kRng_nat {n:Nat} (h:n≤1000000):kRng (.int n) μ=.ok ((List.range n).map fun(i:Nat)=>D.int i,none) μ:=by
 rw[kRng_ok ⟨by lia,by lia⟩,Int.toNat_natCast]
theorem bindT_one {i:Nat} {d:D}:bindT (.one i) d σ=some (σ.set i (some d)):=rfl
theorem cp_lt {i j:Int}:cpD .lt (.int i) (.int j) μ=.ok (.bl (decide (i<j))) μ:=rfl
theorem cp_le {i j:Int}:cpD .le (.int i) (.int j) μ=.ok (.bl (decide (i≤j))) μ:=rfl
theorem cp_gt {i j:Int}:cpD .gt (.int i) (.int j) μ=.ok (.bl (decide (j<i))) μ:=rfl
theorem cp_ge {i j:Int}:cpD .ge (.int i) (.int j) μ=.ok (.bl (decide (j≤i))) μ:=rfl
theorem cp_eqI {i j:Int}:cpD .eq (.int i) (.int j) μ=.ok (.bl (decide (i=j))) μ:=rfl
theorem cp_ne {x y:D} (hx:x.pure=true) (hy:y.pure=true):cpD .ne x y μ=.ok (.bl (!deq x y)) μ:=by simp[cpD,hx,hy]
theorem cp_neI {i j:Int}:cpD .ne (.int i) (.int j) μ=.ok (.bl (!decide (i=j))) μ:=cp_ne rfl rfl
theorem cp_neB {i j:Bool}:cpD .ne (.bl i) (.bl j) μ=.ok (.bl (!(i==j))) μ:=cp_ne rfl rfl
theorem bt_len {x:D} {xs:List D} (h:seqOf μ x=some xs):btD .len m [x] μ=.ok (.int xs.length) μ:=by simp[btD,seq1,h]
theorem bt_tuple {x:D} {xs:List D} (h:seqOf μ x=some xs):btD .tuple m [x] μ=.ok (.tup xs) μ:=by simp[btD,seq1,h]
theorem bt_listRev {x:D} {xs:List D} (h:listOf μ x=some xs):btD .listRev m [x] μ=mkL m xs.reverse μ:=by simp[btD,listRev1,h]
theorem bt_min {i j:Int}:btD .min m [.int i,.int j] μ=.ok (.int (min i j)) μ:=by
 simp only[btD,minD]
 congr 2
 split<;>lia
theorem bt_max {i j:Int}:btD .max m [.int i,.int j] μ=.ok (.int (max i j)) μ:=by
 simp only[btD,maxD]
 congr 2
 split<;>lia
theorem seqOf_tup {ds:List D}:seqOf μ (.tup ds)=some ds:=rfl
theorem seqOf_lst {ds:List D}:seqOf μ (.lst ds)=some ds:=rfl
theorem mkL_z {ds:List D}:mkL .z ds μ=.ok (.lst ds) μ:=rfl
theorem ix_nat {x:D} {xs:List D} {k:Nat} {d:D} (h:seqOf μ x=some xs) (hd:xs[k]? = some d):ixD x (.int k) μ=.ok d μ:=by
 have hk:k<xs.length:=(List.getElem?_eq_some_iff.mp hd).1
 have e:ixN xs.length (k:Int)=some k:=by simp[ixN,hk]
 simp only[ixD,h,e,hd]
theorem bindT_2 {i j:Nat} {a b:D}:bindT (.many [i,j]) (.tup [a,b]) σ=some ((σ.set i (some a)).set j (some b)):=rfl
theorem bindT_3 {i j k:Nat} {a b c:D}:bindT (.many [i,j,k]) (.tup [a,b,c]) σ=some (((σ.set i (some a)).set j (some b)).set k (some c)):=rfl
theorem bindT_4 {i j k l:Nat} {a b c d:D}:bindT (.many [i,j,k,l]) (.tup [a,b,c,d]) σ=some ((((σ.set i (some a)).set j (some b)).set k (some c)).set l (some d)):=rfl
theorem bindT_5 {i j k l m:Nat} {a b c d e:D}:bindT (.many [i,j,k,l,m]) (.tup [a,b,c,d,e]) σ=some (((((σ.set i (some a)).set j (some b)).set k (some c)).set l (some d)).set m (some e)):=rfl
theorem ix_map {α:Type} {xs:List α} {en:α→D} {k:Nat} {a:α} (h:xs[k]? = some a):ixD (.tup (xs.map en)) (.int k) μ=.ok (en a) μ:=ix_nat seqOf_tup (by rw[List.getElem?_map,h];rfl)
theorem loop_ex {α:Type} {tg:Tg} {b:Sms} {xs:List α} {en:α→D} (I:Nat→Sl→Prop) (h0:I 0 σ) (st:∀(k:Nat) a σ,xs[k]? = some a→I k σ→∃σ',fLp φ tg b (en a) σ μ=.ok (.nx σ') μ∧I (k+1) σ') :
  ∃σ',kLoop φ tg b σ (xs.map en,none) μ=.ok (.nx σ') μ∧I xs.length σ':=by
 obtain⟨σ',μ',e,rfl,i⟩:=loopR_ok (f:=fLp φ tg b) (fun k σ μ'=>μ'=μ∧I k σ) (ds:=xs.map en) (σ:=σ) (μ:=μ) 0 ⟨rfl,h0⟩ fun j d σ μ' e ⟨q,i⟩=>by
  subst q
  rw[List.getElem?_map]at e
  cases ex:xs[j]? with
  | none=>rw[ex]at e;cases e
  | some a =>
   rw[ex]at e
   cases e
   obtain⟨σ',e',i'⟩:=st j a σ ex (by simpa using i)
   exact⟨σ',_,e',rfl,by simpa using i'⟩
 exact⟨σ',e,by simpa using i⟩
theorem comp_map {α:Type} {tg:Tg} {cs:Exs} {elt:Ex} {σ0:Sl} {xs:List α} {en:α→D} {g:α→D} (h:∀a∈xs,fCmp φ tg cs elt σ0 (en a) μ=.ok [g a] μ):kComp φ m tg cs elt σ0 (xs.map en,none) μ=mkL m (xs.map g) μ:=by
 have e:mapR none (fCmp φ tg cs elt σ0) (xs.map en) μ=.ok (xs.map g) μ:=by
  induction xs with
  | nil=>simp[mapR]
  | cons a r ih =>
   simp only[List.map_cons,mapR,gd_none,if_true,h a List.mem_cons_self,Res.bind_ok,ih fun x hx=>h x (List.mem_cons_of_mem _ hx)]
   rfl
 rw[kComp]
 show(mapR none _ (xs.map en) μ).bind _=_
 rw[e];rfl
theorem comp_filter {α:Type} {tg:Tg} {cs:Exs} {elt:Ex} {σ0:Sl} {xs:List α} {en:α→D} {g:α→D} {p:α→Bool} (h:∀a∈xs,fCmp φ tg cs elt σ0 (en a) μ=.ok (if p a=true then [g a]else []) μ):kComp φ m tg cs elt σ0 (xs.map en,none) μ=mkL m ((xs.filter p).map g) μ:=by
 have e:mapR none (fCmp φ tg cs elt σ0) (xs.map en) μ=.ok ((xs.filter p).map g) μ:=by
  induction xs with
  | nil=>simp[mapR]
  | cons a r ih =>
   simp only[List.map_cons,mapR,gd_none,if_true,h a List.mem_cons_self,Res.bind_ok,ih fun x hx=>h x (List.mem_cons_of_mem _ hx)]
   by_cases hp:p a=true
   ·simp[hp]
   ·simp[hp]
 rw[kComp]
 show(mapR none _ (xs.map en) μ).bind _=_
 rw[e];rfl
noncomputable def many {S α:Type} (G:S→α×S):Nat→S→List α×S
 | 0,s=>([],s)
 | n+1,s=>((G s).1::(many G n (G s).2).1,(many G n (G s).2).2)
theorem many_len {S α:Type} (G:S→α×S):∀(n:Nat) (s:S),(many G n s).1.length=n
 | 0,_=>rfl
 | n+1,s=>by simp[many,many_len G n]
theorem many_all {S α:Type} {G:S→α×S} {P:α→Prop} (h:∀s,P (G s).1):∀(n:Nat) (s:S),∀a∈(many G n s).1,P a
 | 0,_,a,ha=>by simp[many]at ha
 | n+1,s,a,ha=>by
  rcases List.mem_cons.mp ha with rfl | q
  ·exact h s
  ·exact many_all h n _ a q
theorem mapR_many {S α:Type} {f:D→Sto→Res (List D)} {enS:S→Sto} {en:α→D} {G:S→α×S}:∀{ds:List D} {s:S},(∀d∈ds,∀s,f d (enS s)=.ok [en (G s).1] (enS (G s).2)) →
  mapR none f ds (enS s)=.ok ((many G ds.length s).1.map en) (enS (many G ds.length s).2)
 | [],s,_=>by simp[mapR,many]
 | d::ds,s,h=>by
  simp only[mapR,gd_none,if_true,h d List.mem_cons_self s,Res.bind_ok,mapR_many (ds:=ds) fun x hx=>h x (List.mem_cons_of_mem _ hx),many,List.length_cons,List.map_cons]
  rfl
theorem comp_many {S α:Type} {tg:Tg} {cs:Exs} {elt:Ex} {σ0:Sl} {ds:List D} {enS:S→Sto} {en:α→D} {G:S→α×S} {s:S} (h:∀d∈ds,∀s,fCmp φ tg cs elt σ0 d (enS s)=.ok [en (G s).1] (enS (G s).2)) :
  kComp φ m tg cs elt σ0 (ds,none) (enS s)=mkL m ((many G ds.length s).1.map en) (enS (many G ds.length s).2):=by
 rw[kComp]
 show(mapR none _ ds (enS s)).bind _=_
 rw[mapR_many h];rfl
theorem kB_eq {x:D}:kB φ op m b σ x μ=(evE φ b σ μ).bind (opD op m x):=rfl
theorem kCmp_eq {x:D}:kCmp φ r σ x μ=evC φ r x σ μ:=rfl
theorem kCh_eq {o:Cp} {x y:D}:kCh φ o x r σ y μ=(cpD o x y μ).bind (kCh2 φ r y σ):=rfl
theorem kIx_eq {x:D}:kIx φ b σ x μ=(evE φ b σ μ).bind (ixD x):=rfl
theorem kSl2_eq {hi:ExO} {x:D} {l:Option Int}:kSl2 φ m hi σ x l μ=(evO φ hi σ μ).bind (slD m x l):=rfl
theorem kSl_eq {lo hi:ExO} {x:D}:kSl φ m lo hi σ x μ=(evO φ lo σ μ).bind (kSl2 φ m hi σ x):=rfl
theorem kTup_eq {ds:List D}:kTup ds μ=.ok (.tup ds) μ:=rfl
theorem kEs2_eq {d:D} {ds:List D}:kEs2 d ds μ=.ok (d::ds) μ:=rfl
theorem kEs_eq {d:D}:kEs φ es σ d μ=(evEs φ es σ μ).bind (kEs2 d):=rfl
theorem kOne_eq {x:D}:kOne x μ=.ok [x] μ:=rfl
theorem kBlk_eq {cs:Exs} {elt:Ex}:kBlk φ cs elt μ σ=(evCs φ cs σ μ).bind (kElt φ elt σ):=rfl
theorem kRng2_eq {x:D}:kRng2 φ b σ x μ=(evE φ b σ μ).bind (kRng2b x):=rfl
theorem kZip_eq {x:D}:kZip φ b σ x μ=(evE φ b σ μ).bind (kZip2 x):=rfl
theorem kSet_eq {i:Nat} {d:D}:kSet i σ d μ=.ok (.nx (σ.set i (some d))) μ:=rfl
theorem kUnp_eq {is:List Nat} {d:D}:kUnp is σ d μ=onSl (bindT (.many is) d σ) μ:=rfl
theorem kNxD_eq {d:D}:kNx σ d μ=.ok (.nx σ) μ:=rfl
theorem kNxU_eq {d:Unit}:kNx σ d μ=.ok (.nx σ) μ:=rfl
theorem kSx3_eq {d x y:D}:kSx3 σ d x y μ=(setD x y d μ).bind (kNx σ):=rfl
theorem kSx2_eq {i:Ex} {d x:D}:kSx2 φ i σ d x μ=(evE φ i σ μ).bind (kSx3 σ d x):=rfl
theorem kSx_eq {o i:Ex} {d:D}:kSx φ o i σ d μ=(evE φ o σ μ).bind (kSx2 φ i σ d):=rfl
theorem kLp_eq {b:Sms}:kLp φ b μ σ=evSs φ b σ μ:=rfl
theorem kRet_eq {d:D}:kRet d μ=.ok (.rt d) μ:=rfl
theorem rep_succ {n:Nat}:List.replicate (n+1) (none:Option D)=none::List.replicate n none:=rfl
theorem rep_zero:List.replicate 0 (none:Option D)=[]:=rfl
end
section
variable {φ : Phi} {σ : Sl} {μ : Sto}
noncomputable def kDix (φ:Phi) (b:Ex) (σ:Sl) (x:D) (μ:Sto):Res D:=(evE φ b σ μ).bind (dixD x)
noncomputable def kAu5 (σ:Sl) (x y z:D) (μ:Sto):Res Fl:=(setD x y z μ).bind (kNx σ)
noncomputable def kAu4 (op:Operator) (σ:Sl) (x y old d:D) (μ:Sto):Res Fl:=(augI op old d μ).bind (kAu5 σ x y)
noncomputable def kAu3 (φ:Phi) (op:Operator) (e:Ex) (σ:Sl) (x y old:D) (μ:Sto):Res Fl:=(evE φ e σ μ).bind (kAu4 op σ x y old)
noncomputable def kAu2 (φ:Phi) (op:Operator) (e:Ex) (σ:Sl) (x y:D) (μ:Sto):Res Fl:=(ixL x y μ).bind (kAu3 φ op e σ x y)
noncomputable def kAu1 (φ:Phi) (op:Operator) (i e:Ex) (σ:Sl) (x:D) (μ:Sto):Res Fl:=(evE φ i σ μ).bind (kAu2 φ op e σ x)
theorem E_dix {a b:Ex}:evE φ (.dix a b) σ μ=(evE φ a σ μ).bind (kDix φ b σ):=rfl
theorem kDix_eq {b:Ex} {x:D}:kDix φ b σ x μ=(evE φ b σ μ).bind (dixD x):=rfl
theorem S_augx {op:Operator} {o i e:Ex}:evS φ (.augx op o i e) σ μ=(evE φ o σ μ).bind (kAu1 φ op i e σ):=rfl
theorem kAu1_eq {op:Operator} {i e:Ex} {x:D}:kAu1 φ op i e σ x μ=(evE φ i σ μ).bind (kAu2 φ op e σ x):=rfl
theorem kAu2_eq {op:Operator} {e:Ex} {x y:D}:kAu2 φ op e σ x y μ=(ixL x y μ).bind (kAu3 φ op e σ x y):=rfl
theorem kAu3_eq {op:Operator} {e:Ex} {x y old:D}:kAu3 φ op e σ x y old μ=(evE φ e σ μ).bind (kAu4 op σ x y old):=rfl
theorem kAu4_add {x y:D} {i j:Int}:kAu4 .Add σ x y (.int i) (.int j) μ=kAu5 σ x y (.int (i+j)) μ:=rfl
theorem kAu4_sub {x y:D} {i j:Int}:kAu4 .Sub σ x y (.int i) (.int j) μ=kAu5 σ x y (.int (i-j)) μ:=rfl
theorem kAu5_eq {x y z:D}:kAu5 σ x y z μ=(setD x y z μ).bind (kNx σ):=rfl
end
section
variable {μ : Sto}
theorem z_bind {α β:Type} (a:α) (f:α→Sto→Res β):(Res.ok a μ).bind f=f a μ:=rfl
theorem z_some {α β:Type} (a:α) (k:α→Res β):onSome (some a) k=k a:=rfl
theorem z_rt (d:D):finD (.rt d) μ=.ok d μ:=rfl
theorem z_nx (σ:Sl):finD (.nx σ) μ=.ok .non μ:=rfl
theorem z_mc {α β:Type} (f:α→β) (a:α) (l:List α):(a::l).map f=f a::l.map f:=rfl
theorem z_mn {α β:Type} (f:α→β):([]:List α).map f=[]:=rfl
theorem z_ca {α:Type} (a:α) (l m:List α):a::l++m=a::(l++m):=rfl
theorem z_na {α:Type} (m:List α):[]++m=m:=rfl
theorem z_g0 {α:Type} (a:α) (l:List α):(a::l)[0]? = some a:=rfl
theorem z_gs {α:Type} (a:α) (l:List α) (i:Nat):(a::l)[i+1]? = l[i]?:=rfl
theorem z_s0 {α:Type} (a b:α) (l:List α):(a::l).set 0 b=b::l:=rfl
theorem z_ss {α:Type} (a b:α) (l:List α) (i:Nat):(a::l).set (i+1) b=a::l.set i b:=rfl
theorem z_gd {α:Type} (a b:α):(some a).getD b=a:=rfl
theorem z_oi {op:Operator} {m:Mk} {i j:Int}:opD op m (.int i) (.int j) μ=opI op i j μ:=opD_int
theorem z_oa {i j:Int}:opI .Add i j μ=.ok (.int (i+j)) μ:=op_add
theorem z_os {i j:Int}:opI .Sub i j μ=.ok (.int (i-j)) μ:=op_sub
theorem z_bk {d:D} {b:Nat}:backD true b (.ok d μ)=.ok d μ:=backD_keep
end
end Lr
local macro_rules | `(tactic| simp! only [$ls,*]) => do
  let mut a := ls.getElems
  for s in "Lr.E_var Lr.E_cst Lr.E_bin Lr.E_neg Lr.E_not Lr.E_and Lr.E_or Lr.E_ite Lr.E_cmp Lr.C_one Lr.C_cons Lr.E_call Lr.E_blt Lr.E_isi Lr.E_meth Lr.E_ix Lr.E_sl Lr.E_tup Lr.E_lst Lr.E_dic Lr.E_comp Lr.Es_nil Lr.Es_cons Lr.O_no Lr.O_so Lr.Cs_nil Lr.Cs_cons Lr.I_seq Lr.I_rng Lr.I_rng2 Lr.I_zip Lr.I_enum Lr.I_vals Lr.S_set Lr.S_unp Lr.S_setx Lr.S_ex Lr.S_ite Lr.S_loop Lr.S_ret Lr.S_pass Lr.S_brk Lr.S_cont Lr.Ss_nil Lr.Ss_cons Lr.varD_some Lr.kNeg_int Lr.kNot_bl Lr.kAnd_t Lr.kAnd_f Lr.kOr_t Lr.kOr_f Lr.kIte_t Lr.kIte_f Lr.kCh2_t Lr.kCh2_f Lr.kCs_t Lr.kCs_f Lr.kElt_t Lr.kElt_f Lr.kInt_int Lr.kIf_t Lr.kIf_f Lr.kSs_nx Lr.kSs_rt Lr.kSs_bk Lr.kSs_ct Lr.onSl_some Lr.kSeq_tup Lr.kSeq_lst Lr.bindT_one Lr.cp_lt Lr.cp_le Lr.cp_gt Lr.cp_ge Lr.cp_eqI Lr.cp_neI Lr.cp_neB Lr.bt_min Lr.bt_max Lr.mkL_z Lr.bindT_2 Lr.bindT_3 Lr.bindT_4 Lr.bindT_5 Lr.kB_eq Lr.kCmp_eq Lr.kCh_eq Lr.kIx_eq Lr.kSl2_eq Lr.kSl_eq Lr.kTup_eq Lr.kEs2_eq Lr.kEs_eq Lr.kOne_eq Lr.kBlk_eq Lr.kRng2_eq Lr.kZip_eq Lr.kSet_eq Lr.kUnp_eq Lr.kNxD_eq Lr.kNxU_eq Lr.kSx3_eq Lr.kSx2_eq Lr.kSx_eq Lr.kLp_eq Lr.kRet_eq Lr.rep_succ Lr.rep_zero Lr.E_dix Lr.kDix_eq Lr.S_augx Lr.kAu1_eq Lr.kAu2_eq Lr.kAu3_eq Lr.kAu4_add Lr.kAu4_sub Lr.kAu5_eq Lr.z_bind Lr.z_some Lr.z_rt Lr.z_nx Lr.z_mc Lr.z_mn Lr.z_ca Lr.z_na Lr.z_g0 Lr.z_gs Lr.z_s0 Lr.z_ss Lr.z_gd Lr.z_oi Lr.z_oa Lr.z_os Lr.z_bk Nat.reduceSub decide_true decide_false Bool.not_true Bool.not_false".splitOn " " do
    a := a.push ⟨(← `(Lean.Parser.Tactic.simpLemma| $(Lean.mkIdent ((s.splitOn ".").foldl Lean.Name.mkStr .anonymous)):ident)).raw⟩
  `(tactic| simp only [$a,*])
namespace Lr
open Lp
open PySem
noncomputable def turnI (c:Int):Int:=((c % 10 ^ 60+1)*69621 % 2147483647)*((c % 10 ^ 60+1)*69621 % 2147483647) % 1000000007 / 7
noncomputable def sizeI (c most:Int):Int:=if turnI c % 8<6 then min most (turnI c / 8 % 13)else if turnI c % 8=6 then most-turnI c / 8 % 2 else c % (most+1)
noncomputable def Lf (cs:List Int):O:=.l (cs.reverse.map D.int)
@[simp] theorem noR_Lf (cs:List Int):noR (Lf cs)=true:=rfl
section
variable {n : Nat} {μ ρ : Sto}
theorem ev_next (cs:List Int):callN GL (n+1) i_law_next [.loc 0] (Lf cs::ρ)=.ok (.int (cs.headD 0)) (Lf cs.tail::ρ):=by
 rw[callN_succ G_law_next,run_eq rfl]
 cases cs with
 | nil=>simp[D_law_next,evSs,evS,evE,evC,evEs,btD,seq1,seqOf,Lf,cpD]
 | cons c r=>simp[D_law_next,evSs,evS,evE,evC,evEs,btD,seq1,seqOf,Lf,cpD,methOk,Lp.listOf,mtD,mtLoc,mtL,itemsO,putL]
theorem cl_next (hr:∀cs,Shut (Lf cs::ρ)) (cs:List Int):kCall (callN GL (n+1)) false i_law_next [.loc 0] (Lf cs::ρ)=.ok (.int (cs.headD 0)) (Lf cs.tail::ρ) :=
 kCall_of (ev_next cs) rfl rfl (hr _)
theorem ev_turn (c:Int):callN GL (n+1) i_law_turn [.int c] μ=.ok (.int (turnI c)) μ:=by
 rw[callN_succ G_law_turn,run_eq rfl]
 have h1:(0:Int)≤(c % 10 ^ 60+1)*69621 % 2147483647:=Int.emod_nonneg _ (by decide)
 have h2:(c % 10 ^ 60+1)*69621 % 2147483647<2147483647:=Int.emod_lt_of_pos _ (by decide)
 have hm:CMul ((c % 10 ^ 60+1)*69621 % 2147483647) ((c % 10 ^ 60+1)*69621 % 2147483647):=.left (by lia) (by lia)
 have hm0:CMul (c % 10 ^ 60+1) 69621:=.right (by decide) (by decide)
 have e1:opI .Pow 10 60 μ=.ok (.int (10 ^ 60)) μ:=op_pow (by decide)
 simp! only[D_law_turn,e1,op_mod (show(0:Int)<10 ^ 60 by decide),op_mul hm0,op_mod (show(0:Int)<2147483647 by decide),op_mul hm,op_mod (show(0:Int)<1000000007 by decide),op_div (show(0:Int)<7 by decide) (by decide),turnI]
theorem turnI_nn (c:Int):0≤turnI c:=Int.ediv_nonneg (Int.emod_nonneg _ (by decide)) (by decide)
theorem cl_turn (hr:Shut μ) (c:Int):kCall (callN GL (n+1)) false i_law_turn [.int c] μ=.ok (.int (turnI c)) μ:=kCall_of (ev_turn c) rfl rfl hr
theorem ev_size (hr:Shut μ) (c most:Int) (hm:0≤most):callN GL (n+2) i_law_size [.int c,.int most] μ=.ok (.int (sizeI c most)) μ:=by
 rw[callN_succ G_law_size,run_eq rfl]
 have f8:∀x:Int,opI .Mod x 8 μ=.ok (.int (x % 8)) μ:=fun x=>op_mod (by decide)
 by_cases h1:turnI c % 8<6
 ·simp! only[D_law_size,cl_turn hr,f8,h1,op_div (show(0:Int)<8 by decide) (by decide),op_mod (show(0:Int)<13 by decide),sizeI,if_true]
 ·by_cases h2:turnI c % 8=6
  ·simp! only[D_law_size,cl_turn hr,f8,h1,h2,op_div (show(0:Int)<8 by decide) (by decide),op_mod (show(0:Int)<2 by decide),sizeI,if_true,if_false,Int.reduceLT]
  ·simp! only[D_law_size,cl_turn hr,f8,h1,h2,op_mod (show(0:Int)<most+1 by lia),sizeI,if_false]
theorem cl_size (hr:Shut μ) (c most:Int) (hm:0≤most):kCall (callN GL (n+2)) false i_law_size [.int c,.int most] μ=.ok (.int (sizeI c most)) μ :=
 kCall_of (ev_size hr c most hm) rfl rfl hr
theorem sizeI_nn {c most:Int} (hm:1≤most):0≤sizeI c most∧sizeI c most≤most:=by
 have h1:=turnI_nn c
 have h3:0≤c % (most+1):=Int.emod_nonneg _ (by lia)
 have h4:c % (most+1)<most+1:=Int.emod_lt_of_pos _ (by lia)
 unfold sizeI
 split
 ·lia
 ·split<;>lia
theorem ev_whole (c:Int):callN GL (n+1) i_law_whole [.int c] μ=.ok (.bl true) μ:=by
 rw[callN_succ G_law_whole,run_eq rfl]
 simp! only[D_law_whole,isiD]
theorem cl_whole (hr:Shut μ) (c:Int):kCall (callN GL (n+1)) false i_law_whole [.int c] μ=.ok (.bl true) μ:=kCall_of (ev_whole c) rfl rfl hr
end
end Lr
namespace Lr
open Lp
open PySem
structure Lamp where
 tank:Int
 oil:Int
 away:List Int
structure Day where
 boat:Int
 most:Int
 price:Int
 length:Int
 wanted:Int
structure Book where
 store:Int
 oil:Int
 lamps:List Lamp
 days:List Day
noncomputable def eInts (ns:List Int):D:=.tup (ns.map D.int)
noncomputable def eLamp (l:Lamp):D:=.tup [.int l.tank,.int l.oil,eInts l.away]
noncomputable def eDay (d:Day):D:=.tup [.int d.boat,.int d.most,.int d.price,.int d.length,.int d.wanted]
noncomputable def eBook (b:Book):D:=.tup [.int b.store,.int b.oil,.tup (b.lamps.map eLamp),.tup (b.days.map eDay)]
theorem pure_ints {k:Nat} (ns:List Int):D.pureN (k+1) (eInts ns)=true:=by
 simp only[eInts,pure_tup,List.all_map,List.all_eq_true]
 exact fun x _=>pureN_int
theorem pure_lamp {k:Nat} (l:Lamp):D.pureN (k+2) (eLamp l)=true:=by
 simp only[eLamp,pure_tup,List.all_cons,List.all_nil,Bool.and_true,Bool.true_and,pureN_int,pure_ints]
theorem pure_day {k:Nat} (l:Day):D.pureN (k+1) (eDay l)=true:=by
 simp only[eDay,pure_tup,List.all_cons,List.all_nil,Bool.and_true,Bool.true_and,pureN_int]
theorem pure_book (b:Book):(eBook b).pure=true:=by
 simp only[D.pure,eBook,pure_tup,List.all_cons,List.all_nil,Bool.and_true,Bool.true_and,pureN_int,List.all_map,Bool.and_eq_true,List.all_eq_true]
 exact⟨fun l _=>pure_lamp l,fun l _=>pure_day l⟩
theorem ix_b0 {b:Book} {μ:Sto}:ixD (eBook b) (.int 0) μ=.ok (.int b.store) μ:=rfl
theorem ix_b1 {b:Book} {μ:Sto}:ixD (eBook b) (.int 1) μ=.ok (.int b.oil) μ:=rfl
theorem ix_b2 {b:Book} {μ:Sto}:ixD (eBook b) (.int 2) μ=.ok (.tup (b.lamps.map eLamp)) μ:=rfl
theorem ix_b3 {b:Book} {μ:Sto}:ixD (eBook b) (.int 3) μ=.ok (.tup (b.days.map eDay)) μ:=rfl
theorem ix_l0 {b:Lamp} {μ:Sto}:ixD (eLamp b) (.int 0) μ=.ok (.int b.tank) μ:=rfl
theorem ix_l1 {b:Lamp} {μ:Sto}:ixD (eLamp b) (.int 1) μ=.ok (.int b.oil) μ:=rfl
theorem ix_l2 {b:Lamp} {μ:Sto}:ixD (eLamp b) (.int 2) μ=.ok (eInts b.away) μ:=rfl
theorem ix_d0 {b:Day} {μ:Sto}:ixD (eDay b) (.int 0) μ=.ok (.int b.boat) μ:=rfl
structure Wf (b:Book):Prop where
 store:0≤b.store∧b.store≤10 ^ 30
 oil:0≤b.oil∧b.oil≤10 ^ 30
 lamps:1≤b.lamps.length∧b.lamps.length≤8
 days:1≤b.days.length∧b.days.length≤16
 lamp:∀l∈b.lamps,(0≤l.tank∧l.tank≤10 ^ 30)∧(0≤l.oil∧l.oil≤l.tank)∧l.away.Pairwise (· < ·)∧∀a∈l.away,0≤a∧a<b.days.length
 day:∀d∈b.days,(0≤d.boat∧d.boat≤10 ^ 30)∧(0≤d.most∧d.most≤10 ^ 30)∧(0≤d.price∧d.price≤10 ^ 15)∧(1≤d.length∧d.length≤10 ^ 15)∧0≤d.wanted∧d.wanted≤b.lamps.length
noncomputable def awayI (turn:Int) (days:Nat):List Int:=((List.range days).filter fun k=>turn / 2 ^ (k+1) % 2=1).map fun(k:Nat)=>(k:Int)
noncomputable def lampG (days:Nat) (cs:List Int):Lamp×List Int :=
 let tank:=sizeI (cs.headD 0) (10 ^ 30)
 (⟨tank,min tank (sizeI (cs.tail.headD 0) (10 ^ 30)),if turnI (cs.tail.tail.headD 0) % 2=1 then awayI (turnI (cs.tail.tail.headD 0)) days else []⟩,cs.tail.tail.tail)
noncomputable def dayG (lamps:Nat) (cs:List Int):Day×List Int :=
 (⟨sizeI (cs.headD 0) (10 ^ 30),sizeI (cs.tail.headD 0) (10 ^ 30),sizeI (cs.tail.tail.headD 0) (10 ^ 15),max 1 (sizeI (cs.tail.tail.tail.headD 0) (10 ^ 15)),turnI (cs.tail.tail.tail.tail.headD 0) % (lamps+1)⟩,cs.tail.tail.tail.tail.tail)
section
variable {n : Nat} {μ ρ : Sto}
theorem p30:opI .Pow 10 30 μ=.ok (.int (10 ^ 30)) μ:=op_pow (by decide)
theorem p15:opI .Pow 10 15 μ=.ok (.int (10 ^ 15)) μ:=op_pow (by decide)
theorem ev_lamp (hr:∀cs,Shut (Lf cs::ρ)) (cs:List Int) (days:Nat) (hd:days≤100) :
  callN GL (n+3) i_law_lamp [.loc 0,.int days] (Lf cs::ρ)=.ok (eLamp (lampG days cs).1) (Lf (lampG days cs).2::ρ):=by
 rw[callN_succ G_law_lamp,run_eq rfl]
 have hr':=hr
 have f2:∀(x:Int) μ,opI .Mod x 2 μ=.ok (.int (x % 2)) μ:=fun x μ=>op_mod (by decide)
 have m30:(0:Int)≤10 ^ 30:=by decide
 by_cases h1:turnI (cs.tail.tail.headD 0) % 2=1
 ·have hc:∀μ,kComp (callN GL (n+2)) .z (.one 1) D_law_lamp_z1 D_law_lamp_y1
    [some (.int (turnI (cs.tail.tail.headD 0))),none] ((List.range days).map fun(k:Nat)=>D.int k,none) μ=.ok (.lst ((awayI (turnI (cs.tail.tail.headD 0)) days).map D.int)) μ:=fun μ=>by
   rw[comp_filter (en:=fun(k:Nat)=>D.int k) (g:=fun(k:Nat)=>D.int k) (p:=fun k=>decide (turnI (cs.tail.tail.headD 0) / 2 ^ (k+1) % 2=1))]
   ·simp only[mkL,awayI,List.map_map];rfl
   ·intro k _
    simp! only[fCmp,D_law_lamp_z1,D_law_lamp_y1,op_shr (show(0:Int)≤(k:Int)+1 by lia),f2]
    have e:((k:Int)+1).toNat=k+1:=by lia
    rw[e]
    by_cases hk:turnI (cs.tail.tail.headD 0) / 2 ^ (k+1) % 2=1
    ·simp! only[D_law_lamp_y1,hk,if_true]
    ·simp! only[D_law_lamp_y1,hk,if_false,Bool.false_eq_true]
  simp! only[D_law_lamp,cl_next hr,cl_turn (hr' _),cl_size (hr' _) _ _ m30,p30,f2,h1,kRng_nat (show days≤1000000 by lia),hc,bt_tuple seqOf_lst,lampG,if_true,eLamp,eInts]
 ·simp! only[D_law_lamp,cl_next hr,cl_turn (hr' _),cl_size (hr' _) _ _ m30,p30,f2,h1,lampG,if_false,eLamp,eInts]
theorem ev_day (hr:∀cs,Shut (Lf cs::ρ)) (cs:List Int) (lamps:Nat) :
  callN GL (n+3) i_law_day [.loc 0,.int lamps] (Lf cs::ρ)=.ok (eDay (dayG lamps cs).1) (Lf (dayG lamps cs).2::ρ):=by
 rw[callN_succ G_law_day,run_eq rfl]
 have hr':=hr
 have m30:(0:Int)≤10 ^ 30:=by decide
 have m15:(0:Int)≤10 ^ 15:=by decide
 simp! only[D_law_day,cl_next hr,cl_turn (hr' _),cl_size (hr' _) _ _ m30,cl_size (hr' _) _ _ m15,p30,p15,op_mod (show(0:Int)<(lamps:Int)+1 by lia),dayG,eDay]
theorem pure_lamp8 (l:Lamp):(eLamp l).pure=true:=pure_lamp l
theorem pure_day8 (l:Day):(eDay l).pure=true:=pure_day l
noncomputable def lampsN (h:Int):Nat:=if h / 12 % 5=1 then(1+h / 60 % 8).toNat else(1+h % 3).toNat
noncomputable def daysN (h:Int):Nat:=if h / 12 % 5=1 then(1+h / 480 % 16).toNat else(1+h / 3 % 4).toNat
theorem lampsN_ok (h:Int):1≤lampsN h∧lampsN h≤8:=by
 unfold lampsN
 split<;>lia
theorem daysN_ok (h:Int):1≤daysN h∧daysN h≤16:=by
 unfold daysN
 split<;>lia
noncomputable def bookG (cs:List Int):Book×List Int :=
 let h:=turnI (cs.headD 0)
 let ls:=many (lampG (daysN h)) (lampsN h) cs.tail.tail.tail
 let ds:=many (dayG (lampsN h)) (daysN h) ls.2
 (⟨sizeI (cs.tail.headD 0) (10 ^ 30),sizeI (cs.tail.tail.headD 0) (10 ^ 30),ls.1,ds.1⟩,ds.2)
theorem ev_book (hr:∀cs,Shut (Lf cs::ρ)) (cs:List Int) :
  callN GL (n+4) i_law_book [.loc 0] (Lf cs::ρ)=.ok (eBook (bookG cs).1) (Lf (bookG cs).2::ρ):=by
 rw[callN_succ G_law_book,run_eq rfl]
 have hr':=hr
 have m30:(0:Int)≤10 ^ 30:=by decide
 have fm:∀(x y:Int) μ,0<y→opI .Mod x y μ=.ok (.int (x % y)) μ:=fun x y μ h=>op_mod h
 have fd:∀(x y:Int) μ,0<y→y<1073741824→opI .FloorDiv x y μ=.ok (.int (x / y)) μ:=fun x y μ h h2=>op_div h h2
 have L:=lampsN_ok (turnI (cs.headD 0))
 have Y:=daysN_ok (turnI (cs.headD 0))
 have cl:∀(k:Nat) (cs':List Int) (days:Nat),days≤16→kComp (callN GL (n+3)) .z (.one 2) .nil D_law_book_y1 [some (.loc 0),some (.int days),none] ((List.range k).map fun(j:Nat)=>D.int j,none) (Lf cs'::ρ)
   = .ok (.lst ((many (lampG days) k cs').1.map eLamp)) (Lf (many (lampG days) k cs').2::ρ):=fun k cs' days hd=>by
  have e:=comp_many (m:=.z) (φ:=callN GL (n+3)) (tg:=.one 2) (cs:=.nil) (elt:=D_law_book_y1) (σ0:=[some (.loc 0),some (.int days),none]) (ds:=(List.range k).map fun(j:Nat)=>D.int j)
   (enS:=fun cs=>Lf cs::ρ) (en:=eLamp) (G:=lampG days) (s:=cs') fun d _ s=>by
    simp! only[fCmp,D_law_book_y1,kCall_of (ev_lamp (n:=n) hr s days (by lia)) (pure_lamp8 _) rfl (hr' _)]
  simp only[List.length_map,List.length_range]at e
  exact e
 have cy:∀(k:Nat) (cs':List Int) (lamps:Nat),kComp (callN GL (n+3)) .z (.one 2) .nil D_law_book_y2 [some (.loc 0),some (.int lamps),none] ((List.range k).map fun(j:Nat)=>D.int j,none) (Lf cs'::ρ)
   = .ok (.lst ((many (dayG lamps) k cs').1.map eDay)) (Lf (many (dayG lamps) k cs').2::ρ):=fun k cs' lamps=>by
  have e:=comp_many (m:=.z) (φ:=callN GL (n+3)) (tg:=.one 2) (cs:=.nil) (elt:=D_law_book_y2) (σ0:=[some (.loc 0),some (.int lamps),none]) (ds:=(List.range k).map fun(j:Nat)=>D.int j)
   (enS:=fun cs=>Lf cs::ρ) (en:=eDay) (G:=dayG lamps) (s:=cs') fun d _ s=>by
    simp! only[fCmp,D_law_book_y2,kCall_of (ev_day (n:=n) hr s lamps) (pure_day8 _) rfl (hr' _)]
  simp only[List.length_map,List.length_range]at e
  exact e
 by_cases h1:turnI (cs.headD 0) / 12 % 5=1
 ·have e1:1+turnI (cs.headD 0) / 60 % 8=(lampsN (turnI (cs.headD 0)):Int):=by unfold lampsN;rw[if_pos h1];lia
  have e2:1+turnI (cs.headD 0) / 480 % 16=(daysN (turnI (cs.headD 0)):Int):=by unfold daysN;rw[if_pos h1];lia
  simp! only[D_law_book,cl_next hr,cl_turn (hr' _),cl_size (hr' _) _ _ m30,p30,fm _ _ _ (show(0:Int)<3 by decide),fm _ _ _ (show(0:Int)<4 by decide),fm _ _ _ (show(0:Int)<5 by decide),fm _ _ _ (show(0:Int)<8 by decide),fm _ _ _ (show(0:Int)<16 by decide),
   fd _ _ _ (show(0:Int)<3 by decide) (by decide),fd _ _ _ (show(0:Int)<12 by decide) (by decide),fd _ _ _ (show(0:Int)<60 by decide) (by decide),fd _ _ _ (show(0:Int)<480 by decide) (by decide),h1,e1,e2,kRng_nat (show lampsN (turnI (cs.headD 0))≤1000000 by lia),kRng_nat (show daysN (turnI (cs.headD 0))≤1000000 by lia),cl _ _ _ Y.2,cy,bt_tuple seqOf_lst,bookG,eBook]
 ·have e1:1+turnI (cs.headD 0) % 3=(lampsN (turnI (cs.headD 0)):Int):=by unfold lampsN;rw[if_neg h1];lia
  have e2:1+turnI (cs.headD 0) / 3 % 4=(daysN (turnI (cs.headD 0)):Int):=by unfold daysN;rw[if_neg h1];lia
  simp! only[D_law_book,cl_next hr,cl_turn (hr' _),cl_size (hr' _) _ _ m30,p30,fm _ _ _ (show(0:Int)<3 by decide),fm _ _ _ (show(0:Int)<4 by decide),fm _ _ _ (show(0:Int)<5 by decide),
   fd _ _ _ (show(0:Int)<3 by decide) (by decide),fd _ _ _ (show(0:Int)<12 by decide) (by decide),h1,e1,e2,kRng_nat (show lampsN (turnI (cs.headD 0))≤1000000 by lia),kRng_nat (show daysN (turnI (cs.headD 0))≤1000000 by lia),cl _ _ _ Y.2,cy,bt_tuple seqOf_lst,bookG,eBook]
theorem awayI_ok (t:Int) (n:Nat):(awayI t n).Pairwise (· < ·)∧∀a∈awayI t n,0≤a∧a<n:=by
 unfold awayI
 constructor
 ·rw[List.pairwise_map]
  refine List.Pairwise.filter _ ?_
  exact List.pairwise_lt_range.imp fun h=>by lia
 ·intro a ha
  obtain⟨k,hk,rfl⟩:=List.mem_map.mp ha
  have:=List.mem_range.mp (List.mem_filter.mp hk).1
  lia
theorem bookG_wf (cs:List Int):Wf (bookG cs).1:=by
 have L:=lampsN_ok (turnI (cs.headD 0))
 have Y:=daysN_ok (turnI (cs.headD 0))
 have z30:(1:Int)≤10 ^ 30:=by decide
 have z15:(1:Int)≤10 ^ 15:=by decide
 have hd:(bookG cs).1.days.length=daysN (turnI (cs.headD 0)):=many_len _ _ _
 have hl:(bookG cs).1.lamps.length=lampsN (turnI (cs.headD 0)):=many_len _ _ _
 refine⟨sizeI_nn z30,sizeI_nn z30,by rw[hl];exact L,by rw[hd];exact Y,?_,?_⟩
 ·rw[hd]
  refine many_all (P:=fun l:Lamp=>(0≤l.tank∧l.tank≤10 ^ 30)∧(0≤l.oil∧l.oil≤l.tank)∧l.away.Pairwise (· < ·)∧∀a∈l.away,0≤a∧a<((daysN (turnI (cs.headD 0)):Nat):Int)) (fun s=>?_) _ _
  have s1:=sizeI_nn (c:=s.headD 0) z30
  have s2:=sizeI_nn (c:=s.tail.headD 0) z30
  refine⟨s1,?_,?_⟩
  ·simp only[lampG];lia
  ·simp only[lampG]
   split
   ·exact awayI_ok _ _
   ·exact⟨.nil,fun a h=>by simp at h⟩
 ·rw[hl]
  refine many_all (P:=fun d:Day=>(0≤d.boat∧d.boat≤10 ^ 30)∧(0≤d.most∧d.most≤10 ^ 30)∧(0≤d.price∧d.price≤10 ^ 15)∧(1≤d.length∧d.length≤10 ^ 15)∧0≤d.wanted∧d.wanted≤((lampsN (turnI (cs.headD 0)):Nat):Int)) (fun s=>?_) _ _
  have s1:=sizeI_nn (c:=s.tail.tail.tail.headD 0) z15
  have w1:0≤turnI (s.tail.tail.tail.tail.headD 0) % ((lampsN (turnI (cs.headD 0)):Nat)+1:Int):=Int.emod_nonneg _ (by lia)
  have w2:turnI (s.tail.tail.tail.tail.headD 0) % ((lampsN (turnI (cs.headD 0)):Nat)+1:Int)<(lampsN (turnI (cs.headD 0)):Nat)+1:=Int.emod_lt_of_pos _ (by lia)
  refine⟨sizeI_nn z30,sizeI_nn z30,sizeI_nn z15,?_,?_⟩
  ·simp only[dayG];lia
  ·simp only[dayG];lia
end
end Lr
namespace Lr
open Lp
open PySem
theorem mk_script (ns:List Int):mkL .l (ns.map D.int).reverse []=.ok (.loc 0) [Lf ns]:=by
 have hall:(ns.map D.int).reverse.all (D.pureN 8)=true:=by
  rw[←List.map_reverse,List.all_map,List.all_eq_true]
  exact fun _ _=>rfl
 simp only[mkL,hall,if_true,Lf,List.map_reverse,List.length_nil,List.nil_append]
theorem listOf_lst {μ:Sto} {ds:List D}:listOf μ (.lst ds)=some ds:=rfl
theorem deqs_self {k:Nat} (ih:∀d:D,D.pureN k d=true→deq d d=true):∀ds:List D,ds.all (D.pureN k)=true→deqs ds ds=true
 | [],_=>by rw[deqs]
 | d::r,h=>by
  simp only[List.all_cons,Bool.and_eq_true]at h
  rw[deqs,ih d h.1,deqs_self ih r h.2];rfl
theorem deq_self:∀(k:Nat) (d:D),D.pureN k d=true→deq d d=true
 | 0,d,h=>by cases d<;>simp_all[D.pureN,deq]
 | k+1,d,h=>by
  cases d with
  | tup ds=>rw[deq];exact deqs_self (deq_self k) ds h
  | lst ds=>rw[deq];exact deqs_self (deq_self k) ds h
  | loc n=>simp[D.pureN]at h
  | _=>simp[deq]
theorem cut_take (xs:List D) (k:Nat):cut xs none (some (k:Int))=xs.take k:=by
 simp only[cut,sIx]
 rw[if_neg (by lia)]
 simp[List.take_eq_take_iff]
theorem cut_drop (xs:List D) (k:Nat):cut xs (some (k:Int)) none=xs.drop k:=by
 simp only[cut,sIx]
 rw[if_neg (by lia)]
 by_cases h:k≤xs.length
 ·rw[Int.toNat_natCast,Nat.min_eq_left h,List.take_of_length_le (by simp)]
 ·rw[Int.toNat_natCast,Nat.min_eq_right (by lia),List.drop_eq_nil_of_le (show xs.length≤k by lia)];simp
section
variable {n : Nat} {μ ρ : Sto} {m : Mk} {φ : Phi} {σ : Sl} {es : Exs}
theorem sl_take {xs:List D} {k:Nat}:slD m (.tup xs) none (some (k:Int)) μ=.ok (.tup (xs.take k)) μ:=by rw[slD,cut_take]
theorem sl_drop {xs:List D} {k:Nat}:slD m (.tup xs) (some (k:Int)) none μ=.ok (.tup (xs.drop k)) μ:=by rw[slD,cut_drop]
theorem sl_2 {xs:List D}:slD m (.tup xs) none (some 2) μ=.ok (.tup (xs.take 2)) μ:=sl_take (k:=2)
theorem sl_1r {xs:List D}:slD m (.tup xs) (some 1) none μ=.ok (.tup (xs.drop 1)) μ:=sl_drop (k:=1)
theorem op_cat {xs ys:List D} (h:xs.length+ys.length≤1000000):opD .Add m (.tup xs) (.tup ys) μ=.ok (.tup (xs++ys)) μ:=by
 have:=lim_big
 simp only[opD]
 rw[if_pos (by lia)]
theorem isi_ints {ns:List Int}:isiD .tuple (eInts ns) μ=.ok (.bl true) μ:=rfl
theorem isi_tt {xs:List D}:isiD .tuple (.tup xs) μ=.ok (.bl true) μ:=rfl
theorem kCall_drop {f:Nat} {ds:List D} {d:D} (h:φ f ds μ=.ok d (μ++ρ)) (hd:d.pure=true) (hr:Shut μ):kCall φ false f ds μ=.ok d μ:=by
 rw[kCall,h]
 have e:(μ++ρ).take μ.length=μ:=by simp
 have hr':μ.all (closedO μ.length)=true:=hr
 simp only[backD,Bool.false_eq_true,if_false,e,pure_below _ 8 d hd,hr',and_self,if_true]
theorem at_last {o:O}:(μ++[o])[μ.length]? = some o:=by simp
theorem set_last {o o':O}:(μ++[o]).set μ.length o'=μ++[o']:=by simp
theorem mk_l {ds:List D} (h:ds.all (D.pureN 8)=true):mkL .l ds μ=.ok (.loc μ.length) (μ++[.l ds]):=by simp only[mkL,h,if_true]
theorem seq_last {ds:List D}:seqOf (μ++[.l ds]) (.loc μ.length)=some ds:=by simp only[seqOf,at_last]
theorem kM_last {mt:Mt} {ds:List D} (h:∀d μ,methOk mt d μ=(Lp.listOf μ d).isSome):kM φ mt es σ (.loc μ.length) (μ++[.l ds])=(evEs φ es σ (μ++[.l ds])).bind (mtD mt (.loc μ.length)):=by
 refine kM_ok ?_
 rw[h]
 simp only[Lp.listOf,at_last];rfl
theorem kM_app {ds:List D}:kM φ .append es σ (.loc μ.length) (μ++[.l ds])=(evEs φ es σ (μ++[.l ds])).bind (mtD .append (.loc μ.length)):=kM_last fun _ _=>rfl
theorem mt_app {ds:List D} {d:D} (hd:d.pure=true) (hl:ds.length<1000000):mtD .append (.loc μ.length) [d] (μ++[.l ds])=.ok .non (μ++[.l (ds++[d])]):=by
 have:=lim_big
 simp only[mtD,mtLoc,at_last,itemsO,mtL,one1_one,fits,hd,putL,set_last]
 rw[if_pos ⟨trivial,by lia⟩]
theorem loop_st {α:Type} {tg:Tg} {b:Sms} {xs:List α} {en:α→D} (I:Nat→Sl→Sto→Prop) (h0:I 0 σ μ) (st:∀(k:Nat) a σ μ,xs[k]? = some a→I k σ μ→∃σ' μ',fLp φ tg b (en a) σ μ=.ok (.nx σ') μ'∧I (k+1) σ' μ') :
  ∃σ' μ',kLoop φ tg b σ (xs.map en,none) μ=.ok (.nx σ') μ'∧I xs.length σ' μ':=by
 obtain⟨σ',μ',e,i⟩:=loopR_ok (f:=fLp φ tg b) I (ds:=xs.map en) (σ:=σ) (μ:=μ) 0 h0 fun j d σ μ' e i=>by
  rw[List.getElem?_map]at e
  cases ex:xs[j]? with
  | none=>rw[ex]at e;cases e
  | some a =>
   rw[ex]at e
   cases e
   obtain⟨σ',μ'',e',i'⟩:=st j a σ μ' ex (by simpa using i)
   exact⟨σ',μ'',e',by simpa using i'⟩
 exact⟨σ',μ',e,by simpa using i⟩
theorem comp_none {α:Type} {tg:Tg} {cs:Exs} {elt:Ex} {σ0:Sl} {xs:List α} {en:α→D} (h:∀a∈xs,fCmp φ tg cs elt σ0 (en a) μ=.ok [] μ):kComp φ m tg cs elt σ0 (xs.map en,none) μ=mkL m [] μ:=by
 have e:xs.filter (fun _=>false)=[]:=List.filter_eq_nil_iff.mpr fun a _=>by simp
 rw[comp_filter (g:=en) (p:=fun _=>false) fun a ha=>by rw[h a ha];rfl,e,List.map_nil]
theorem ev_allWhole (hr:Shut μ) (ns:List Int):callN GL (n+2) i_law_all_whole [eInts ns] μ=.ok (.bl true) μ:=by
 rw[callN_succ G_law_all_whole,run_eq rfl]
 have hc:kComp (callN GL (n+1)) .z (.one 0) D_law_all_whole_z1 D_law_all_whole_y1 [none] (ns.map D.int,none) μ=.ok (.lst []) μ:=by
  rw[comp_none fun a _=>by simp! only[fCmp,D_law_all_whole_z1,cl_whole hr]]
  rfl
 have ks:kSeq (eInts ns) μ=.ok (ns.map D.int,none) μ:=rfl
 simp! only[D_law_all_whole,ks,hc,bt_len seqOf_lst,List.length_nil,Int.natCast_zero]
theorem cl_allWhole (hr:Shut μ) (ns:List Int):kCall (callN GL (n+2)) false i_law_all_whole [eInts ns] μ=.ok (.bl true) μ:=kCall_of (ev_allWhole hr ns) rfl rfl hr
theorem ev_sameBook (hr:Shut μ) (b:Book):callN GL (n+3) i_law_same_book [eBook b,eBook b] μ=.ok (.bl true) μ:=by
 rw[callN_succ G_law_same_book,run_eq rfl]
 have ene:cpD .ne (eBook b) (eBook b) μ=.ok (.bl false) μ:=by rw[cp_ne (pure_book b) (pure_book b),deq_self 8 _ (pure_book b)];rfl
 have e4:(4:Int)=((4:Nat):Int):=rfl
 have eb:eBook b=.tup [.int b.store,.int b.oil,.tup (b.lamps.map eLamp),.tup (b.days.map eDay)]:=rfl
 have t2:List.take 2 [D.int b.store,.int b.oil,.tup (b.lamps.map eLamp),.tup (b.days.map eDay)]=[b.store,b.oil].map D.int:=rfl
 have wd:∀d:Day,eDay d=eInts [d.boat,d.most,d.price,d.length,d.wanted]:=fun d=>rfl
 have hc:kComp (callN GL (n+2)) .z (.one 0) D_law_same_book_z1 D_law_same_book_y1 [none] (b.days.map eDay,none) μ=.ok (.lst []) μ:=by
  rw[comp_none fun d _=>by simp! only[fCmp,D_law_same_book_z1,wd,isi_ints,cl_allWhole hr]]
  rfl
 obtain⟨σ',el,v,rfl⟩:=loop_ex (φ:=callN GL (n+2)) (μ:=μ) (tg:=.one 2) (b:=D_law_same_book_b1) (xs:=b.lamps) (en:=eLamp) (σ:=[some (eBook b),some (eBook b),none]) (fun _ σ=>∃v,σ=[some (eBook b),some (eBook b),v]) ⟨none,rfl⟩ (by
  rintro k l σ hl ⟨v,rfl⟩
  refine⟨[some (eBook b),some (eBook b),some (eLamp l)],?_,_,rfl⟩
  have e2:eLamp l=.tup [.int l.tank,.int l.oil,eInts l.away]:=rfl
  have t2:List.take 2 [D.int l.tank,.int l.oil,eInts l.away]=[l.tank,l.oil].map D.int:=rfl
  have s2:slD .z (eLamp l) none (some 2) μ=.ok (eInts [l.tank,l.oil]) μ:=by rw[e2,sl_2,t2];rfl
  have i1:isiD .tuple (eLamp l) μ=.ok (.bl true) μ:=rfl
  simp! only[fLp,D_law_same_book_b1,i1,s2,cl_allWhole hr,ix_l2,isi_ints])
 have s2:slD .z (eBook b) none (some 2) μ=.ok (eInts [b.store,b.oil]) μ:=by rw[eb,sl_2,t2];rfl
 have i0:isiD .tuple (eBook b) μ=.ok (.bl true) μ:=rfl
 have ln:btD .len .z [eBook b] μ=.ok (.int 4) μ:=rfl
 simp! only[D_law_same_book,i0,ln,ene,s2,cl_allWhole hr,ix_b2,ix_b3,isi_tt,el,hc,bt_len seqOf_lst,List.length_nil,Int.natCast_zero]
theorem cl_sameBook (hr:Shut μ) (b:Book):kCall (callN GL (n+3)) false i_law_same_book [eBook b,eBook b] μ=.ok (.bl true) μ:=kCall_of (ev_sameBook hr b) rfl rfl hr
theorem ev_replaced {ds:List D} {k:Nat} {t:D} (hk:k<ds.length) (hl:ds.length≤1000):callN GL (n+1) i_replaced [.tup ds,.int k,t] μ=.ok (.tup (ds.set k t)) μ:=by
 rw[callN_succ G_replaced,run_eq rfl]
 have e1:(k:Int)+1=((k+1:Nat):Int):=by lia
 have c1:opD .Add .z (.tup (ds.take k)) (.tup [t]) μ=.ok (.tup (ds.take k++[t])) μ:=op_cat (by simp;lia)
 have c2:opD .Add .z (.tup (ds.take k++[t])) (.tup (ds.drop (k+1))) μ=.ok (.tup (ds.take k++[t]++ds.drop (k+1))) μ:=op_cat (by simp;lia)
 simp! only[D_replaced,sl_take,e1,sl_drop,c1,c2]
 congr 2
 rw[List.set_eq_take_append_cons_drop,if_pos hk];simp
noncomputable def Day.withBoat (d:Day) (x:Int):Day:=⟨x,d.most,d.price,d.length,d.wanted⟩
noncomputable def Book.withDay (b:Book) (k:Nat) (d:Day):Book:=⟨b.store,b.oil,b.lamps,b.days.set k d⟩
theorem ev_withStore {b:Book} {x:Int}:callN GL (n+1) i_with_store [eBook b,.int x] μ=.ok (eBook ⟨x,b.oil,b.lamps,b.days⟩) μ:=by
 rw[callN_succ G_with_store,run_eq rfl]
 have eb:eBook b=.tup [.int b.store,.int b.oil,.tup (b.lamps.map eLamp),.tup (b.days.map eDay)]:=rfl
 have s1:slD .z (eBook b) (some 1) none μ=.ok (.tup [.int b.oil,.tup (b.lamps.map eLamp),.tup (b.days.map eDay)]) μ:=by rw[eb,sl_1r];rfl
 have c1:opD .Add .z (.tup [.int x]) (.tup [.int b.oil,.tup (b.lamps.map eLamp),.tup (b.days.map eDay)]) μ=.ok (eBook ⟨x,b.oil,b.lamps,b.days⟩) μ:=by rw[op_cat (by simp)];rfl
 simp! only[D_with_store,s1,c1]
theorem ev_withOil (hr:Shut μ) {b:Book} {x:Int}:callN GL (n+2) i_with_oil [eBook b,.int x] μ=.ok (eBook ⟨b.store,x,b.lamps,b.days⟩) μ:=by
 rw[callN_succ G_with_oil,run_eq rfl]
 have c1:kCall (callN GL (n+1)) false i_replaced [eBook b,.int 1,.int x] μ=.ok (eBook ⟨b.store,x,b.lamps,b.days⟩) μ :=
  kCall_of (ev_replaced (ds:=[.int b.store,.int b.oil,.tup (b.lamps.map eLamp),.tup (b.days.map eDay)]) (k:=1) (t:=.int x) (by simp) (by simp)) (pure_book _) rfl hr
 simp! only[D_with_oil,c1]
theorem ev_boatOf {b:Book} {k:Nat} {d:Day} (hd:b.days[k]? = some d):callN GL (n+1) i_boat_of [eBook b,.int k] μ=.ok (.int d.boat) μ:=by
 rw[callN_succ G_boat_of,run_eq rfl]
 simp! only[D_boat_of,ix_b3,ix_map hd,eDay]
theorem pure_days (ds:List Day):(D.tup (ds.map eDay)).pure=true:=by
 simp only[D.pure,pure_tup,List.all_map,List.all_eq_true]
 exact fun d _=>pure_day d
theorem pure_lamps (ds:List Lamp):(D.tup (ds.map eLamp)).pure=true:=by
 simp only[D.pure,pure_tup,List.all_map,List.all_eq_true]
 exact fun d _=>pure_lamp d
theorem unp_book {b:Book} {i j k l:Nat} {σ:Sl}:bindT (.many [i,j,k,l]) (eBook b) σ=some ((((σ.set i (some (.int b.store))).set j (some (.int b.oil))).set k (some (.tup (b.lamps.map eLamp)))).set l (some (.tup (b.days.map eDay)))):=rfl
theorem ev_withDayPart (hr:Shut μ) {b:Book} {k p:Nat} {d e:Day} {x:Int} (hd:b.days[k]? = some d) (hl:b.days.length≤1000) (hp:p<5) (he:eDay e=.tup ([D.int d.boat,.int d.most,.int d.price,.int d.length,.int d.wanted].set p (.int x))):callN GL (n+2) i_with_day_part [eBook b,.int k,.int p,.int x] μ=.ok (eBook (b.withDay k e)) μ:=by
 rw[callN_succ G_with_day_part,run_eq rfl]
 have hk:k<b.days.length:=(List.getElem?_eq_some_iff.mp hd).1
 have c1:kCall (callN GL (n+1)) false i_replaced [eDay d,.int p,.int x] μ=.ok (eDay e) μ:=by
  have q:=ev_replaced (n:=n) (μ:=μ) (ds:=[D.int d.boat,.int d.most,.int d.price,.int d.length,.int d.wanted]) (k:=p) (t:=.int x) hp (by simp)
  rw[←he]at q
  exact kCall_of q (pure_day e) rfl hr
 have c2:kCall (callN GL (n+1)) false i_replaced [.tup (b.days.map eDay),.int k,eDay e] μ=.ok (.tup ((b.days.set k e).map eDay)) μ:=by
  have q:=ev_replaced (n:=n) (μ:=μ) (ds:=b.days.map eDay) (k:=k) (t:=eDay e) (by simpa using hk) (by simpa using hl)
  rw[←List.map_set]at q
  exact kCall_of q (pure_days _) rfl hr
 simp! only[D_with_day_part,unp_book,ix_map hd,c1,c2,eBook,Book.withDay]
theorem ev_withBoat (hr:Shut μ) {b:Book} {k:Nat} {d:Day} (hd:b.days[k]? = some d) (hl:b.days.length≤1000) (x:Int):callN GL (n+3) i_with_boat [eBook b,.int k,.int x] μ=.ok (eBook (b.withDay k (d.withBoat x))) μ:=by
 rw[callN_succ G_with_boat,run_eq rfl]
 have c1:=kCall_of (ev_withDayPart (n:=n) (μ:=μ) (p:=0) (e:=d.withBoat x) (x:=x) hr hd hl (by lia) rfl) (pure_book _) rfl hr
 rw[show((0:Nat):Int)=0 from rfl]at c1
 simp! only[D_with_boat,c1]
noncomputable def Book.moved (b:Book) (i j:Nat) (d e:Day):Book:=(b.withDay i (d.withBoat 0)).withDay j (((b.days.set i (d.withBoat 0)).getD j e).withBoat (((b.days.set i (d.withBoat 0)).getD j e).boat+d.boat))
theorem ev_boatMoved (hr:Shut μ) {b:Book} {i j:Nat} {d e:Day} (hd:b.days[i]? = some d) (he:b.days[j]? = some e) (hl:b.days.length≤1000):callN GL (n+4) i_boat_moved [eBook b,.int i,.int j] μ=.ok (eBook (b.moved i j d e)) μ:=by
 rw[callN_succ G_boat_moved,run_eq rfl]
 have hj:j<b.days.length:=(List.getElem?_eq_some_iff.mp he).1
 have e2:(b.withDay i (d.withBoat 0)).days[j]? = some ((b.days.set i (d.withBoat 0)).getD j e):=by
  show(b.days.set i (d.withBoat 0))[j]? = _
  rw[List.getD_eq_getElem?_getD,List.getElem?_eq_getElem (by simpa using hj)];rfl
 simp! only[D_boat_moved,kCall_of (ev_withBoat (n:=n) hr hd hl 0) (pure_book _) rfl hr,kCall_of (ev_boatOf (n:=n+2) (μ:=μ) e2) rfl rfl hr,kCall_of (ev_boatOf (n:=n+2) (μ:=μ) hd) rfl rfl hr,
  kCall_of (ev_withBoat (n:=n) (b:=b.withDay i (d.withBoat 0)) hr e2 (by show(b.days.set i _).length≤1000;simpa using hl) (((b.days.set i (d.withBoat 0)).getD j e).boat+d.boat)) (pure_book _) rfl hr,Book.moved]
noncomputable def Lamp.cut (l:Lamp) (many:Int):Lamp:=⟨l.tank,l.oil,l.away.filter fun a=>decide (a<many)⟩
noncomputable def Book.cut (b:Book) (many:Nat):Book:=⟨b.store,b.oil,b.lamps.map fun l=>l.cut many,b.days.take many⟩
theorem ev_lampCut {l:Lamp} {many:Int}:callN GL (n+1) i_lamp_cut_to [eLamp l,.int many] μ=.ok (eLamp (l.cut many)) μ:=by
 rw[callN_succ G_lamp_cut_to,run_eq rfl]
 have ks:kSeq (eInts l.away) μ=.ok (l.away.map D.int,none) μ:=rfl
 have hc:kComp (callN GL n) .z (.one 1) D_lamp_cut_to_z1 D_lamp_cut_to_y1 [some (.int many),none] (l.away.map D.int,none) μ=.ok (.lst ((l.cut many).away.map D.int)) μ:=by
  rw[comp_filter (g:=D.int) (p:=fun a=>decide (a<many)) fun a _=>by
   by_cases h:a<many
   ·simp! only[fCmp,D_lamp_cut_to_z1,D_lamp_cut_to_y1,h,if_true]
   ·simp! only[fCmp,D_lamp_cut_to_z1,D_lamp_cut_to_y1,h,if_false,Bool.false_eq_true]]
  rfl
 have ul:∀σ:Sl,bindT (.many [2,3,4]) (eLamp l) σ=some (((σ.set 2 (some (.int l.tank))).set 3 (some (.int l.oil))).set 4 (some (eInts l.away))):=fun _=>rfl
 simp! only[D_lamp_cut_to,ul,ks,hc,bt_tuple seqOf_lst]
 rfl
theorem ev_cutTo (hr:Shut μ) {b:Book} {many:Nat}:callN GL (n+2) i_cut_to [eBook b,.int many] μ=.ok (eBook (b.cut many)) μ:=by
 rw[callN_succ G_cut_to,run_eq rfl]
 have hc:kComp (callN GL (n+1)) .z (.one 1) .nil D_cut_to_y1 [some (.int many),none] (b.lamps.map eLamp,none) μ=.ok (.lst ((b.cut many).lamps.map eLamp)) μ:=by
  rw[comp_map (g:=fun l=>eLamp (l.cut many)) fun l _=>by
   simp! only[fCmp,D_cut_to_y1,kCall_of (ev_lampCut (n:=n) (μ:=μ) (l:=l) (many:=many)) (pure_lamp8 _) rfl hr]]
  simp only[mkL_z,Book.cut,List.map_map];rfl
 simp! only[D_cut_to,unp_book,hc,bt_tuple seqOf_lst,sl_take,←List.map_take]
 rfl
noncomputable def Lamp.idle (l:Lamp) (days:Nat):Lamp:=⟨l.tank,l.oil,(List.range days).map fun(k:Nat)=>(k:Int)⟩
theorem bt_tupleRange {k:Nat} (h:k≤1000000):btD .tupleRange m [.int k] μ=.ok (eInts ((List.range k).map fun(i:Nat)=>(i:Int))) μ:=by
 have:=lim_big
 simp only[btD,one1_one,range1]
 rw[if_pos ⟨by lia,by lia⟩,Int.toNat_natCast]
 simp only[eInts,List.map_map];rfl
theorem ev_leftOut (hr:Shut μ) {b:Book} {k:Nat} {l:Lamp} (hl:b.lamps[k]? = some l) (hn:b.lamps.length≤1000) (hd:b.days.length≤1000):callN GL (n+2) i_left_out [eBook b,.int k] μ=.ok (eBook ⟨b.store,b.oil,b.lamps.set k (l.idle b.days.length),b.days⟩) μ:=by
 rw[callN_succ G_left_out,run_eq rfl]
 have hk:k<b.lamps.length:=(List.getElem?_eq_some_iff.mp hl).1
 have ul:∀(i j k:Nat) (σ:Sl),bindT (.many [i,j,k]) (eLamp l) σ=some (((σ.set i (some (.int l.tank))).set j (some (.int l.oil))).set k (some (eInts l.away))):=fun _ _ _ _=>rfl
 have c2:kCall (callN GL (n+1)) false i_replaced [.tup (b.lamps.map eLamp),.int k,.tup [.int l.tank,.int l.oil,eInts ((List.range b.days.length).map fun(i:Nat)=>(i:Int))]] μ=.ok (.tup ((b.lamps.set k (l.idle b.days.length)).map eLamp)) μ:=by
  have e:=ev_replaced (n:=n) (μ:=μ) (ds:=b.lamps.map eLamp) (k:=k) (t:=eLamp (l.idle b.days.length)) (by simpa using hk) (by simpa using hn)
  rw[←List.map_set]at e
  exact kCall_of e (pure_lamps _) rfl hr
 simp! only[D_left_out,unp_book,ix_map hl,ul,bt_len seqOf_tup,List.length_map,bt_tupleRange (show b.days.length≤1000000 by lia),c2,eBook]
end
end Lr
namespace Lr
open Lp
open PySem
section
variable {n : Nat} {μ : Sto}
theorem ints_snoc {ns:List Int} {a:Int} (h:ns.length≤1000):opD .Add .z (eInts ns) (.tup [.int a]) μ=.ok (eInts (ns++[a])) μ:=by
 show opD .Add .z (.tup (ns.map D.int)) (.tup [.int a]) μ=_
 rw[op_cat (by simp;omega)]
 simp[eInts]
theorem filter_take (p:Int→Bool) (xs:List Int) (k:Nat) (a:Int) (h:xs[k]? = some a):(xs.take (k+1)).filter p=if p a=true then(xs.take k).filter p++[a]else(xs.take k).filter p:=by
 rw[List.take_add_one,h,List.filter_append]
 by_cases hp:p a=true
 ·simp[hp]
 ·simp[hp]
theorem rising_len:∀(xs:List Int) (lo:Int) (n:Nat),xs.Pairwise (· < ·)→(∀a∈xs,lo≤a∧a<n)→lo≤n→(xs.length:Int)≤n-lo
 | [],lo,n,_,_,h=>by simp;omega
 | x::r,lo,n,hp,hb,h=>by
  have hx:=hb x List.mem_cons_self
  have hp':=List.pairwise_cons.mp hp
  have:=rising_len r (x+1) n hp'.2 (fun a ha=>⟨by have:=hp'.1 a ha;omega,(hb a (List.mem_cons_of_mem _ ha)).2⟩) (by omega)
  simp;omega
theorem ev_lawCut (hr:Shut μ) {b:Book} (hb:Wf b) {many:Nat}:∃ρ,callN GL (n+1) i_law_cut [eBook b,.int many] μ=.ok (eBook (b.cut many)) (μ++ρ):=by
 rw[callN_succ G_law_cut,run_eq rfl]
 have q1:=hb.lamps
 have q2:=hb.days
 -- the days of a lamp
 have inner:∀(l:Lamp) (v0 v1 v2 v3 v5:Option D) (μ':Sto),v1=some (.int many)→l.away.length≤100→∃v5',kLoop (callN GL n) (.one 5) D_law_cut_b1 [v0,v1,v2,v3,some (.tup []),v5] (l.away.map D.int,none) μ'=.ok (.nx [v0,v1,v2,v3,some (eInts (l.cut many).away),v5']) μ':=by
  intro l v0 v1 v2 v3 v5 μ' e1 hlen
  subst e1
  obtain⟨σ',e,v,rfl⟩:=loop_ex (φ:=callN GL n) (μ:=μ') (tg:=.one 5) (b:=D_law_cut_b1) (xs:=l.away) (en:=D.int) (σ:=[v0,some (.int many),v2,v3,some (.tup []),v5])
   (fun k σ=>∃v,σ=[v0,some (.int many),v2,v3,some (eInts ((l.away.take k).filter fun a=>decide (a<(many:Int)))),v]) ⟨v5,rfl⟩ (by
    rintro k a σ ha ⟨v,rfl⟩
    have hf:=filter_take (fun a=>decide (a<(many:Int))) l.away k a ha
    have hl2:((l.away.take k).filter fun a=>decide (a<(many:Int))).length≤1000:=by
     have:=List.length_filter_le (fun a=>decide (a<(many:Int))) (l.away.take k)
     have:=List.length_take_le k l.away
     have:(l.away.take k).length≤l.away.length:=by simp;omega
     omega
    refine⟨[v0,some (.int many),v2,v3,some (eInts ((l.away.take (k+1)).filter fun a=>decide (a<(many:Int)))),some (.int a)],?_,_,rfl⟩
    rw[hf]
    by_cases h:a<(many:Int)
    ·simp! only[fLp,D_law_cut_b1,h,ints_snoc hl2,if_true]
    ·simp! only[fLp,D_law_cut_b1,h,if_false,Bool.false_eq_true])
  refine⟨v,?_⟩
  rw[e]
  simp only[List.take_length];rfl
 obtain⟨σ',μ',e,⟨rfl,v3,v4,v5,rfl⟩⟩:=loop_st (φ:=callN GL n) (μ:=μ++[.l []]) (tg:=.one 3) (b:=D_law_cut_b2) (xs:=b.lamps) (en:=eLamp) (σ:=[some (eBook b),some (.int many),some (.loc μ.length),none,none,none])
  (fun k σ μ'=>μ'=μ++[.l (((b.cut many).lamps.take k).map eLamp)]∧∃v3 v4 v5,σ=[some (eBook b),some (.int many),some (.loc μ.length),v3,v4,v5]) ⟨by simp,none,none,none,rfl⟩ (by
   rintro k l σ μ' hl ⟨rfl,v3,v4,v5,rfl⟩
   have hw:=hb.lamp l (List.mem_of_getElem? hl)
   have haway:l.away.length≤100:=by
    have:=rising_len l.away 0 b.days.length hw.2.2.1 hw.2.2.2 (by omega)
    omega
   obtain⟨v5',i1⟩:=inner l (some (eBook b)) (some (.int many)) (some (.loc μ.length)) (some (eLamp l)) v5 (μ++[.l (((b.cut many).lamps.take k).map eLamp)]) rfl haway
   have ek:(b.cut many).lamps[k]? = some (l.cut many):=by simp[Book.cut,hl]
   have et:((b.cut many).lamps.take (k+1)).map eLamp=((b.cut many).lamps.take k).map eLamp++[eLamp (l.cut many)]:=by
    rw[List.take_add_one,ek];simp
   have hlen:(((b.cut many).lamps.take k).map eLamp).length<1000000:=by
    have:(b.cut many).lamps.length=b.lamps.length:=by simp[Book.cut]
    simp;omega
   have ks:∀μ,kSeq (eInts l.away) μ=.ok (l.away.map D.int,none) μ:=fun _=>rfl
   refine⟨[some (eBook b),some (.int many),some (.loc μ.length),some (eLamp l),some (eInts (l.cut many).away),v5'],μ++[.l (((b.cut many).lamps.take (k+1)).map eLamp)],?_,rfl,_,_,_,rfl⟩
   have ap:=mt_app (μ:=μ) (ds:=((b.cut many).lamps.take k).map eLamp) (d:=eLamp (l.cut many)) (pure_lamp8 _) hlen
   have ap':mtD .append (.loc μ.length) [.tup [.int l.tank,.int l.oil,eInts (l.cut many).away]] (μ++[.l (((b.cut many).lamps.take k).map eLamp)])=.ok .non (μ++[.l (((b.cut many).lamps.take (k+1)).map eLamp)]):=by rw[et];exact ap
   simp! only[fLp,D_law_cut_b2,ix_l2,ks,i1,ix_l0,ix_l1,kM_app,ap'])
 refine⟨[.l ((b.cut many).lamps.map eLamp)],?_⟩
 have mk0:mkL .l [] μ=.ok (.loc μ.length) (μ++[.l []]):=mk_l rfl
 have ef:((b.cut many).lamps.take b.lamps.length).map eLamp=(b.cut many).lamps.map eLamp:=by
  rw[List.take_of_length_le (by simp[Book.cut])]
 rw[ef]at e
 simp! only[D_law_cut,mk0,ix_b2,e,ix_b0,ix_b1,bt_tuple seq_last,ix_b3,sl_take,←List.map_take]
 rfl
theorem bt_listRange {k:Nat} (h:k≤1000000):btD .listRange .z [.int k] μ=.ok (.lst (((List.range k).map fun(i:Nat)=>(i:Int)).map D.int)) μ:=by
 have:=lim_big
 simp only[btD,one1_one,range1]
 rw[if_pos ⟨by omega,by omega⟩,Int.toNat_natCast]
 simp only[mkL_z,List.map_map];rfl
theorem ev_lawSpared (hr:Shut μ) {b:Book} (hb:Wf b) {j:Nat} {l0:Lamp} (hj:b.lamps[j]? = some l0):∃ρ,callN GL (n+1) i_law_spared [eBook b,.int j] μ=.ok (eBook ⟨b.store,b.oil,b.lamps.set j (l0.idle b.days.length),b.days⟩) (μ++ρ):=by
 rw[callN_succ G_law_spared,run_eq rfl]
 have q1:=hb.lamps
 have q2:=hb.days
 obtain⟨σ',μ',e,⟨rfl,v3,v4,rfl⟩⟩:=loop_st (φ:=callN GL n) (μ:=μ++[.l []]) (tg:=.one 3) (b:=D_law_spared_b1) (xs:=List.range (b.lamps.map eLamp).length) (en:=fun(i:Nat)=>D.int i) (σ:=[some (eBook b),some (.int j),some (.loc μ.length),none,none])
  (fun k σ μ'=>μ'=μ++[.l (((b.lamps.set j (l0.idle b.days.length)).take k).map eLamp)]∧∃v3 v4,σ=[some (eBook b),some (.int j),some (.loc μ.length),v3,v4]) ⟨by simp,none,none,rfl⟩ (by
   rintro k a σ μ' ha ⟨rfl,v3,v4,rfl⟩
   have ha2:a=k∧k<b.lamps.length:=by
    obtain⟨h1,h2⟩:=List.getElem?_eq_some_iff.mp ha
    simp at h1 h2
    omega
   obtain⟨rfl,hk⟩:=ha2
   have el:b.lamps[a]? = some b.lamps[a]:=List.getElem?_eq_getElem hk
   have hlen:(((b.lamps.set j (l0.idle b.days.length)).take a).map eLamp).length<1000000:=by simp;omega
   have et:∀l',(b.lamps.set j (l0.idle b.days.length))[a]? = some l'→((b.lamps.set j (l0.idle b.days.length)).take (a+1)).map eLamp=((b.lamps.set j (l0.idle b.days.length)).take a).map eLamp++[eLamp l']:=fun l' h=>by
    rw[List.take_add_one,h];simp
   by_cases hj':(a:Int)=(j:Int)
   ·have haj:a=j:=by omega
    subst haj
    have e0:b.lamps[a]=l0:=by rw[el]at hj;exact Option.some.inj hj
    have es:(b.lamps.set a (l0.idle b.days.length))[a]? = some (l0.idle b.days.length):=by rw[List.getElem?_set_self (by omega)]
    have ap:=mt_app (μ:=μ) (ds:=((b.lamps.set a (l0.idle b.days.length)).take a).map eLamp) (d:=eLamp (l0.idle b.days.length)) (pure_lamp8 _) hlen
    rw[←et _ es]at ap
    have ap':mtD .append (.loc μ.length) [.tup [.int l0.tank,.int l0.oil,.tup (((List.range b.days.length).map fun(i:Nat)=>(i:Int)).map D.int)]] (μ++[.l (((b.lamps.set a (l0.idle b.days.length)).take a).map eLamp)])=.ok .non (μ++[.l (((b.lamps.set a (l0.idle b.days.length)).take (a+1)).map eLamp)]):=ap
    refine⟨[some (eBook b),some (.int a),some (.loc μ.length),some (.int a),some (.tup (((List.range b.days.length).map fun(i:Nat)=>(i:Int)).map D.int))],_,?_,rfl,_,_,rfl⟩
    simp! only[fLp,D_law_spared_b1,ix_b2,ix_map hj,ix_l2,ix_b3,bt_len seqOf_tup,List.length_map,bt_listRange (show b.days.length≤1000000 by omega),bt_tuple seqOf_lst,ix_l0,ix_l1,kM_app,ap']
   ·have haj:j≠a:=by omega
    have es:(b.lamps.set j (l0.idle b.days.length))[a]? = some b.lamps[a]:=by rw[List.getElem?_set_ne haj];exact el
    have ap:=mt_app (μ:=μ) (ds:=((b.lamps.set j (l0.idle b.days.length)).take a).map eLamp) (d:=eLamp b.lamps[a]) (pure_lamp8 _) hlen
    rw[←et _ es]at ap
    have ap':mtD .append (.loc μ.length) [.tup [.int b.lamps[a].tank,.int b.lamps[a].oil,eInts b.lamps[a].away]] (μ++[.l (((b.lamps.set j (l0.idle b.days.length)).take a).map eLamp)])=.ok .non (μ++[.l (((b.lamps.set j (l0.idle b.days.length)).take (a+1)).map eLamp)]):=ap
    refine⟨[some (eBook b),some (.int j),some (.loc μ.length),some (.int a),some (eInts b.lamps[a].away)],_,?_,rfl,_,_,rfl⟩
    simp! only[fLp,D_law_spared_b1,ix_b2,ix_map el,ix_l2,hj',ix_l0,ix_l1,kM_app,ap'])
 refine⟨[.l ((b.lamps.set j (l0.idle b.days.length)).map eLamp)],?_⟩
 have mk0:mkL .l [] μ=.ok (.loc μ.length) (μ++[.l []]):=mk_l rfl
 have ef:((b.lamps.set j (l0.idle b.days.length)).take (List.range (b.lamps.map eLamp).length).length).map eLamp=(b.lamps.set j (l0.idle b.days.length)).map eLamp:=by
  rw[List.take_of_length_le (by simp)]
 rw[ef]at e
 simp! only[D_law_spared,mk0,ix_b2,bt_len seqOf_tup,kRng_nat (show(b.lamps.map eLamp).length≤1000000 by simp;omega),e,ix_b0,ix_b1,bt_tuple seq_last,ix_b3]
 rfl
theorem set_lastD {ds:List D} {k:Nat} {d:D} (hk:k<ds.length) (hd:d.pure=true):setD (.loc μ.length) (.int k) d (μ++[.l ds])=.ok () (μ++[.l (ds.set k d)]):=by
 have e:ixN ds.length (k:Int)=some k:=by simp[ixN,hk]
 simp only[setD,at_last,itemsO,e,fits,hd,if_true,putL,set_last,Res.bind_ok]
theorem ix_last {ns:List Int} {k:Nat} {a:Int} (h:ns[k]? = some a):ixD (.loc μ.length) (.int k) (μ++[.l (ns.map D.int)])=.ok (.int a) (μ++[.l (ns.map D.int)]):=ix_nat seq_last (by rw[List.getElem?_map,h];rfl)
noncomputable def boatsI (b:Book) (i j:Nat) (d e:Day):List Int:=((b.days.map (·.boat)).set j (e.boat+d.boat)).set i ((((b.days.map (·.boat)).set j (e.boat+d.boat)).getD i 0)-d.boat)
theorem moved_days {b:Book} {i j:Nat} {d e:Day} (hd:b.days[i]? = some d) (he:b.days[j]? = some e):(List.range b.days.length).map (fun k=>(b.days.getD k d).withBoat ((boatsI b i j d e).getD k 0))=(b.moved i j d e).days:=by
 have hi:i<b.days.length:=(List.getElem?_eq_some_iff.mp hd).1
 have hj:j<b.days.length:=(List.getElem?_eq_some_iff.mp he).1
 have hm:(b.moved i j d e).days=(b.days.set i (d.withBoat 0)).set j (((b.days.set i (d.withBoat 0)).getD j e).withBoat (((b.days.set i (d.withBoat 0)).getD j e).boat+d.boat)):=rfl
 rw[hm]
 refine List.ext_getElem? fun k=>?_
 by_cases hk:k<b.days.length
 ·rw[List.getElem?_map,List.getElem?_range hk,Option.map_some]
  have ek:b.days[k]? = some b.days[k]:=List.getElem?_eq_getElem hk
  by_cases hkj:j=k
  ·subst hkj
   rw[List.getElem?_set_self (by simpa using hj)]
   have ee:b.days[j]=e:=by rw[ek]at he;exact Option.some.inj he
   by_cases hij:i=j
   ·subst hij
    have ed:d=e:=by rw[hd]at he;exact Option.some.inj he
    subst ed
    simp only[boatsI,List.getD_eq_getElem?_getD,ek,ee,Option.getD_some]
    rw[List.getElem?_set_self (by simpa using hi),List.getElem?_set_self (by simpa using hi),List.getElem?_set_self (by simpa using hi)]
    simp only[Option.getD_some,Day.withBoat]
    congr 2;omega
   ·have n1:(b.days.set i (d.withBoat 0))[j]? = some e:=by rw[List.getElem?_set_ne hij];exact he
    simp only[boatsI,List.getD_eq_getElem?_getD,he,n1,Option.getD_some]
    rw[List.getElem?_set_ne hij,List.getElem?_set_self (by simpa using hj)]
    rfl
  ·rw[List.getElem?_set_ne hkj]
   by_cases hki:i=k
   ·subst hki
    have ee:b.days[i]=d:=by rw[ek]at hd;exact Option.some.inj hd
    rw[List.getElem?_set_self (by simpa using hi)]
    simp only[boatsI,List.getD_eq_getElem?_getD,hd,Option.getD_some]
    rw[List.getElem?_set_self (by simpa using hi),List.getElem?_set_ne hkj,List.getElem?_map,hd]
    simp only[Option.map_some,Option.getD_some]
    congr 2;omega
   ·rw[List.getElem?_set_ne hki,ek]
    simp only[boatsI,List.getD_eq_getElem?_getD,ek,Option.getD_some]
    rw[List.getElem?_set_ne hki,List.getElem?_set_ne hkj,List.getElem?_map,ek]
    rfl
 ·rw[List.getElem?_eq_none (by simp;omega),List.getElem?_eq_none (by simp;omega)]
theorem ev_lawMoved (hr:Shut μ) {b:Book} (hb:Wf b) {i j:Nat} {d e:Day} (hd:b.days[i]? = some d) (he:b.days[j]? = some e):∃ρ,callN GL (n+1) i_law_moved [eBook b,.int i,.int j] μ=.ok (eBook (b.moved i j d e)) (μ++ρ):=by
 rw[callN_succ G_law_moved,run_eq rfl]
 have q2:=hb.days
 have hi:i<b.days.length:=(List.getElem?_eq_some_iff.mp hd).1
 have hj:j<b.days.length:=(List.getElem?_eq_some_iff.mp he).1
 have h1:kComp (callN GL n) .l (.one 0) .nil D_law_moved_y1 [none] (b.days.map eDay,none) μ=.ok (.loc μ.length) (μ++[.l ((b.days.map (·.boat)).map D.int)]):=by
  rw[comp_map (g:=fun d=>D.int d.boat) fun d _=>by simp! only[fCmp,D_law_moved_y1,ix_d0]]
  have e1:b.days.map (fun d=>D.int d.boat)=(b.days.map (·.boat)).map D.int:=by rw[List.map_map];rfl
  rw[e1,mk_l]
  rw[List.all_map,List.all_eq_true]
  exact fun _ _=>rfl
 have bi:(b.days.map (·.boat))[i]? = some d.boat:=by rw[List.getElem?_map,hd];rfl
 have bj:(b.days.map (·.boat))[j]? = some e.boat:=by rw[List.getElem?_map,he];rfl
 have s1:=set_lastD (μ:=μ) (ds:=(b.days.map (·.boat)).map D.int) (k:=j) (d:=.int (e.boat+d.boat)) (by simpa using hj) rfl
 rw[←List.map_set]at s1
 have b1:((b.days.map (·.boat)).set j (e.boat+d.boat))[i]? = some (((b.days.map (·.boat)).set j (e.boat+d.boat)).getD i 0):=by
  rw[List.getD_eq_getElem?_getD,List.getElem?_eq_getElem (by simpa using hi)];rfl
 have s2:=set_lastD (μ:=μ) (ds:=((b.days.map (·.boat)).set j (e.boat+d.boat)).map D.int) (k:=i) (d:=.int ((((b.days.map (·.boat)).set j (e.boat+d.boat)).getD i 0)-d.boat)) (by simpa using hi) rfl
 rw[←List.map_set]at s2
 have s2':setD (.loc μ.length) (.int i) (.int ((((b.days.map (·.boat)).set j (e.boat+d.boat)).getD i 0)-d.boat)) (μ++[.l (((b.days.map (·.boat)).set j (e.boat+d.boat)).map D.int)])=.ok () (μ++[.l ((boatsI b i j d e).map D.int)]):=s2
 have lb:(boatsI b i j d e).length=b.days.length:=by simp[boatsI]
 have h2:kComp (callN GL n) .z (.one 2) .nil D_law_moved_y2 [some (.loc μ.length),some (eBook b),none] ((List.range b.days.length).map fun(k:Nat)=>D.int k,none) (μ++[.l ((boatsI b i j d e).map D.int)])=.ok (.lst ((b.moved i j d e).days.map eDay)) (μ++[.l ((boatsI b i j d e).map D.int)]):=by
  rw[comp_map (en:=fun(k:Nat)=>D.int k) (g:=fun k=>eDay ((b.days.getD k d).withBoat ((boatsI b i j d e).getD k 0))) fun k hk=>by
   have hk':k<b.days.length:=List.mem_range.mp hk
   have ek:b.days[k]? = some (b.days.getD k d):=by rw[List.getD_eq_getElem?_getD,List.getElem?_eq_getElem hk'];rfl
   have eb:(boatsI b i j d e)[k]? = some ((boatsI b i j d e).getD k 0):=by rw[List.getD_eq_getElem?_getD,List.getElem?_eq_getElem (by omega)];rfl
   generalize b.days.getD k d=dk at ek
   generalize (boatsI b i j d e).getD k 0=x at eb
   have sl:∀μ,slD .z (eDay dk) (some 1) none μ=.ok (.tup [.int dk.most,.int dk.price,.int dk.length,.int dk.wanted]) μ:=fun μ=>by
    show slD .z (.tup [.int dk.boat,.int dk.most,.int dk.price,.int dk.length,.int dk.wanted]) (some 1) none μ=_
    rw[sl_1r];rfl
   have c1:∀μ,opD .Add .z (.tup [.int x]) (.tup [.int dk.most,.int dk.price,.int dk.length,.int dk.wanted]) μ=.ok (eDay (dk.withBoat x)) μ:=fun μ=>by rw[op_cat (by simp)];rfl
   simp! only[fCmp,D_law_moved_y2,ix_last eb,ix_b3,ix_map ek,sl,c1]]
  rw[mkL_z,←moved_days hd he,List.map_map];rfl
 refine⟨[.l ((boatsI b i j d e).map D.int)],?_⟩
 simp! only[D_law_moved,ix_b3,h1,ix_last bj,ix_last bi,s1,ix_last b1,ix_map hd,ix_d0,s2',bt_len seq_last,List.length_map,lb,kRng_nat (show b.days.length≤1000000 by omega),h2,ix_b0,ix_b1,ix_b2,bt_tuple seqOf_lst]
 rfl
end
theorem law04 (ns:List Int):∃μ',callN GL 6 i_law_k04 [.lst (ns.map D.int)] []=.ok (.bl true) μ':=by
 rw[callN_succ G_law_k04,run_eq rfl]
 have hr:∀cs,Shut [Lf cs]:=fun cs=>rfl
 have hb:=bookG_wf ns
 have ev:=ev_book (n:=1) (ρ:=[]) (fun _=>rfl) ns
 generalize (bookG ns).1=b at hb ev
 generalize (bookG ns).2=cs at ev
 have q1:=hb.days
 have q2:=hb.lamps
 have m30:(0:Int)≤10 ^ 30:=by decide
 have fm:∀(x:Int) (k:Nat) μ,1≤k→opI .Mod x k μ=.ok (.int ((x % k).toNat:Nat)) μ:=fun x k μ h=>by
  rw[op_mod (by omega)]
  congr 2
  have:=Int.emod_nonneg x (show(k:Int)≠0 by omega)
  omega
 have fmlt:∀(x:Int) (k:Nat),1≤k→(x % k).toNat<k:=fun x k h=>by
  have:=Int.emod_nonneg x (show(k:Int)≠0 by omega)
  have:=Int.emod_lt_of_pos x (show(0:Int)<k by omega)
  omega
 obtain⟨σ',μ',e,⟨cs',rfl⟩,v3,v4,v5,v6,v7,v8,rfl⟩:=loop_st (φ:=callN GL 5) (μ:=[Lf cs]) (tg:=.one 3) (b:=D_law_k04_b1) (xs:=List.range 3) (en:=fun(j:Nat)=>D.int j)
   (σ:=[some (.lst (ns.map D.int)),some (.loc 0),some (eBook b),none,none,none,none,none,none]) (fun j σ μ=>(∃cs,μ=[Lf cs])∧∃v3 v4 v5 v6 v7 v8,σ=[some (.lst (ns.map D.int)),some (.loc 0),some (eBook b),v3,v4,v5,v6,v7,v8]) ⟨⟨cs,rfl⟩,none,none,none,none,none,none,rfl⟩ (by
    rintro j a σ μ ha ⟨⟨cs,rfl⟩,v3,v4,v5,v6,v7,v8,rfl⟩
    -- what is drawn
    have nx:∀cs,kCall (callN GL 5) false i_law_next [.loc 0] [Lf cs]=.ok (.int (cs.headD 0)) [Lf cs.tail]:=fun cs=>cl_next (n:=4) (ρ:=[]) (fun _=>rfl) cs
    have tn:∀c cs,kCall (callN GL 5) false i_law_turn [.int c] [Lf cs]=.ok (.int (turnI c)) [Lf cs]:=fun c cs=>cl_turn (n:=4) (hr _) c
    have sz:∀c cs,kCall (callN GL 5) false i_law_size [.int c,.int (10 ^ 30)] [Lf cs]=.ok (.int (sizeI c (10 ^ 30))) [Lf cs]:=fun c cs=>cl_size (n:=3) (hr _) c _ m30
    generalize hx1:(turnI (cs.headD 0) % (b.days.length:Int)).toNat=x1
    generalize hx2:(turnI (cs.tail.headD 0) % (b.lamps.length:Int)).toNat=x2
    generalize hx3:(turnI (cs.tail.tail.headD 0) % (b.days.length:Int)).toNat=x3
    generalize hx4:(turnI (cs.tail.tail.tail.headD 0) % (b.days.length:Int)).toNat=x4
    generalize hx5:sizeI (cs.tail.tail.tail.tail.headD 0) (10 ^ 30)=x5
    have l2:x2<b.lamps.length:=by rw[←hx2];exact fmlt _ _ q2.1
    have l3:x3<b.days.length:=by rw[←hx3];exact fmlt _ _ q1.1
    have l4:x4<b.days.length:=by rw[←hx4];exact fmlt _ _ q1.1
    have e2:b.lamps[x2]? = some b.lamps[x2]:=List.getElem?_eq_getElem l2
    have e3:b.days[x3]? = some b.days[x3]:=List.getElem?_eq_getElem l3
    have e4:b.days[x4]? = some b.days[x4]:=List.getElem?_eq_getElem l4
    have hsum:(1:Int)+((x1:Nat):Int)=((1+x1:Nat):Int):=by omega
    generalize hcs5:cs.tail.tail.tail.tail.tail=cs5
    have H:=hr cs5
    obtain⟨ρ1,w1⟩:=ev_lawCut (n:=4) (μ:=[Lf cs5]) H hb (many:=1+x1)
    obtain⟨ρ2,w2⟩:=ev_lawSpared (n:=4) (μ:=[Lf cs5]) H hb e2
    obtain⟨ρ3,w3⟩:=ev_lawMoved (n:=4) (μ:=[Lf cs5]) H hb e3 e4
    have k1:=kCall_drop w1 (pure_book _) H
    have k2:=kCall_drop w2 (pure_book _) H
    have k3:=kCall_drop w3 (pure_book _) H
    have p1:=kCall_of (ev_cutTo (n:=3) (μ:=[Lf cs5]) H (b:=b) (many:=1+x1)) (pure_book _) rfl H
    have p2:=kCall_of (ev_leftOut (n:=3) (μ:=[Lf cs5]) H e2 (by omega) (by omega)) (pure_book _) rfl H
    have p3:=kCall_of (ev_boatMoved (n:=1) (μ:=[Lf cs5]) H e3 e4 (by omega)) (pure_book _) rfl H
    have p4:=kCall_of (ev_withStore (n:=4) (μ:=[Lf cs5]) (b:=b) (x:=x5)) (pure_book _) rfl H
    have p5:=kCall_of (ev_withOil (n:=3) (μ:=[Lf cs5]) H (b:=b) (x:=x5)) (pure_book _) rfl H
    have sb:∀b':Book,kCall (callN GL 5) false i_law_same_book [eBook b',eBook b'] [Lf cs5]=.ok (.bl true) [Lf cs5]:=fun b'=>cl_sameBook (n:=2) H b'
    have t4:D.tup [.int x5,.int b.oil,.tup (b.lamps.map eLamp),.tup (b.days.map eDay)]=eBook ⟨x5,b.oil,b.lamps,b.days⟩:=rfl
    have t5:D.tup [.int b.store,.int x5,.tup (b.lamps.map eLamp),.tup (b.days.map eDay)]=eBook ⟨b.store,x5,b.lamps,b.days⟩:=rfl
    refine⟨[some (.lst (ns.map D.int)),some (.loc 0),some (eBook b),some (.int a),some (.int (1+x1:Nat)),some (.int x2),some (.int x3),some (.int x4),some (.int x5)],[Lf cs5],?_,⟨cs5,rfl⟩,_,_,_,_,_,_,rfl⟩
    by_cases hle:b.days[x3].boat+b.days[x4].boat≤10 ^ 30
    ·simp! only[fLp,D_law_k04_b1,nx,tn,sz,p30,ix_b3,ix_b2,bt_len seqOf_tup,List.length_map,fm _ _ _ q1.1,fm _ _ _ q2.1,hx1,hx2,hx3,hx4,hx5,hcs5,hsum,p1,k1,sb,p2,k2,ix_map e3,ix_map e4,ix_d0,hle,p3,k3,p4,p5,ix_b0,ix_b1,t4,t5]
    ·simp! only[fLp,D_law_k04_b1,nx,tn,sz,p30,ix_b3,ix_b2,bt_len seqOf_tup,List.length_map,fm _ _ _ q1.1,fm _ _ _ q2.1,hx1,hx2,hx3,hx4,hx5,hcs5,hsum,p1,k1,sb,p2,k2,ix_map e3,ix_map e4,ix_d0,hle,p4,p5,ix_b0,ix_b1,t4,t5])
 have k3:kRng (.int 3) [Lf cs]=.ok ((List.range 3).map fun(j:Nat)=>D.int j,none) [Lf cs]:=kRng_nat (n:=3) (by omega)
 refine⟨[Lf cs'],?_⟩
 simp! only[D_law_k04,bt_listRev listOf_lst,mk_script,kCall_of ev (pure_book b) rfl (hr _),k3,e]
end Lr
namespace Lp.Law
open PySem PySem.Spec PyProof.Rows L2 Lp
noncomputable def top (i:Nat):Stmt:=PySem.Challenge.pw_lamprota_k04_books_put_otherwise.main.body.getD i (.Pass ⟨0,0,0,0⟩)
noncomputable def e0:Ent:=⟨i_replaced,"replaced",top 1,["things","place","thing"],["things","place","thing"],D_replaced⟩
noncomputable def e1:Ent:=⟨i_lamp_cut_to,"lamp_cut_to",top 2,["lamp","many","tank","oil","away"],["lamp","many"],D_lamp_cut_to⟩
noncomputable def e2:Ent:=⟨i_cut_to,"cut_to",top 3,["book","many","store","oil","lamps","days"],["book","many"],D_cut_to⟩
noncomputable def e3:Ent:=⟨i_left_out,"left_out",top 4,["book","lamp","store","oil","lamps","days","tank","in_tank","away","idle"],["book","lamp"],D_left_out⟩
noncomputable def e4:Ent:=⟨i_boat_of,"boat_of",top 5,["book","day","boat","most","price","length","wanted"],["book","day"],D_boat_of⟩
noncomputable def e5:Ent:=⟨i_with_day_part,"with_day_part",top 6,["book","day","part","number","store","oil","lamps","days"],["book","day","part","number"],D_with_day_part⟩
noncomputable def e6:Ent:=⟨i_with_boat,"with_boat",top 7,["book","day","boat"],["book","day","boat"],D_with_boat⟩
noncomputable def e7:Ent:=⟨i_boat_moved,"boat_moved",top 8,["book","day","other","emptied"],["book","day","other"],D_boat_moved⟩
noncomputable def e8:Ent:=⟨i_with_store,"with_store",top 9,["book","store"],["book","store"],D_with_store⟩
noncomputable def e9:Ent:=⟨i_with_oil,"with_oil",top 10,["book","oil"],["book","oil"],D_with_oil⟩
noncomputable def e10:Ent:=⟨i_law_next,"_law_next",top 12,["left"],["left"],D_law_next⟩
noncomputable def e11:Ent:=⟨i_law_turn,"_law_turn",top 13,["cell","stir"],["cell"],D_law_turn⟩
noncomputable def e12:Ent:=⟨i_law_size,"_law_size",top 14,["cell","most","turn"],["cell","most"],D_law_size⟩
noncomputable def e13:Ent:=⟨i_law_whole,"_law_whole",top 15,["found"],["found"],D_law_whole⟩
noncomputable def e14:Ent:=⟨i_law_lamp,"_law_lamp",top 16,["left","days","tank","oil","turn","away"],["left","days"],D_law_lamp⟩
noncomputable def e15:Ent:=⟨i_law_day,"_law_day",top 17,["left","lamps","boat","most","price","length"],["left","lamps"],D_law_day⟩
noncomputable def e16:Ent:=⟨i_law_book,"_law_book",top 18,["left","head","lamps","days","store","oil","made"],["left"],D_law_book⟩
noncomputable def e17:Ent:=⟨i_law_all_whole,"_law_all_whole",top 19,["parts"],["parts"],D_law_all_whole⟩
noncomputable def e18:Ent:=⟨i_law_same_book,"_law_same_book",top 20,["found","due","lamp"],["found","due"],D_law_same_book⟩
noncomputable def e19:Ent:=⟨i_law_cut,"_law_cut",top 21,["book","many","lamps","lamp","away","day"],["book","many"],D_law_cut⟩
noncomputable def e20:Ent:=⟨i_law_spared,"_law_spared",top 22,["book","lamp","lamps","k","away"],["book","lamp"],D_law_spared⟩
noncomputable def e21:Ent:=⟨i_law_moved,"_law_moved",top 23,["book","one","two","boats","days"],["book","one","two"],D_law_moved⟩
noncomputable def e22:Ent:=⟨i_law_k04,"law",top 24,["script","left","book","k","many","lamp","one","two","size"],["script"],D_law_k04⟩
noncomputable def ents:List Ent:=[e0,e1,e2,e3,e4,e5,e6,e7,e8,e9,e10,e11,e12,e13,e14,e15,e16,e17,e18,e19,e20,e21,e22]
noncomputable def blts:List Str:=["tuple","len","range","min","isinstance","int","bool","max","list","reversed"]
theorem ar1 {Q:List Value→Prop} (h:∀(a0:Value),Q [a0]):∀us:List Value,us.length=1→Q us
 | [a0],_=>h a0
theorem ar2 {Q:List Value→Prop} (h:∀(a0 a1:Value),Q [a0,a1]):∀us:List Value,us.length=2→Q us
 | [a0,a1],_=>h a0 a1
theorem ar3 {Q:List Value→Prop} (h:∀(a0 a1 a2:Value),Q [a0,a1,a2]):∀us:List Value,us.length=3→Q us
 | [a0,a1,a2],_=>h a0 a1 a2
theorem ar4 {Q:List Value→Prop} (h:∀(a0 a1 a2 a3:Value),Q [a0,a1,a2,a3]):∀us:List Value,us.length=4→Q us
 | [a0,a1,a2,a3],_=>h a0 a1 a2 a3
section
variable {P : Program} {w : World} {K : PySem.W.Frag} {mg : Str → Option Value} {base : Heap}
theorem dv0 (B:∀(j:Nat) x,blts[j]? = some x→mg x=none):Derived GL P w K mg base ents e0:=⟨⟨rfl,rfl,rfl,by decide +kernel,rfl,by decide +kernel,by decide +kernel⟩,rfl,rfl,rfl,fun n fa cdv A outer s H E hu C =>
 (q_sc (q_ret (q_bin (q_bin (q_sl (q_var 0) q_no (q_so (q_var 1))) (q_tup (q_cons (q_var 2) q_nil))) (q_sl (q_var 0) (q_so (q_bin (q_var 1) q_int)) q_no))) q_sn)⟩
theorem dv1 (B:∀(j:Nat) x,blts[j]? = some x→mg x=none):Derived GL P w K mg base ents e1:=⟨⟨rfl,rfl,rfl,by decide +kernel,rfl,by decide +kernel,by decide +kernel⟩,rfl,rfl,rfl,fun n fa cdv A outer s H E hu C =>
 (q_sc (q_unp (q_gtup (q_gcons 2 (q_gcons 3 (q_gcons 4 q_gnil)))) (q_var 0)) (q_sc (q_ret (q_tup (q_cons (q_var 2) (q_cons (q_var 3) (q_cons (q_b_tuple (B 0 _ rfl) (q_cons (q_comp ["many","day"] (q_iseq (q_var 4)) (fun _ _ _ _=>⟨(q_gname 1),(q_tscons (q_tcmp (q_var 1) (q_th1 hu .lt (q_var 0))) q_tsnil),(q_var 1)⟩)) q_nil)) q_nil))))) q_sn))⟩
theorem dv2 (B:∀(j:Nat) x,blts[j]? = some x→mg x=none):Derived GL P w K mg base ents e2:=⟨⟨rfl,rfl,rfl,by decide +kernel,rfl,by decide +kernel,by decide +kernel⟩,rfl,rfl,rfl,fun n fa cdv A outer s H E hu C =>
 (q_sc (q_unp (q_gtup (q_gcons 2 (q_gcons 3 (q_gcons 4 (q_gcons 5 q_gnil))))) (q_var 0)) (q_sc (q_ret (q_tup (q_cons (q_var 2) (q_cons (q_var 3) (q_cons (q_b_tuple (B 0 _ rfl) (q_cons (q_comp ["many","lamp"] (q_iseq (q_var 4)) (fun _ _ _ _=>⟨(q_gname 1),q_tsnil,(q_call (C 1 _ rfl) (q_cons (q_var 1) (q_cons (q_var 0) q_nil)))⟩)) q_nil)) (q_cons (q_sl (q_var 5) q_no (q_so (q_var 1))) q_nil)))))) q_sn))⟩
theorem dv3 (B:∀(j:Nat) x,blts[j]? = some x→mg x=none):Derived GL P w K mg base ents e3:=⟨⟨rfl,rfl,rfl,by decide +kernel,rfl,by decide +kernel,by decide +kernel⟩,rfl,rfl,rfl,fun n fa cdv A outer s H E hu C =>
 (q_sc (q_unp (q_gtup (q_gcons 2 (q_gcons 3 (q_gcons 4 (q_gcons 5 q_gnil))))) (q_var 0)) (q_sc (q_unp (q_gtup (q_gcons 6 (q_gcons 7 (q_gcons 8 q_gnil)))) (q_ix (q_var 4) (q_var 1))) (q_sc (q_set 9 (q_tup (q_cons (q_var 6) (q_cons (q_var 7) (q_cons (q_tupleRange (B 0 _ rfl) (B 2 _ rfl) (q_b_len (B 1 _ rfl) (q_cons (q_var 5) q_nil))) q_nil))))) (q_sc (q_ret (q_tup (q_cons (q_var 2) (q_cons (q_var 3) (q_cons (q_call (C 0 _ rfl) (q_cons (q_var 4) (q_cons (q_var 1) (q_cons (q_var 9) q_nil)))) (q_cons (q_var 5) q_nil)))))) q_sn))))⟩
theorem dv4 (B:∀(j:Nat) x,blts[j]? = some x→mg x=none):Derived GL P w K mg base ents e4:=⟨⟨rfl,rfl,rfl,by decide +kernel,rfl,by decide +kernel,by decide +kernel⟩,rfl,rfl,rfl,fun n fa cdv A outer s H E hu C =>
 (q_sc (q_unp (q_gtup (q_gcons 2 (q_gcons 3 (q_gcons 4 (q_gcons 5 (q_gcons 6 q_gnil)))))) (q_ix (q_ix (q_var 0) q_int) (q_var 1))) (q_sc (q_ret (q_var 2)) q_sn))⟩
theorem dv5 (B:∀(j:Nat) x,blts[j]? = some x→mg x=none):Derived GL P w K mg base ents e5:=⟨⟨rfl,rfl,rfl,by decide +kernel,rfl,by decide +kernel,by decide +kernel⟩,rfl,rfl,rfl,fun n fa cdv A outer s H E hu C =>
 (q_sc (q_unp (q_gtup (q_gcons 4 (q_gcons 5 (q_gcons 6 (q_gcons 7 q_gnil))))) (q_var 0)) (q_sc (q_ret (q_tup (q_cons (q_var 4) (q_cons (q_var 5) (q_cons (q_var 6) (q_cons (q_call (C 0 _ rfl) (q_cons (q_var 7) (q_cons (q_var 1) (q_cons (q_call (C 0 _ rfl) (q_cons (q_ix (q_var 7) (q_var 1)) (q_cons (q_var 2) (q_cons (q_var 3) q_nil)))) q_nil)))) q_nil)))))) q_sn))⟩
theorem dv6 (B:∀(j:Nat) x,blts[j]? = some x→mg x=none):Derived GL P w K mg base ents e6:=⟨⟨rfl,rfl,rfl,by decide +kernel,rfl,by decide +kernel,by decide +kernel⟩,rfl,rfl,rfl,fun n fa cdv A outer s H E hu C =>
 (q_sc (q_ret (q_call (C 5 _ rfl) (q_cons (q_var 0) (q_cons (q_var 1) (q_cons q_int (q_cons (q_var 2) q_nil)))))) q_sn)⟩
theorem dv7 (B:∀(j:Nat) x,blts[j]? = some x→mg x=none):Derived GL P w K mg base ents e7:=⟨⟨rfl,rfl,rfl,by decide +kernel,rfl,by decide +kernel,by decide +kernel⟩,rfl,rfl,rfl,fun n fa cdv A outer s H E hu C =>
 (q_sc (q_set 3 (q_call (C 6 _ rfl) (q_cons (q_var 0) (q_cons (q_var 1) (q_cons q_int q_nil))))) (q_sc (q_ret (q_call (C 6 _ rfl) (q_cons (q_var 3) (q_cons (q_var 2) (q_cons (q_bin (q_call (C 4 _ rfl) (q_cons (q_var 3) (q_cons (q_var 2) q_nil))) (q_call (C 4 _ rfl) (q_cons (q_var 0) (q_cons (q_var 1) q_nil)))) q_nil))))) q_sn))⟩
theorem dv8 (B:∀(j:Nat) x,blts[j]? = some x→mg x=none):Derived GL P w K mg base ents e8:=⟨⟨rfl,rfl,rfl,by decide +kernel,rfl,by decide +kernel,by decide +kernel⟩,rfl,rfl,rfl,fun n fa cdv A outer s H E hu C =>
 (q_sc (q_ret (q_bin (q_tup (q_cons (q_var 1) q_nil)) (q_sl (q_var 0) (q_so q_int) q_no))) q_sn)⟩
theorem dv9 (B:∀(j:Nat) x,blts[j]? = some x→mg x=none):Derived GL P w K mg base ents e9:=⟨⟨rfl,rfl,rfl,by decide +kernel,rfl,by decide +kernel,by decide +kernel⟩,rfl,rfl,rfl,fun n fa cdv A outer s H E hu C =>
 (q_sc (q_ret (q_call (C 0 _ rfl) (q_cons (q_var 0) (q_cons q_int (q_cons (q_var 1) q_nil))))) q_sn)⟩
theorem dv10 (B:∀(j:Nat) x,blts[j]? = some x→mg x=none):Derived GL P w K mg base ents e10:=⟨⟨rfl,rfl,rfl,by decide +kernel,rfl,by decide +kernel,by decide +kernel⟩,rfl,rfl,rfl,fun n fa cdv A outer s H E hu C =>
 (q_sc (q_if (q_tcmp (q_b_len (B 1 _ rfl) (q_cons (q_var 0) q_nil)) (q_th1 hu .gt q_int)) (q_sc (q_ret (q_m_pop0 (q_var 0))) q_sn) q_sn) (q_sc (q_ret q_int) q_sn))⟩
theorem dv11 (B:∀(j:Nat) x,blts[j]? = some x→mg x=none):Derived GL P w K mg base ents e11:=⟨⟨rfl,rfl,rfl,by decide +kernel,rfl,by decide +kernel,by decide +kernel⟩,rfl,rfl,rfl,fun n fa cdv A outer s H E hu C =>
 (q_sc (q_set 1 (q_bin (q_bin (q_bin (q_bin (q_var 0) (q_bin q_int q_int)) q_int) q_int) q_int)) (q_sc (q_ret (q_bin (q_bin (q_bin (q_var 1) (q_var 1)) q_int) q_int)) q_sn))⟩
theorem dv12 (B:∀(j:Nat) x,blts[j]? = some x→mg x=none):Derived GL P w K mg base ents e12:=⟨⟨rfl,rfl,rfl,by decide +kernel,rfl,by decide +kernel,by decide +kernel⟩,rfl,rfl,rfl,fun n fa cdv A outer s H E hu C =>
 (q_sc (q_set 2 (q_call (C 11 _ rfl) (q_cons (q_var 0) q_nil))) (q_sc (q_if (q_tcmp (q_bin (q_var 2) q_int) (q_th1 hu .lt q_int)) (q_sc (q_ret (q_b_min (B 3 _ rfl) (q_cons (q_var 1) (q_cons (q_bin (q_bin (q_var 2) q_int) q_int) q_nil)))) q_sn) q_sn) (q_sc (q_if (q_tcmp (q_bin (q_var 2) q_int) (q_th1 hu .eq q_int)) (q_sc (q_ret (q_bin (q_var 1) (q_bin (q_bin (q_var 2) q_int) q_int))) q_sn) q_sn) (q_sc (q_ret (q_bin (q_var 0) (q_bin (q_var 1) q_int))) q_sn))))⟩
theorem dv13 (B:∀(j:Nat) x,blts[j]? = some x→mg x=none):Derived GL P w K mg base ents e13:=⟨⟨rfl,rfl,rfl,by decide +kernel,rfl,by decide +kernel,by decide +kernel⟩,rfl,rfl,rfl,fun n fa cdv A outer s H E hu C =>
 (q_sc (q_ret (q_and (q_isi (q_var 0) (B 4 _ rfl) (B 5 _ rfl)) (q_and1 (q_not (q_isi (q_var 0) (B 4 _ rfl) (B 6 _ rfl)))))) q_sn)⟩
theorem dv14 (B:∀(j:Nat) x,blts[j]? = some x→mg x=none):Derived GL P w K mg base ents e14:=⟨⟨rfl,rfl,rfl,by decide +kernel,rfl,by decide +kernel,by decide +kernel⟩,rfl,rfl,rfl,fun n fa cdv A outer s H E hu C =>
 (q_sc (q_set 2 (q_call (C 12 _ rfl) (q_cons (q_call (C 10 _ rfl) (q_cons (q_var 0) q_nil)) (q_cons (q_bin q_int q_int) q_nil)))) (q_sc (q_set 3 (q_b_min (B 3 _ rfl) (q_cons (q_var 2) (q_cons (q_call (C 12 _ rfl) (q_cons (q_call (C 10 _ rfl) (q_cons (q_var 0) q_nil)) (q_cons (q_bin q_int q_int) q_nil))) q_nil)))) (q_sc (q_set 4 (q_call (C 11 _ rfl) (q_cons (q_call (C 10 _ rfl) (q_cons (q_var 0) q_nil)) q_nil))) (q_sc (q_set 5 (q_tup q_nil)) (q_sc (q_if (q_tcmp (q_bin (q_var 4) q_int) (q_th1 hu .eq q_int)) (q_sc (q_set 5 (q_b_tuple (B 0 _ rfl) (q_cons (q_comp ["turn","day"] (q_irng (B 2 _ rfl) (q_var 1)) (fun _ _ _ _=>⟨(q_gname 1),(q_tscons (q_tcmp (q_bin (q_bin (q_var 0) (q_bin (q_var 1) q_int)) q_int) (q_th1 hu .eq q_int)) q_tsnil),(q_var 1)⟩)) q_nil))) q_sn) q_sn) (q_sc (q_ret (q_tup (q_cons (q_var 2) (q_cons (q_var 3) (q_cons (q_var 5) q_nil))))) q_sn))))))⟩
theorem dv15 (B:∀(j:Nat) x,blts[j]? = some x→mg x=none):Derived GL P w K mg base ents e15:=⟨⟨rfl,rfl,rfl,by decide +kernel,rfl,by decide +kernel,by decide +kernel⟩,rfl,rfl,rfl,fun n fa cdv A outer s H E hu C =>
 (q_sc (q_set 2 (q_call (C 12 _ rfl) (q_cons (q_call (C 10 _ rfl) (q_cons (q_var 0) q_nil)) (q_cons (q_bin q_int q_int) q_nil)))) (q_sc (q_set 3 (q_call (C 12 _ rfl) (q_cons (q_call (C 10 _ rfl) (q_cons (q_var 0) q_nil)) (q_cons (q_bin q_int q_int) q_nil)))) (q_sc (q_set 4 (q_call (C 12 _ rfl) (q_cons (q_call (C 10 _ rfl) (q_cons (q_var 0) q_nil)) (q_cons (q_bin q_int q_int) q_nil)))) (q_sc (q_set 5 (q_b_max (B 7 _ rfl) (q_cons q_int (q_cons (q_call (C 12 _ rfl) (q_cons (q_call (C 10 _ rfl) (q_cons (q_var 0) q_nil)) (q_cons (q_bin q_int q_int) q_nil))) q_nil)))) (q_sc (q_ret (q_tup (q_cons (q_var 2) (q_cons (q_var 3) (q_cons (q_var 4) (q_cons (q_var 5) (q_cons (q_bin (q_call (C 11 _ rfl) (q_cons (q_call (C 10 _ rfl) (q_cons (q_var 0) q_nil)) q_nil)) (q_bin (q_var 1) q_int)) q_nil))))))) q_sn)))))⟩
theorem dv16 (B:∀(j:Nat) x,blts[j]? = some x→mg x=none):Derived GL P w K mg base ents e16:=⟨⟨rfl,rfl,rfl,by decide +kernel,rfl,by decide +kernel,by decide +kernel⟩,rfl,rfl,rfl,fun n fa cdv A outer s H E hu C =>
 (q_sc (q_set 1 (q_call (C 11 _ rfl) (q_cons (q_call (C 10 _ rfl) (q_cons (q_var 0) q_nil)) q_nil))) (q_sc (q_set 2 (q_bin q_int (q_bin (q_var 1) q_int))) (q_sc (q_set 3 (q_bin q_int (q_bin (q_bin (q_var 1) q_int) q_int))) (q_sc (q_if (q_tcmp (q_bin (q_bin (q_var 1) q_int) q_int) (q_th1 hu .eq q_int)) (q_sc (q_set 2 (q_bin q_int (q_bin (q_bin (q_var 1) q_int) q_int))) (q_sc (q_set 3 (q_bin q_int (q_bin (q_bin (q_var 1) q_int) q_int))) q_sn)) q_sn) (q_sc (q_set 4 (q_call (C 12 _ rfl) (q_cons (q_call (C 10 _ rfl) (q_cons (q_var 0) q_nil)) (q_cons (q_bin q_int q_int) q_nil)))) (q_sc (q_set 5 (q_call (C 12 _ rfl) (q_cons (q_call (C 10 _ rfl) (q_cons (q_var 0) q_nil)) (q_cons (q_bin q_int q_int) q_nil)))) (q_sc (q_setcomp 6 ["left","days","k"] (q_irng (B 2 _ rfl) (q_var 2)) (fun _ _ _ _=>⟨(q_gname 2),q_tsnil,(q_call (C 14 _ rfl) (q_cons (q_var 0) (q_cons (q_var 1) q_nil)))⟩)) (q_sc (q_ret (q_tup (q_cons (q_var 4) (q_cons (q_var 5) (q_cons (q_b_tuple (B 0 _ rfl) (q_cons (q_var 6) q_nil)) (q_cons (q_b_tuple (B 0 _ rfl) (q_cons (q_comp ["left","lamps","k"] (q_irng (B 2 _ rfl) (q_var 3)) (fun _ _ _ _=>⟨(q_gname 2),q_tsnil,(q_call (C 15 _ rfl) (q_cons (q_var 0) (q_cons (q_var 1) q_nil)))⟩)) q_nil)) q_nil)))))) q_sn))))))))⟩
theorem dv17 (B:∀(j:Nat) x,blts[j]? = some x→mg x=none):Derived GL P w K mg base ents e17:=⟨⟨rfl,rfl,rfl,by decide +kernel,rfl,by decide +kernel,by decide +kernel⟩,rfl,rfl,rfl,fun n fa cdv A outer s H E hu C =>
 (q_sc (q_ret (q_cmp (q_b_len (B 1 _ rfl) (q_cons (q_comp ["part"] (q_iseq (q_var 0)) (fun _ _ _ _=>⟨(q_gname 0),(q_tscons (q_tnot (q_truth (q_call (C 13 _ rfl) (q_cons (q_var 0) q_nil)))) q_tsnil),(q_var 0)⟩)) q_nil)) (q_ch1 hu .eq q_int))) q_sn)⟩
theorem dv18 (B:∀(j:Nat) x,blts[j]? = some x→mg x=none):Derived GL P w K mg base ents e18:=⟨⟨rfl,rfl,rfl,by decide +kernel,rfl,by decide +kernel,by decide +kernel⟩,rfl,rfl,rfl,fun n fa cdv A outer s H E hu C =>
 (q_sc (q_if (q_wt (q_wor (q_tnot (q_truth (q_isi (q_var 0) (B 4 _ rfl) (B 0 _ rfl)))) (q_wor (q_tcmp (q_b_len (B 1 _ rfl) (q_cons (q_var 0) q_nil)) (q_th1 hu .ne q_int)) (q_wor (q_tcmp (q_var 0) (q_th1 hu .ne (q_var 1))) (q_wor1 (q_tnot (q_truth (q_call (C 17 _ rfl) (q_cons (q_sl (q_var 0) q_no (q_so q_int)) q_nil))))))))) (q_sc (q_ret q_bl) q_sn) q_sn) (q_sc (q_if (q_wt (q_wor (q_tnot (q_truth (q_isi (q_ix (q_var 0) q_int) (B 4 _ rfl) (B 0 _ rfl)))) (q_wor1 (q_tnot (q_truth (q_isi (q_ix (q_var 0) q_int) (B 4 _ rfl) (B 0 _ rfl))))))) (q_sc (q_ret q_bl) q_sn) q_sn) (q_sc (q_for (q_iseq (q_ix (q_var 0) q_int)) (q_gname 2) (q_sc (q_if (q_wt (q_wor (q_tnot (q_truth (q_isi (q_var 2) (B 4 _ rfl) (B 0 _ rfl)))) (q_wor (q_tnot (q_truth (q_call (C 17 _ rfl) (q_cons (q_sl (q_var 2) q_no (q_so q_int)) q_nil)))) (q_wor1 (q_tnot (q_truth (q_isi (q_ix (q_var 2) q_int) (B 4 _ rfl) (B 0 _ rfl)))))))) (q_sc (q_ret q_bl) q_sn) q_sn) (q_sc (q_if (q_tnot (q_truth (q_call (C 17 _ rfl) (q_cons (q_ix (q_var 2) q_int) q_nil)))) (q_sc (q_ret q_bl) q_sn) q_sn) q_sn))) (q_sc (q_ret (q_cmp (q_b_len (B 1 _ rfl) (q_cons (q_comp ["day"] (q_iseq (q_ix (q_var 0) q_int)) (fun _ _ _ _=>⟨(q_gname 0),(q_tscons (q_wt (q_wor (q_tnot (q_truth (q_isi (q_var 0) (B 4 _ rfl) (B 0 _ rfl)))) (q_wor1 (q_tnot (q_truth (q_call (C 17 _ rfl) (q_cons (q_var 0) q_nil))))))) q_tsnil),(q_var 0)⟩)) q_nil)) (q_ch1 hu .eq q_int))) q_sn))))⟩
theorem dv19 (B:∀(j:Nat) x,blts[j]? = some x→mg x=none):Derived GL P w K mg base ents e19:=⟨⟨rfl,rfl,rfl,by decide +kernel,rfl,by decide +kernel,by decide +kernel⟩,rfl,rfl,rfl,fun n fa cdv A outer s H E hu C =>
 (q_sc (q_set 2 (q_lst q_nil)) (q_sc (q_for (q_iseq (q_ix (q_var 0) q_int)) (q_gname 3) (q_sc (q_set 4 (q_tup q_nil)) (q_sc (q_for (q_iseq (q_ix (q_var 3) q_int)) (q_gname 5) (q_sc (q_if (q_tcmp (q_var 5) (q_th1 hu .lt (q_var 1))) (q_sc (q_set 4 (q_bin (q_var 4) (q_tup (q_cons (q_var 5) q_nil)))) q_sn) q_sn) q_sn)) (q_sc (q_ex (q_m_append1 (q_var 2) (q_cons (q_tup (q_cons (q_ix (q_var 3) q_int) (q_cons (q_ix (q_var 3) q_int) (q_cons (q_var 4) q_nil)))) q_nil))) q_sn)))) (q_sc (q_ret (q_tup (q_cons (q_ix (q_var 0) q_int) (q_cons (q_ix (q_var 0) q_int) (q_cons (q_b_tuple (B 0 _ rfl) (q_cons (q_var 2) q_nil)) (q_cons (q_sl (q_ix (q_var 0) q_int) q_no (q_so (q_var 1))) q_nil)))))) q_sn)))⟩
theorem dv20 (B:∀(j:Nat) x,blts[j]? = some x→mg x=none):Derived GL P w K mg base ents e20:=⟨⟨rfl,rfl,rfl,by decide +kernel,rfl,by decide +kernel,by decide +kernel⟩,rfl,rfl,rfl,fun n fa cdv A outer s H E hu C =>
 (q_sc (q_set 2 (q_lst q_nil)) (q_sc (q_for (q_irng (B 2 _ rfl) (q_b_len (B 1 _ rfl) (q_cons (q_ix (q_var 0) q_int) q_nil))) (q_gname 3) (q_sc (q_set 4 (q_ix (q_ix (q_ix (q_var 0) q_int) (q_var 3)) q_int)) (q_sc (q_if (q_tcmp (q_var 3) (q_th1 hu .eq (q_var 1))) (q_sc (q_set 4 (q_b_tuple (B 0 _ rfl) (q_cons (q_listRange (B 8 _ rfl) (B 2 _ rfl) (q_b_len (B 1 _ rfl) (q_cons (q_ix (q_var 0) q_int) q_nil))) q_nil))) q_sn) q_sn) (q_sc (q_ex (q_m_append1 (q_var 2) (q_cons (q_tup (q_cons (q_ix (q_ix (q_ix (q_var 0) q_int) (q_var 3)) q_int) (q_cons (q_ix (q_ix (q_ix (q_var 0) q_int) (q_var 3)) q_int) (q_cons (q_var 4) q_nil)))) q_nil))) q_sn)))) (q_sc (q_ret (q_tup (q_cons (q_ix (q_var 0) q_int) (q_cons (q_ix (q_var 0) q_int) (q_cons (q_b_tuple (B 0 _ rfl) (q_cons (q_var 2) q_nil)) (q_cons (q_ix (q_var 0) q_int) q_nil)))))) q_sn)))⟩
theorem dv21 (B:∀(j:Nat) x,blts[j]? = some x→mg x=none):Derived GL P w K mg base ents e21:=⟨⟨rfl,rfl,rfl,by decide +kernel,rfl,by decide +kernel,by decide +kernel⟩,rfl,rfl,rfl,fun n fa cdv A outer s H E hu C =>
 (q_sc (q_set 3 (q_comp ["day"] (q_iseq (q_ix (q_var 0) q_int)) (fun _ _ _ _=>⟨(q_gname 0),q_tsnil,(q_ix (q_var 0) q_int)⟩))) (q_sc (q_setx hu (q_var 3) (q_var 2) (q_bin (q_ix (q_var 3) (q_var 2)) (q_ix (q_var 3) (q_var 1)))) (q_sc (q_setx hu (q_var 3) (q_var 1) (q_bin (q_ix (q_var 3) (q_var 1)) (q_ix (q_ix (q_ix (q_var 0) q_int) (q_var 1)) q_int))) (q_sc (q_setcomp 4 ["boats","book","k"] (q_irng (B 2 _ rfl) (q_b_len (B 1 _ rfl) (q_cons (q_var 3) q_nil))) (fun _ _ _ _=>⟨(q_gname 2),q_tsnil,(q_bin (q_tup (q_cons (q_ix (q_var 0) (q_var 2)) q_nil)) (q_sl (q_ix (q_ix (q_var 1) q_int) (q_var 2)) (q_so q_int) q_no))⟩)) (q_sc (q_ret (q_tup (q_cons (q_ix (q_var 0) q_int) (q_cons (q_ix (q_var 0) q_int) (q_cons (q_ix (q_var 0) q_int) (q_cons (q_b_tuple (B 0 _ rfl) (q_cons (q_var 4) q_nil)) q_nil)))))) q_sn)))))⟩
theorem dv22 (B:∀(j:Nat) x,blts[j]? = some x→mg x=none):Derived GL P w K mg base ents e22:=⟨⟨rfl,rfl,rfl,by decide +kernel,rfl,by decide +kernel,by decide +kernel⟩,rfl,rfl,rfl,fun n fa cdv A outer s H E hu C =>
 (q_sc (q_set 1 (q_listRev (B 8 _ rfl) (B 9 _ rfl) (q_var 0))) (q_sc (q_set 2 (q_call (C 16 _ rfl) (q_cons (q_var 1) q_nil))) (q_sc (q_for (q_irng (B 2 _ rfl) q_int) (q_gname 3) (q_sc (q_set 4 (q_bin q_int (q_bin (q_call (C 11 _ rfl) (q_cons (q_call (C 10 _ rfl) (q_cons (q_var 1) q_nil)) q_nil)) (q_b_len (B 1 _ rfl) (q_cons (q_ix (q_var 2) q_int) q_nil))))) (q_sc (q_set 5 (q_bin (q_call (C 11 _ rfl) (q_cons (q_call (C 10 _ rfl) (q_cons (q_var 1) q_nil)) q_nil)) (q_b_len (B 1 _ rfl) (q_cons (q_ix (q_var 2) q_int) q_nil)))) (q_sc (q_set 6 (q_bin (q_call (C 11 _ rfl) (q_cons (q_call (C 10 _ rfl) (q_cons (q_var 1) q_nil)) q_nil)) (q_b_len (B 1 _ rfl) (q_cons (q_ix (q_var 2) q_int) q_nil)))) (q_sc (q_set 7 (q_bin (q_call (C 11 _ rfl) (q_cons (q_call (C 10 _ rfl) (q_cons (q_var 1) q_nil)) q_nil)) (q_b_len (B 1 _ rfl) (q_cons (q_ix (q_var 2) q_int) q_nil)))) (q_sc (q_set 8 (q_call (C 12 _ rfl) (q_cons (q_call (C 10 _ rfl) (q_cons (q_var 1) q_nil)) (q_cons (q_bin q_int q_int) q_nil)))) (q_sc (q_if (q_tnot (q_truth (q_call (C 18 _ rfl) (q_cons (q_call (C 2 _ rfl) (q_cons (q_var 2) (q_cons (q_var 4) q_nil))) (q_cons (q_call (C 19 _ rfl) (q_cons (q_var 2) (q_cons (q_var 4) q_nil))) q_nil))))) (q_sc (q_ret q_bl) q_sn) q_sn) (q_sc (q_if (q_tnot (q_truth (q_call (C 18 _ rfl) (q_cons (q_call (C 3 _ rfl) (q_cons (q_var 2) (q_cons (q_var 5) q_nil))) (q_cons (q_call (C 20 _ rfl) (q_cons (q_var 2) (q_cons (q_var 5) q_nil))) q_nil))))) (q_sc (q_ret q_bl) q_sn) q_sn) (q_sc (q_if (q_tcmp (q_bin (q_ix (q_ix (q_ix (q_var 2) q_int) (q_var 6)) q_int) (q_ix (q_ix (q_ix (q_var 2) q_int) (q_var 7)) q_int)) (q_th1 hu .le (q_bin q_int q_int))) (q_sc (q_if (q_tnot (q_truth (q_call (C 18 _ rfl) (q_cons (q_call (C 7 _ rfl) (q_cons (q_var 2) (q_cons (q_var 6) (q_cons (q_var 7) q_nil)))) (q_cons (q_call (C 21 _ rfl) (q_cons (q_var 2) (q_cons (q_var 6) (q_cons (q_var 7) q_nil)))) q_nil))))) (q_sc (q_ret q_bl) q_sn) q_sn) q_sn) q_sn) (q_sc (q_if (q_tnot (q_truth (q_call (C 18 _ rfl) (q_cons (q_call (C 8 _ rfl) (q_cons (q_var 2) (q_cons (q_var 8) q_nil))) (q_cons (q_tup (q_cons (q_var 8) (q_cons (q_ix (q_var 2) q_int) (q_cons (q_ix (q_var 2) q_int) (q_cons (q_ix (q_var 2) q_int) q_nil))))) q_nil))))) (q_sc (q_ret q_bl) q_sn) q_sn) (q_sc (q_if (q_tnot (q_truth (q_call (C 18 _ rfl) (q_cons (q_call (C 9 _ rfl) (q_cons (q_var 2) (q_cons (q_var 8) q_nil))) (q_cons (q_tup (q_cons (q_ix (q_var 2) q_int) (q_cons (q_var 8) (q_cons (q_ix (q_var 2) q_int) (q_cons (q_ix (q_var 2) q_int) q_nil))))) q_nil))))) (q_sc (q_ret q_bl) q_sn) q_sn) q_sn))))))))))) (q_sc (q_ret q_bl) q_sn))))⟩
theorem dvs (B:∀(j:Nat) x,blts[j]? = some x→mg x=none):∀(j:Nat) e,ents[j]? = some e→Derived GL P w K mg base ents e
 | 0,_,h=>by
  have h':some e0=some _:=h
  cases h'
  exact dv0 B
 | 1,_,h=>by
  have h':some e1=some _:=h
  cases h'
  exact dv1 B
 | 2,_,h=>by
  have h':some e2=some _:=h
  cases h'
  exact dv2 B
 | 3,_,h=>by
  have h':some e3=some _:=h
  cases h'
  exact dv3 B
 | 4,_,h=>by
  have h':some e4=some _:=h
  cases h'
  exact dv4 B
 | 5,_,h=>by
  have h':some e5=some _:=h
  cases h'
  exact dv5 B
 | 6,_,h=>by
  have h':some e6=some _:=h
  cases h'
  exact dv6 B
 | 7,_,h=>by
  have h':some e7=some _:=h
  cases h'
  exact dv7 B
 | 8,_,h=>by
  have h':some e8=some _:=h
  cases h'
  exact dv8 B
 | 9,_,h=>by
  have h':some e9=some _:=h
  cases h'
  exact dv9 B
 | 10,_,h=>by
  have h':some e10=some _:=h
  cases h'
  exact dv10 B
 | 11,_,h=>by
  have h':some e11=some _:=h
  cases h'
  exact dv11 B
 | 12,_,h=>by
  have h':some e12=some _:=h
  cases h'
  exact dv12 B
 | 13,_,h=>by
  have h':some e13=some _:=h
  cases h'
  exact dv13 B
 | 14,_,h=>by
  have h':some e14=some _:=h
  cases h'
  exact dv14 B
 | 15,_,h=>by
  have h':some e15=some _:=h
  cases h'
  exact dv15 B
 | 16,_,h=>by
  have h':some e16=some _:=h
  cases h'
  exact dv16 B
 | 17,_,h=>by
  have h':some e17=some _:=h
  cases h'
  exact dv17 B
 | 18,_,h=>by
  have h':some e18=some _:=h
  cases h'
  exact dv18 B
 | 19,_,h=>by
  have h':some e19=some _:=h
  cases h'
  exact dv19 B
 | 20,_,h=>by
  have h':some e20=some _:=h
  cases h'
  exact dv20 B
 | 21,_,h=>by
  have h':some e21=some _:=h
  cases h'
  exact dv21 B
 | 22,_,h=>by
  have h':some e22=some _:=h
  cases h'
  exact dv22 B
 | n+23,_,h=>by
  have h':(none:Option Ent)=some _:=h
  cases h'
theorem mk0 {h:Heap} {f:Addr} {oc:Value} {od an:Option Addr} {sl:Array (Option Value)} {kV dc pm cd ct:Value} (X:K.In h) (G:h.Ns mainGlobals mg) (a:PySem.W.nsIn K mainGlobals "replaced"=some (some (.ref f))) (l:K.lookup f=some ⟨oc,od,.func (PySem.W.fnOf "replaced" "replaced" (defArgs (top 1)) (defBody (top 1)) (defScope (top 1)) .none kV dc pm an cd ct),sl⟩) (c:PySem.W.codeIn K cd "replaced"=true) (k:PySem.W.keepIn K (.ref f)=true):ModOf K mg e0 :=
 mod_mk (e:=e0) X G a l c k fun _ _ _ _ _ _=>ar3 fun _ _ _=>rfl
theorem mk1 {h:Heap} {f:Addr} {oc:Value} {od an:Option Addr} {sl:Array (Option Value)} {kV dc pm cd ct:Value} (X:K.In h) (G:h.Ns mainGlobals mg) (a:PySem.W.nsIn K mainGlobals "lamp_cut_to"=some (some (.ref f))) (l:K.lookup f=some ⟨oc,od,.func (PySem.W.fnOf "lamp_cut_to" "lamp_cut_to" (defArgs (top 2)) (defBody (top 2)) (defScope (top 2)) .none kV dc pm an cd ct),sl⟩) (c:PySem.W.codeIn K cd "lamp_cut_to"=true) (k:PySem.W.keepIn K (.ref f)=true):ModOf K mg e1 :=
 mod_mk (e:=e1) X G a l c k fun _ _ _ _ _ _=>ar2 fun _ _=>rfl
theorem mk2 {h:Heap} {f:Addr} {oc:Value} {od an:Option Addr} {sl:Array (Option Value)} {kV dc pm cd ct:Value} (X:K.In h) (G:h.Ns mainGlobals mg) (a:PySem.W.nsIn K mainGlobals "cut_to"=some (some (.ref f))) (l:K.lookup f=some ⟨oc,od,.func (PySem.W.fnOf "cut_to" "cut_to" (defArgs (top 3)) (defBody (top 3)) (defScope (top 3)) .none kV dc pm an cd ct),sl⟩) (c:PySem.W.codeIn K cd "cut_to"=true) (k:PySem.W.keepIn K (.ref f)=true):ModOf K mg e2 :=
 mod_mk (e:=e2) X G a l c k fun _ _ _ _ _ _=>ar2 fun _ _=>rfl
theorem mk3 {h:Heap} {f:Addr} {oc:Value} {od an:Option Addr} {sl:Array (Option Value)} {kV dc pm cd ct:Value} (X:K.In h) (G:h.Ns mainGlobals mg) (a:PySem.W.nsIn K mainGlobals "left_out"=some (some (.ref f))) (l:K.lookup f=some ⟨oc,od,.func (PySem.W.fnOf "left_out" "left_out" (defArgs (top 4)) (defBody (top 4)) (defScope (top 4)) .none kV dc pm an cd ct),sl⟩) (c:PySem.W.codeIn K cd "left_out"=true) (k:PySem.W.keepIn K (.ref f)=true):ModOf K mg e3 :=
 mod_mk (e:=e3) X G a l c k fun _ _ _ _ _ _=>ar2 fun _ _=>rfl
theorem mk4 {h:Heap} {f:Addr} {oc:Value} {od an:Option Addr} {sl:Array (Option Value)} {kV dc pm cd ct:Value} (X:K.In h) (G:h.Ns mainGlobals mg) (a:PySem.W.nsIn K mainGlobals "boat_of"=some (some (.ref f))) (l:K.lookup f=some ⟨oc,od,.func (PySem.W.fnOf "boat_of" "boat_of" (defArgs (top 5)) (defBody (top 5)) (defScope (top 5)) .none kV dc pm an cd ct),sl⟩) (c:PySem.W.codeIn K cd "boat_of"=true) (k:PySem.W.keepIn K (.ref f)=true):ModOf K mg e4 :=
 mod_mk (e:=e4) X G a l c k fun _ _ _ _ _ _=>ar2 fun _ _=>rfl
theorem mk5 {h:Heap} {f:Addr} {oc:Value} {od an:Option Addr} {sl:Array (Option Value)} {kV dc pm cd ct:Value} (X:K.In h) (G:h.Ns mainGlobals mg) (a:PySem.W.nsIn K mainGlobals "with_day_part"=some (some (.ref f))) (l:K.lookup f=some ⟨oc,od,.func (PySem.W.fnOf "with_day_part" "with_day_part" (defArgs (top 6)) (defBody (top 6)) (defScope (top 6)) .none kV dc pm an cd ct),sl⟩) (c:PySem.W.codeIn K cd "with_day_part"=true) (k:PySem.W.keepIn K (.ref f)=true):ModOf K mg e5 :=
 mod_mk (e:=e5) X G a l c k fun _ _ _ _ _ _=>ar4 fun _ _ _ _=>rfl
theorem mk6 {h:Heap} {f:Addr} {oc:Value} {od an:Option Addr} {sl:Array (Option Value)} {kV dc pm cd ct:Value} (X:K.In h) (G:h.Ns mainGlobals mg) (a:PySem.W.nsIn K mainGlobals "with_boat"=some (some (.ref f))) (l:K.lookup f=some ⟨oc,od,.func (PySem.W.fnOf "with_boat" "with_boat" (defArgs (top 7)) (defBody (top 7)) (defScope (top 7)) .none kV dc pm an cd ct),sl⟩) (c:PySem.W.codeIn K cd "with_boat"=true) (k:PySem.W.keepIn K (.ref f)=true):ModOf K mg e6 :=
 mod_mk (e:=e6) X G a l c k fun _ _ _ _ _ _=>ar3 fun _ _ _=>rfl
theorem mk7 {h:Heap} {f:Addr} {oc:Value} {od an:Option Addr} {sl:Array (Option Value)} {kV dc pm cd ct:Value} (X:K.In h) (G:h.Ns mainGlobals mg) (a:PySem.W.nsIn K mainGlobals "boat_moved"=some (some (.ref f))) (l:K.lookup f=some ⟨oc,od,.func (PySem.W.fnOf "boat_moved" "boat_moved" (defArgs (top 8)) (defBody (top 8)) (defScope (top 8)) .none kV dc pm an cd ct),sl⟩) (c:PySem.W.codeIn K cd "boat_moved"=true) (k:PySem.W.keepIn K (.ref f)=true):ModOf K mg e7 :=
 mod_mk (e:=e7) X G a l c k fun _ _ _ _ _ _=>ar3 fun _ _ _=>rfl
theorem mk8 {h:Heap} {f:Addr} {oc:Value} {od an:Option Addr} {sl:Array (Option Value)} {kV dc pm cd ct:Value} (X:K.In h) (G:h.Ns mainGlobals mg) (a:PySem.W.nsIn K mainGlobals "with_store"=some (some (.ref f))) (l:K.lookup f=some ⟨oc,od,.func (PySem.W.fnOf "with_store" "with_store" (defArgs (top 9)) (defBody (top 9)) (defScope (top 9)) .none kV dc pm an cd ct),sl⟩) (c:PySem.W.codeIn K cd "with_store"=true) (k:PySem.W.keepIn K (.ref f)=true):ModOf K mg e8 :=
 mod_mk (e:=e8) X G a l c k fun _ _ _ _ _ _=>ar2 fun _ _=>rfl
theorem mk9 {h:Heap} {f:Addr} {oc:Value} {od an:Option Addr} {sl:Array (Option Value)} {kV dc pm cd ct:Value} (X:K.In h) (G:h.Ns mainGlobals mg) (a:PySem.W.nsIn K mainGlobals "with_oil"=some (some (.ref f))) (l:K.lookup f=some ⟨oc,od,.func (PySem.W.fnOf "with_oil" "with_oil" (defArgs (top 10)) (defBody (top 10)) (defScope (top 10)) .none kV dc pm an cd ct),sl⟩) (c:PySem.W.codeIn K cd "with_oil"=true) (k:PySem.W.keepIn K (.ref f)=true):ModOf K mg e9 :=
 mod_mk (e:=e9) X G a l c k fun _ _ _ _ _ _=>ar2 fun _ _=>rfl
theorem mk10 {h:Heap} {f:Addr} {oc:Value} {od an:Option Addr} {sl:Array (Option Value)} {kV dc pm cd ct:Value} (X:K.In h) (G:h.Ns mainGlobals mg) (a:PySem.W.nsIn K mainGlobals "_law_next"=some (some (.ref f))) (l:K.lookup f=some ⟨oc,od,.func (PySem.W.fnOf "_law_next" "_law_next" (defArgs (top 12)) (defBody (top 12)) (defScope (top 12)) .none kV dc pm an cd ct),sl⟩) (c:PySem.W.codeIn K cd "_law_next"=true) (k:PySem.W.keepIn K (.ref f)=true):ModOf K mg e10 :=
 mod_mk (e:=e10) X G a l c k fun _ _ _ _ _ _=>ar1 fun _=>rfl
theorem mk11 {h:Heap} {f:Addr} {oc:Value} {od an:Option Addr} {sl:Array (Option Value)} {kV dc pm cd ct:Value} (X:K.In h) (G:h.Ns mainGlobals mg) (a:PySem.W.nsIn K mainGlobals "_law_turn"=some (some (.ref f))) (l:K.lookup f=some ⟨oc,od,.func (PySem.W.fnOf "_law_turn" "_law_turn" (defArgs (top 13)) (defBody (top 13)) (defScope (top 13)) .none kV dc pm an cd ct),sl⟩) (c:PySem.W.codeIn K cd "_law_turn"=true) (k:PySem.W.keepIn K (.ref f)=true):ModOf K mg e11 :=
 mod_mk (e:=e11) X G a l c k fun _ _ _ _ _ _=>ar1 fun _=>rfl
theorem mk12 {h:Heap} {f:Addr} {oc:Value} {od an:Option Addr} {sl:Array (Option Value)} {kV dc pm cd ct:Value} (X:K.In h) (G:h.Ns mainGlobals mg) (a:PySem.W.nsIn K mainGlobals "_law_size"=some (some (.ref f))) (l:K.lookup f=some ⟨oc,od,.func (PySem.W.fnOf "_law_size" "_law_size" (defArgs (top 14)) (defBody (top 14)) (defScope (top 14)) .none kV dc pm an cd ct),sl⟩) (c:PySem.W.codeIn K cd "_law_size"=true) (k:PySem.W.keepIn K (.ref f)=true):ModOf K mg e12 :=
 mod_mk (e:=e12) X G a l c k fun _ _ _ _ _ _=>ar2 fun _ _=>rfl
theorem mk13 {h:Heap} {f:Addr} {oc:Value} {od an:Option Addr} {sl:Array (Option Value)} {kV dc pm cd ct:Value} (X:K.In h) (G:h.Ns mainGlobals mg) (a:PySem.W.nsIn K mainGlobals "_law_whole"=some (some (.ref f))) (l:K.lookup f=some ⟨oc,od,.func (PySem.W.fnOf "_law_whole" "_law_whole" (defArgs (top 15)) (defBody (top 15)) (defScope (top 15)) .none kV dc pm an cd ct),sl⟩) (c:PySem.W.codeIn K cd "_law_whole"=true) (k:PySem.W.keepIn K (.ref f)=true):ModOf K mg e13 :=
 mod_mk (e:=e13) X G a l c k fun _ _ _ _ _ _=>ar1 fun _=>rfl
theorem mk14 {h:Heap} {f:Addr} {oc:Value} {od an:Option Addr} {sl:Array (Option Value)} {kV dc pm cd ct:Value} (X:K.In h) (G:h.Ns mainGlobals mg) (a:PySem.W.nsIn K mainGlobals "_law_lamp"=some (some (.ref f))) (l:K.lookup f=some ⟨oc,od,.func (PySem.W.fnOf "_law_lamp" "_law_lamp" (defArgs (top 16)) (defBody (top 16)) (defScope (top 16)) .none kV dc pm an cd ct),sl⟩) (c:PySem.W.codeIn K cd "_law_lamp"=true) (k:PySem.W.keepIn K (.ref f)=true):ModOf K mg e14 :=
 mod_mk (e:=e14) X G a l c k fun _ _ _ _ _ _=>ar2 fun _ _=>rfl
theorem mk15 {h:Heap} {f:Addr} {oc:Value} {od an:Option Addr} {sl:Array (Option Value)} {kV dc pm cd ct:Value} (X:K.In h) (G:h.Ns mainGlobals mg) (a:PySem.W.nsIn K mainGlobals "_law_day"=some (some (.ref f))) (l:K.lookup f=some ⟨oc,od,.func (PySem.W.fnOf "_law_day" "_law_day" (defArgs (top 17)) (defBody (top 17)) (defScope (top 17)) .none kV dc pm an cd ct),sl⟩) (c:PySem.W.codeIn K cd "_law_day"=true) (k:PySem.W.keepIn K (.ref f)=true):ModOf K mg e15 :=
 mod_mk (e:=e15) X G a l c k fun _ _ _ _ _ _=>ar2 fun _ _=>rfl
theorem mk16 {h:Heap} {f:Addr} {oc:Value} {od an:Option Addr} {sl:Array (Option Value)} {kV dc pm cd ct:Value} (X:K.In h) (G:h.Ns mainGlobals mg) (a:PySem.W.nsIn K mainGlobals "_law_book"=some (some (.ref f))) (l:K.lookup f=some ⟨oc,od,.func (PySem.W.fnOf "_law_book" "_law_book" (defArgs (top 18)) (defBody (top 18)) (defScope (top 18)) .none kV dc pm an cd ct),sl⟩) (c:PySem.W.codeIn K cd "_law_book"=true) (k:PySem.W.keepIn K (.ref f)=true):ModOf K mg e16 :=
 mod_mk (e:=e16) X G a l c k fun _ _ _ _ _ _=>ar1 fun _=>rfl
theorem mk17 {h:Heap} {f:Addr} {oc:Value} {od an:Option Addr} {sl:Array (Option Value)} {kV dc pm cd ct:Value} (X:K.In h) (G:h.Ns mainGlobals mg) (a:PySem.W.nsIn K mainGlobals "_law_all_whole"=some (some (.ref f))) (l:K.lookup f=some ⟨oc,od,.func (PySem.W.fnOf "_law_all_whole" "_law_all_whole" (defArgs (top 19)) (defBody (top 19)) (defScope (top 19)) .none kV dc pm an cd ct),sl⟩) (c:PySem.W.codeIn K cd "_law_all_whole"=true) (k:PySem.W.keepIn K (.ref f)=true):ModOf K mg e17 :=
 mod_mk (e:=e17) X G a l c k fun _ _ _ _ _ _=>ar1 fun _=>rfl
theorem mk18 {h:Heap} {f:Addr} {oc:Value} {od an:Option Addr} {sl:Array (Option Value)} {kV dc pm cd ct:Value} (X:K.In h) (G:h.Ns mainGlobals mg) (a:PySem.W.nsIn K mainGlobals "_law_same_book"=some (some (.ref f))) (l:K.lookup f=some ⟨oc,od,.func (PySem.W.fnOf "_law_same_book" "_law_same_book" (defArgs (top 20)) (defBody (top 20)) (defScope (top 20)) .none kV dc pm an cd ct),sl⟩) (c:PySem.W.codeIn K cd "_law_same_book"=true) (k:PySem.W.keepIn K (.ref f)=true):ModOf K mg e18 :=
 mod_mk (e:=e18) X G a l c k fun _ _ _ _ _ _=>ar2 fun _ _=>rfl
theorem mk19 {h:Heap} {f:Addr} {oc:Value} {od an:Option Addr} {sl:Array (Option Value)} {kV dc pm cd ct:Value} (X:K.In h) (G:h.Ns mainGlobals mg) (a:PySem.W.nsIn K mainGlobals "_law_cut"=some (some (.ref f))) (l:K.lookup f=some ⟨oc,od,.func (PySem.W.fnOf "_law_cut" "_law_cut" (defArgs (top 21)) (defBody (top 21)) (defScope (top 21)) .none kV dc pm an cd ct),sl⟩) (c:PySem.W.codeIn K cd "_law_cut"=true) (k:PySem.W.keepIn K (.ref f)=true):ModOf K mg e19 :=
 mod_mk (e:=e19) X G a l c k fun _ _ _ _ _ _=>ar2 fun _ _=>rfl
theorem mk20 {h:Heap} {f:Addr} {oc:Value} {od an:Option Addr} {sl:Array (Option Value)} {kV dc pm cd ct:Value} (X:K.In h) (G:h.Ns mainGlobals mg) (a:PySem.W.nsIn K mainGlobals "_law_spared"=some (some (.ref f))) (l:K.lookup f=some ⟨oc,od,.func (PySem.W.fnOf "_law_spared" "_law_spared" (defArgs (top 22)) (defBody (top 22)) (defScope (top 22)) .none kV dc pm an cd ct),sl⟩) (c:PySem.W.codeIn K cd "_law_spared"=true) (k:PySem.W.keepIn K (.ref f)=true):ModOf K mg e20 :=
 mod_mk (e:=e20) X G a l c k fun _ _ _ _ _ _=>ar2 fun _ _=>rfl
theorem mk21 {h:Heap} {f:Addr} {oc:Value} {od an:Option Addr} {sl:Array (Option Value)} {kV dc pm cd ct:Value} (X:K.In h) (G:h.Ns mainGlobals mg) (a:PySem.W.nsIn K mainGlobals "_law_moved"=some (some (.ref f))) (l:K.lookup f=some ⟨oc,od,.func (PySem.W.fnOf "_law_moved" "_law_moved" (defArgs (top 23)) (defBody (top 23)) (defScope (top 23)) .none kV dc pm an cd ct),sl⟩) (c:PySem.W.codeIn K cd "_law_moved"=true) (k:PySem.W.keepIn K (.ref f)=true):ModOf K mg e21 :=
 mod_mk (e:=e21) X G a l c k fun _ _ _ _ _ _=>ar3 fun _ _ _=>rfl
theorem mk22 {h:Heap} {f:Addr} {oc:Value} {od an:Option Addr} {sl:Array (Option Value)} {kV dc pm cd ct:Value} (X:K.In h) (G:h.Ns mainGlobals mg) (a:PySem.W.nsIn K mainGlobals "law"=some (some (.ref f))) (l:K.lookup f=some ⟨oc,od,.func (PySem.W.fnOf "law" "law" (defArgs (top 24)) (defBody (top 24)) (defScope (top 24)) .none kV dc pm an cd ct),sl⟩) (c:PySem.W.codeIn K cd "law"=true) (k:PySem.W.keepIn K (.ref f)=true):ModOf K mg e22 :=
 mod_mk (e:=e22) X G a l c k fun _ _ _ _ _ _=>ar1 fun _=>rfl
end
theorem mods {K:PySem.W.Frag} {mg:Str→Option Value} (m0:ModOf K mg e0) (m1:ModOf K mg e1) (m2:ModOf K mg e2) (m3:ModOf K mg e3) (m4:ModOf K mg e4) (m5:ModOf K mg e5) (m6:ModOf K mg e6) (m7:ModOf K mg e7) (m8:ModOf K mg e8) (m9:ModOf K mg e9) (m10:ModOf K mg e10) (m11:ModOf K mg e11) (m12:ModOf K mg e12) (m13:ModOf K mg e13) (m14:ModOf K mg e14) (m15:ModOf K mg e15) (m16:ModOf K mg e16) (m17:ModOf K mg e17) (m18:ModOf K mg e18) (m19:ModOf K mg e19) (m20:ModOf K mg e20) (m21:ModOf K mg e21) (m22:ModOf K mg e22):∀(j:Nat) e,ents[j]? = some e→ModOf K mg e
 | 0,_,h=>by
  have h':some e0=some _:=h
  cases h'
  exact m0
 | 1,_,h=>by
  have h':some e1=some _:=h
  cases h'
  exact m1
 | 2,_,h=>by
  have h':some e2=some _:=h
  cases h'
  exact m2
 | 3,_,h=>by
  have h':some e3=some _:=h
  cases h'
  exact m3
 | 4,_,h=>by
  have h':some e4=some _:=h
  cases h'
  exact m4
 | 5,_,h=>by
  have h':some e5=some _:=h
  cases h'
  exact m5
 | 6,_,h=>by
  have h':some e6=some _:=h
  cases h'
  exact m6
 | 7,_,h=>by
  have h':some e7=some _:=h
  cases h'
  exact m7
 | 8,_,h=>by
  have h':some e8=some _:=h
  cases h'
  exact m8
 | 9,_,h=>by
  have h':some e9=some _:=h
  cases h'
  exact m9
 | 10,_,h=>by
  have h':some e10=some _:=h
  cases h'
  exact m10
 | 11,_,h=>by
  have h':some e11=some _:=h
  cases h'
  exact m11
 | 12,_,h=>by
  have h':some e12=some _:=h
  cases h'
  exact m12
 | 13,_,h=>by
  have h':some e13=some _:=h
  cases h'
  exact m13
 | 14,_,h=>by
  have h':some e14=some _:=h
  cases h'
  exact m14
 | 15,_,h=>by
  have h':some e15=some _:=h
  cases h'
  exact m15
 | 16,_,h=>by
  have h':some e16=some _:=h
  cases h'
  exact m16
 | 17,_,h=>by
  have h':some e17=some _:=h
  cases h'
  exact m17
 | 18,_,h=>by
  have h':some e18=some _:=h
  cases h'
  exact m18
 | 19,_,h=>by
  have h':some e19=some _:=h
  cases h'
  exact m19
 | 20,_,h=>by
  have h':some e20=some _:=h
  cases h'
  exact m20
 | 21,_,h=>by
  have h':some e21=some _:=h
  cases h'
  exact m21
 | 22,_,h=>by
  have h':some e22=some _:=h
  cases h'
  exact m22
 | n+23,_,h=>by
  have h':(none:Option Ent)=some _:=h
  cases h'
theorem nob {mg:Str→Option Value} (b0:mg "tuple"=none) (b1:mg "len"=none) (b2:mg "range"=none) (b3:mg "min"=none) (b4:mg "isinstance"=none) (b5:mg "int"=none) (b6:mg "bool"=none) (b7:mg "max"=none) (b8:mg "list"=none) (b9:mg "reversed"=none):∀(j:Nat) x,blts[j]? = some x→mg x=none
 | 0,_,h=>by
  have h':some ("tuple":Str)=some _:=h
  cases h'
  exact b0
 | 1,_,h=>by
  have h':some ("len":Str)=some _:=h
  cases h'
  exact b1
 | 2,_,h=>by
  have h':some ("range":Str)=some _:=h
  cases h'
  exact b2
 | 3,_,h=>by
  have h':some ("min":Str)=some _:=h
  cases h'
  exact b3
 | 4,_,h=>by
  have h':some ("isinstance":Str)=some _:=h
  cases h'
  exact b4
 | 5,_,h=>by
  have h':some ("int":Str)=some _:=h
  cases h'
  exact b5
 | 6,_,h=>by
  have h':some ("bool":Str)=some _:=h
  cases h'
  exact b6
 | 7,_,h=>by
  have h':some ("max":Str)=some _:=h
  cases h'
  exact b7
 | 8,_,h=>by
  have h':some ("list":Str)=some _:=h
  cases h'
  exact b8
 | 9,_,h=>by
  have h':some ("reversed":Str)=some _:=h
  cases h'
  exact b9
 | n+10,_,h=>by
  have h':(none:Option Str)=some _:=h
  cases h'
end Lp.Law
noncomputable def PySem.W.Fast.tw11671522965301204918:=PySem.Challenge.pw_lamprota_k04_books_put_otherwise
theorem PySem.W.Fast.te11671522965301204918:PySem.Challenge.pw_lamprota_k04_books_put_otherwise=PySem.W.Fast.tw11671522965301204918:=rfl
open PySem PySem.W PyProof.Rows
set_option maxRecDepth 100000 in
set_option maxHeartbeats 0 in
theorem PySem.Challenge.cw_lamprota_k04_books_put_otherwise_holds : PySem.Challenge.rw_lamprota_k04_books_put_otherwise.Holds := by
 w_on;o_law;k_head;(case hw=>w_witness2)
 k_fill
 refine Lp.law_walk (l:=PySem.Challenge.rw_lamprota_k04_books_put_otherwise) (n:=6) ⟨rfl,by decide,by decide⟩ rfl rfl (fun w h Y=>PySem.W.kIn_of Y) ?F
 case F =>
  intro w mg fa h KX G hmg
  have m0:Lp.ModOf (L2.KOf KX) mg Lp.Law.e0:=by
   dsimp only[L2.KOf]
   refine' Lp.Law.mk0 KX G ?a ?l ?c ?k
   (case a=>k_is);(case l=>k_is);(case c=>k_is);(case k=>k_is)
  have m1:Lp.ModOf (L2.KOf KX) mg Lp.Law.e1:=by
   dsimp only[L2.KOf]
   refine' Lp.Law.mk1 KX G ?a ?l ?c ?k
   (case a=>k_is);(case l=>k_is);(case c=>k_is);(case k=>k_is)
  have m2:Lp.ModOf (L2.KOf KX) mg Lp.Law.e2:=by
   dsimp only[L2.KOf]
   refine' Lp.Law.mk2 KX G ?a ?l ?c ?k
   (case a=>k_is);(case l=>k_is);(case c=>k_is);(case k=>k_is)
  have m3:Lp.ModOf (L2.KOf KX) mg Lp.Law.e3:=by
   dsimp only[L2.KOf]
   refine' Lp.Law.mk3 KX G ?a ?l ?c ?k
   (case a=>k_is);(case l=>k_is);(case c=>k_is);(case k=>k_is)
  have m4:Lp.ModOf (L2.KOf KX) mg Lp.Law.e4:=by
   dsimp only[L2.KOf]
   refine' Lp.Law.mk4 KX G ?a ?l ?c ?k
   (case a=>k_is);(case l=>k_is);(case c=>k_is);(case k=>k_is)
  have m5:Lp.ModOf (L2.KOf KX) mg Lp.Law.e5:=by
   dsimp only[L2.KOf]
   refine' Lp.Law.mk5 KX G ?a ?l ?c ?k
   (case a=>k_is);(case l=>k_is);(case c=>k_is);(case k=>k_is)
  have m6:Lp.ModOf (L2.KOf KX) mg Lp.Law.e6:=by
   dsimp only[L2.KOf]
   refine' Lp.Law.mk6 KX G ?a ?l ?c ?k
   (case a=>k_is);(case l=>k_is);(case c=>k_is);(case k=>k_is)
  have m7:Lp.ModOf (L2.KOf KX) mg Lp.Law.e7:=by
   dsimp only[L2.KOf]
   refine' Lp.Law.mk7 KX G ?a ?l ?c ?k
   (case a=>k_is);(case l=>k_is);(case c=>k_is);(case k=>k_is)
  have m8:Lp.ModOf (L2.KOf KX) mg Lp.Law.e8:=by
   dsimp only[L2.KOf]
   refine' Lp.Law.mk8 KX G ?a ?l ?c ?k
   (case a=>k_is);(case l=>k_is);(case c=>k_is);(case k=>k_is)
  have m9:Lp.ModOf (L2.KOf KX) mg Lp.Law.e9:=by
   dsimp only[L2.KOf]
   refine' Lp.Law.mk9 KX G ?a ?l ?c ?k
   (case a=>k_is);(case l=>k_is);(case c=>k_is);(case k=>k_is)
  have m10:Lp.ModOf (L2.KOf KX) mg Lp.Law.e10:=by
   dsimp only[L2.KOf]
   refine' Lp.Law.mk10 KX G ?a ?l ?c ?k
   (case a=>k_is);(case l=>k_is);(case c=>k_is);(case k=>k_is)
  have m11:Lp.ModOf (L2.KOf KX) mg Lp.Law.e11:=by
   dsimp only[L2.KOf]
   refine' Lp.Law.mk11 KX G ?a ?l ?c ?k
   (case a=>k_is);(case l=>k_is);(case c=>k_is);(case k=>k_is)
  have m12:Lp.ModOf (L2.KOf KX) mg Lp.Law.e12:=by
   dsimp only[L2.KOf]
   refine' Lp.Law.mk12 KX G ?a ?l ?c ?k
   (case a=>k_is);(case l=>k_is);(case c=>k_is);(case k=>k_is)
  have m13:Lp.ModOf (L2.KOf KX) mg Lp.Law.e13:=by
   dsimp only[L2.KOf]
   refine' Lp.Law.mk13 KX G ?a ?l ?c ?k
   (case a=>k_is);(case l=>k_is);(case c=>k_is);(case k=>k_is)
  have m14:Lp.ModOf (L2.KOf KX) mg Lp.Law.e14:=by
   dsimp only[L2.KOf]
   refine' Lp.Law.mk14 KX G ?a ?l ?c ?k
   (case a=>k_is);(case l=>k_is);(case c=>k_is);(case k=>k_is)
  have m15:Lp.ModOf (L2.KOf KX) mg Lp.Law.e15:=by
   dsimp only[L2.KOf]
   refine' Lp.Law.mk15 KX G ?a ?l ?c ?k
   (case a=>k_is);(case l=>k_is);(case c=>k_is);(case k=>k_is)
  have m16:Lp.ModOf (L2.KOf KX) mg Lp.Law.e16:=by
   dsimp only[L2.KOf]
   refine' Lp.Law.mk16 KX G ?a ?l ?c ?k
   (case a=>k_is);(case l=>k_is);(case c=>k_is);(case k=>k_is)
  have m17:Lp.ModOf (L2.KOf KX) mg Lp.Law.e17:=by
   dsimp only[L2.KOf]
   refine' Lp.Law.mk17 KX G ?a ?l ?c ?k
   (case a=>k_is);(case l=>k_is);(case c=>k_is);(case k=>k_is)
  have m18:Lp.ModOf (L2.KOf KX) mg Lp.Law.e18:=by
   dsimp only[L2.KOf]
   refine' Lp.Law.mk18 KX G ?a ?l ?c ?k
   (case a=>k_is);(case l=>k_is);(case c=>k_is);(case k=>k_is)
  have m19:Lp.ModOf (L2.KOf KX) mg Lp.Law.e19:=by
   dsimp only[L2.KOf]
   refine' Lp.Law.mk19 KX G ?a ?l ?c ?k
   (case a=>k_is);(case l=>k_is);(case c=>k_is);(case k=>k_is)
  have m20:Lp.ModOf (L2.KOf KX) mg Lp.Law.e20:=by
   dsimp only[L2.KOf]
   refine' Lp.Law.mk20 KX G ?a ?l ?c ?k
   (case a=>k_is);(case l=>k_is);(case c=>k_is);(case k=>k_is)
  have m21:Lp.ModOf (L2.KOf KX) mg Lp.Law.e21:=by
   dsimp only[L2.KOf]
   refine' Lp.Law.mk21 KX G ?a ?l ?c ?k
   (case a=>k_is);(case l=>k_is);(case c=>k_is);(case k=>k_is)
  have m22:Lp.ModOf (L2.KOf KX) mg Lp.Law.e22:=by
   dsimp only[L2.KOf]
   refine' Lp.Law.mk22 KX G ?a ?l ?c ?k
   (case a=>k_is);(case l=>k_is);(case c=>k_is);(case k=>k_is)
  have b0:mg "tuple"=none:=by
   refine' PySem.W.mg_none_of KX G ?z
   (case z=>k_is)
  have b1:mg "len"=none:=by
   refine' PySem.W.mg_none_of KX G ?z
   (case z=>k_is)
  have b2:mg "range"=none:=by
   refine' PySem.W.mg_none_of KX G ?z
   (case z=>k_is)
  have b3:mg "min"=none:=by
   refine' PySem.W.mg_none_of KX G ?z
   (case z=>k_is)
  have b4:mg "isinstance"=none:=by
   refine' PySem.W.mg_none_of KX G ?z
   (case z=>k_is)
  have b5:mg "int"=none:=by
   refine' PySem.W.mg_none_of KX G ?z
   (case z=>k_is)
  have b6:mg "bool"=none:=by
   refine' PySem.W.mg_none_of KX G ?z
   (case z=>k_is)
  have b7:mg "max"=none:=by
   refine' PySem.W.mg_none_of KX G ?z
   (case z=>k_is)
  have b8:mg "list"=none:=by
   refine' PySem.W.mg_none_of KX G ?z
   (case z=>k_is)
  have b9:mg "reversed"=none:=by
   refine' PySem.W.mg_none_of KX G ?z
   (case z=>k_is)
  exact Lp.law_fin (T:=Lp.GL) (es:=Lp.Law.ents) (n:=6) (j:=22) (e:=Lp.Law.e22) (Lp.Law.mods m0 m1 m2 m3 m4 m5 m6 m7 m8 m9 m10 m11 m12 m13 m14 m15 m16 m17 m18 m19 m20 m21 m22) (fun base=>Lp.Law.dvs (Lp.Law.nob b0 b1 b2 b3 b4 b5 b6 b7 b8 b9)) rfl hmg rfl (fun ns hn=>Lr.law04 ns)
#print axioms PySem.Challenge.cw_lamprota_k04_books_put_otherwise_holds
