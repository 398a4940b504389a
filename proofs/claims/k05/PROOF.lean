import PyProof.Rows.All
import Wide.All
import OpenK.AllK
import Wide.FinOn
import Lean
import PyProof.EqAt
import PyProof.EqKinds
import PyProof.TupleCall
import PySem.Syntax
import PyProof.Rows.ZipGen
import PyProof.EnumMake
import PyProof.EnumFor
import PyProof.Rows.EnumRows
import PyProof.DictValues
import KE.KSortTup
import PyProof.Rows.SetFrom
import PyProof.WalksMore
import PyProof.FactsAll.set
import PyProof.ForAny
import PyProof.CollectWalk
import PyProof.ListRange
import PyProof.Rows.SortShell
import PyProof.AttrMissHeap
import PyProof.ExcClass3
import PyProof.ExcInit
import PyProof.InstStoreFacts
import PyProof.InstLoad
import PyProof.ExcArgsOwn
import PyProof.ExcAttrAll.ValueError
import PyProof.StationsW
import PySem.Challenge.RW_lamprota_k05_refusals_apart
noncomputable section
local macro_rules | `(tactic| simp! [$ls,*] $[$l:location]?) => `(tactic| simp only [$ls,*] $[$l]?)
open List renaming getElem?_eq_getElem -> AA, prefix_refl -> AD, getElem?_append_left -> AG, getElem?_eq_some_iff -> AI, mem_cons -> AJ, getElem?_set_ne -> AL, size_toArray -> AM, mem_append_right -> AR, getElem?_set_self -> AT, mem_cons_of_mem -> AV, length_cons -> AW, mem_cons_self -> AY, getElem?_append_right -> BA, length_nil -> BB, filterMap_cons -> BF, getElem?_map -> BH, map_cons -> BJ, all_cons -> BK, getElem?_replicate -> BM, length_append -> BR, length_map -> BU, replicate_succ -> BW, all_eq_true -> BX, not_mem_nil -> BY, zip_cons_cons -> BZ, contains_cons -> CB, append_nil -> CD, lookup_cons -> CJ, map_nil -> CK, find?_cons -> CP, getElem?_eq_none -> CQ, flatten_cons -> CV, cons_append -> Db, nil_prefix -> DC, length_replicate -> DM, length_take -> DR, mem_of_getElem? -> DS, mem_append -> DU, nodup_cons -> DV, of_mem_zip -> DW, zip_nil_right -> ED, mem_singleton -> EF, getD_eq_getElem?_getD -> EI, drop_eq_getElem_cons -> EJ, zip_nil_left -> EK, getElem?_take_of_lt -> EN, any_cons -> EO, getElem?_cons_zero -> EY, getElem?_cons_succ -> EZ, length_eq_one_iff -> FD, nil_append -> FE, contains_iff_mem -> FG
open PySem.Heap renaming get?_push_of_some -> AB, lt_size -> AE, get?_update_other -> BC, get?_push_size -> BD, get?_update_self -> CT, get?_none_of_le -> CW
open PySem renaming wpAny_bind -> AC, wpAny_loadPart_at -> AF, wpAny_mono -> AN, wpAny_pure -> AO, wpAny_isSubtype_exc -> BP, wpAny_standAt -> CG, mem_of_lookup -> CI, wpAny_execs_nil -> CN, wpAny_loadPart' -> CO, wpAny_truthy_bool -> CU, wpAny_newFunctionEnv_cells -> CY, codeAny_call_builtin -> CZ, wpAny_execs_cons -> Da, wpAny_passesOwn -> DB, wpAny_Call_Name_kw -> DD, richCompare_meets_room -> DJ, codeAny_call_function -> DN, codeAny_mono -> DZ, wpAny_Name -> Ev, wpAny_setField -> EE, wpAny_field -> EL, wpAny_Call_ofName -> EM, wpAny_holding -> ES, wpAny_forIn_list -> ET, noFill_tuple_add -> EU, wpAny_call -> FA, sizeLine_eq -> FH
open Nat renaming lt_of_lt_of_le -> AH, le_refl -> AQ, ne_of_lt -> AS, lt_irrefl -> BN, le_trans -> BS, le_of_lt -> DH
open Bool renaming and_eq_true -> AK, false_ne_true -> AZ, false_eq_true -> CC, beq_eq_decide_eq -> CS, not_eq_true' -> DL, or_true -> FC
open PySem.W renaming hideAll_none -> AU, hideAll_get -> BO, of_hideAll -> BQ, kia_one -> CF, mg_of -> CH, mg_none_of -> CM, codeRec_of -> DE, ns_none_of -> DF, cellsFrom_some -> DI, callWith_K -> EC, isNs_of_in -> EG, nsMap_none_of_in -> ER, tail_of_in -> FM
open PySem.F renaming excBase_ValueError -> AX, args_tuple_add_2 -> DA, entry_tuple_add -> DG, slot_tuple_add -> DK, typeOf_object_class -> DO
open Option.some renaming injEq -> BI, inj -> BL
open Array renaming length_toList -> BV, getElem?_eq_some_iff -> CA
open PySem.Obj renaming data_mapFields -> CL, isFreed_of_fields -> DP
open PySem.AutoSeq1 renaming sub_tuple_tuple -> Do
open PySem.Calls renaming evalArgs_plain -> DT, Name_function_global -> EA
open Option renaming map_some -> DY, bind_eq_some_iff -> EV, getD_some -> EW
open Int renaming fdiv_eq_ediv_of_nonneg -> EB
open PySem.Code renaming quiet_builtin -> EH
open PyProof.Rows renaming boot_isinstance -> FF
open PySem.Around renaming frames_deeper -> FI
open PySem.SeqAt.EqAt renaming int_str -> FJ, str_int -> FK, int_int -> FL
set_option Elab.async false
set_option linter.all false
set_option maxRecDepth 100000
namespace L2
open PySem PySem.Spec PyProof.Rows
abbrev Key:=Sum Int Str
def ko:Key->Value->Bool
 | .inl k,v=>Value.isInt k v
 | .inr x,v=>Value.isStrOf x v
def Fg (w:World):Key->Int
 | .inl k=>hashInt k
 | .inr x=>hashStr w x
theorem aj:∀{k:Key} {v:Value},ko k v=true->(∃i t,k=Sum.inl i/\v=Value.int i t)\/(∃x t,k=Sum.inr x/\v=Value.str x t)
 | .inl i,v,h=>by
  obtain⟨t,e⟩:=Value.isInt_shape (k:=i) (v:=v) h
  exact .inl ⟨i,t,rfl,e⟩
 | .inr x,v,h=>by
  obtain⟨t,e⟩:=Value.isStrOf_shape (x:=x) (v:=v) h
  exact .inr ⟨x,t,rfl,e⟩
theorem lz (i:Int) (t:Tok):ko (.inl i) (.int i t)=true:=by simp[ko,Value.isInt]
theorem l0 (x:Str) (t:Tok):ko (.inr x) (.str x t)=true:=by simp[ko,Value.isStrOf]
theorem yk (a b:Int):decide ((Sum.inl a:Key)=Sum.inl b)=(a==b):=by
 by_cases e:a=b
 ·subst e;simp
 ·have h:¬(Sum.inl a:Key)=Sum.inl b:=λq=>e (Sum.inl.inj q)
  rw[decide_eq_false h]
  exact(beq_eq_false_iff_ne.mpr e).symm
theorem yl (a b:Str):decide ((Sum.inr a:Key)=Sum.inr b)=decide (a=b):=by
 by_cases e:a=b
 ·subst e;simp
 ·have h:¬(Sum.inr a:Key)=Sum.inr b:=λq=>e (Sum.inr.inj q)
  rw[decide_eq_false h,decide_eq_false e]
theorem ym (a:Int) (b:Str):decide ((Sum.inl a:Key)=Sum.inr b)=false:=decide_eq_false (λq=>nomatch q)
theorem yn (a:Str) (b:Int):decide ((Sum.inr a:Key)=Sum.inl b)=false:=decide_eq_false (λq=>nomatch q)
def bg (prog:Program) (w:World):PySem.KeyKind prog w Key where
 is:=ko
 hash:=Fg w
 inj:=λv a b ha hb=>by
  rcases aj ha with⟨i,t,rfl,rfl⟩ | ⟨x,t,rfl,rfl⟩
  ·rcases aj hb with⟨j,u,rfl,e⟩ | ⟨y,u,rfl,e⟩
   ·injection e with e1 _;rw[e1]
   ·exact nomatch e
  ·rcases aj hb with⟨j,u,rfl,e⟩ | ⟨y,u,rfl,e⟩
   ·exact nomatch e
   ·injection e with e1 _;rw[e1]
 byValue:=λk v h=>by
  rcases aj h with⟨i,t,rfl,rfl⟩ | ⟨x,t,rfl,rfl⟩<;>rfl
 pyHash:=λhv h=>by
  rcases aj hv with⟨i,t,rfl,rfl⟩ | ⟨x,t,rfl,rfl⟩
  ·exact wpAny_pyHash_int h
  ·exact wpAny_pyHash_str h
 eqBool:=λhu hv h=>by
  rcases aj hu with⟨i,t,rfl,rfl⟩ | ⟨x,t,rfl,rfl⟩
  ·rcases aj hv with⟨j,u,rfl,rfl⟩ | ⟨y,u,rfl,rfl⟩
   ·rw[yk]at h;exact wpAny_eqBool_int h
   ·rw[ym]at h;exact FJ i t y u _ _ _ _ h
  ·rcases aj hv with⟨j,u,rfl,rfl⟩ | ⟨y,u,rfl,rfl⟩
   ·rw[yn]at h;exact FK x t j u _ _ _ _ h
   ·rw[yl]at h;exact wpAny_eqBool_str h
 «strs»:=λk x t v h=>by
  rcases aj h with⟨i,u,rfl,e⟩ | ⟨y,u,rfl,e⟩
  ·exact nomatch e
  ·injection e with e1 _
   subst e1
   cases v<;>rfl
theorem jf (prog:Program) (w:World) (i:Int) (t:Tok):(bg prog w).is (.inl i) (.int i t)=true:=lz i t
theorem jg (prog:Program) (w:World) (x:Str) (t:Tok):(bg prog w).is (.inr x) (.str x t)=true:=l0 x t
inductive V where
 | non | bl (b:Bool) | int (i:Int) | str (x:Str) | byt (b:Array UInt8) | flt (b:UInt64) | ref (a:Addr) | ty (n:String)
 deriving DecidableEq
def RelV:V->Value->Prop
 | .non,u=>u=Value.none
 | .bl b,u=>u=Value.bool b
 | .int i,u=>∃t,u=Value.int i t
 | .str x,u=>∃t,u=Value.str x t
 | .byt b,u=>∃t,u=Value.bytes b t
 | .flt b,u=>∃t,u=Value.float b t
 | .ref a,u=>u=Value.ref a
 | .ty n,u=>u=Value.type n
abbrev ax:List V->List Value->Prop:=Paired RelV
theorem ax.length {xs:List V} {us:List Value} (r:ax xs us):xs.length=us.length:=Paired.length r
theorem ax.get:∀{xs:List V} {us:List Value} {i:Nat} {x:V},ax xs us->xs[i]? = some x->∃u,us[i]? = some u/\RelV x u
 | _,_,_,_,.nil,e=>by simp at e
 | _,_,0,_,.cons r _,e=>by simp at e;subst e;exact⟨_,rfl,r⟩
 | _,_,i+1,x,.cons _ t,e=>by
  obtain⟨u,h1,h2⟩:=ax.get (i:=i) (x:=x) t (by simpa using e)
  exact⟨u,by simpa using h1,h2⟩
theorem ax.append:∀{xs ys:List V} {us ws:List Value},ax xs us->ax ys ws->ax (xs++ys) (us++ws)
 | _,_,_,_,.nil,s=>s
 | _,_,_,_,.cons r t,s=>.cons r (ax.append t s)
theorem ax.take:∀{xs:List V} {us:List Value} (n:Nat),ax xs us->ax (xs.take n) (us.take n)
 | _,_,0,_=>.nil
 | _,_,_+1,.nil=>.nil
 | _,_,n+1,.cons r t=>.cons r (ax.take n t)
theorem ax.drop:∀{xs:List V} {us:List Value} (n:Nat),ax xs us->ax (xs.drop n) (us.drop n)
 | _,_,0,r=>r
 | _,_,_+1,.nil=>.nil
 | _,_,n+1,.cons _ t=>ax.drop n t
def ye:Option V->Option Value->Prop
 | some v,some u=>RelV v u
 | none,none=>True
 | _,_=>False
def KV {κ:Type}:List (κ×V)->List (κ×Value)->Prop:=Paired fun(p:κ×V) (q:κ×Value)=>p.1=q.1/\RelV p.2 q.2
def kV:Key->V
 | .inl i=>.int i
 | .inr x=>.str x
inductive HO where
 /-- a list -/
 | lst (xs:List V)
 /-- a tuple (never changes) -/
 | tup (xs:List V)
 /-- a dict whose keys are ints and texts;one whose keys are tuples of ints and texts (the empty one is both) -/
 | dK (kvs:List (Key×V)) | dT (kvs:List (List Key×V))
 /-- a set of ints: its members,its size -/
 | set (S:Int->Bool) (n:Nat)
 /-- an instance of the class at C,its dict at dx,its attributes -/
 | ins (C dx:Addr) (fs:List (Str×V))
 /-- the dict of the instance at x -/
 | own (x:Addr)
 /-- the dict of an exception -/
 | xd (fs:List (Str×V))
 /-- a bound method,f of x -/
 | met (f x:Addr)
 /-- a range object lo,lo+1,.. below hi -/
 | rng (lo hi:Int)
 /-- a thing that is known to the object (the script;a dict while a loop walks it): read,never written while it is so -/
 | frz (o:Obj) (u:HO)
 /-- a code object's table -/
 | tbl (ps:Array Value)
 /-- any other thing,by what is true of its one object (a def of one's own: SetO a S n:=HO.ext λh=>..) -/
 | ext (φ:Heap->Prop)
abbrev Hp:=Addr->Option HO
def upd (H:Hp) (a:Addr) (o:HO):Hp:=λb=>if b=a then some o else H b
theorem bb {H:Hp} {a:Addr} {o:HO}:upd H a o a=some o:=by unfold upd;rw[if_pos rfl]
theorem ah {H:Hp} {a b:Addr} {o:HO} (h:b≠a):upd H a o b=H b:=by unfold upd;rw[if_neg h]
theorem vq {H:Hp} {a:Addr} {o u:HO}:upd (upd H a o) a u=upd H a u:=by
 funext b;unfold upd;split<;>rfl
theorem l5 {H:Hp} {a b:Addr} {o u:HO} (h:H a=some o) (h':H b=some u) (d:o≠u):a≠b:=by
 intro e;subst e;rw[h]at h';exact d (BL h')
theorem ae {H:Hp} {a b:Addr} {o:HO} (h:H a=some o) (h':H b=none):a≠b:=by
 intro e;subst e;rw[h]at h';cases h'
def gb (h:Heap) (a:Addr) (items:Array Value):Prop:=∃o,h.get? a=some o/\o.cls=.type "tuple"/\o.dict=none/\∃n,o.data=.seq items n
theorem gb.tup {h:Heap} {a:Addr} {items:Array Value} (x:gb h a items):IsTup h a items:=let ⟨o,e,c,_,d⟩:=x;⟨o,e,c,d⟩
theorem gb.new (h:Heap) (items:Array Value):gb (h.push {cls:=.type "tuple",data:=.seq items}) h.objs.size items:=⟨_,BD _ rfl,rfl,rfl,_,rfl⟩
section
variable (P : Program) (w : World)
def cf (H:Hp) (h:Heap) (a:Addr):HO->Prop
 | .lst xs=>xs.length<=sizeLine/\∃(its:List Value) (n:Nat),ax xs its/\h.get? a=some {cls:=.type "list",data:=.seq its.toArray n}
 | .tup xs=>xs.length<=sizeLine/\∃its:List Value,ax xs its/\gb h a its.toArray
 | .dK kvs=>kvs.length<=sizeLine/\(a==sysModules)=false/\∃vs,KV kvs vs/\h.DictOf (bg P w) a vs
 | .dT kvs=>kvs.length<=sizeLine/\(a==sysModules)=false/\∃xs:List (List Key×Addr×Value),
   Paired (fun(p:List Key×V) (q:List Key×Addr×Value)=>p.1=q.1/\H q.2.1=some (.tup (p.1.map kV))/\RelV p.2 q.2.2) kvs xs /\
   ∃o es ep,h.get? a=some o/\o.ExactDict/\o.data=.dict es ep/\es.toList=xs.map (entryOfKey (tupleKind (bg P w)))/\(xs.map (·.1)).Nodup
 | .set S n=>h.SetOf (intKind P w) a S n
 | .ins C dx fs=>H dx=some (.own a)/\fs.length<=1000/\dx≠a/\h.get? a=some (PySem.W.instObj C dx) /\
   ∃mA,h.Ns1 dx mA/\(∀f,ye (fs.lookup f) (mA f))/\PySem.Within mA (fs.map (·.1))
 | .own _=>∃o,h.get? a=some o
 | .xd fs=>∃mA,h.Ns1 a mA/\∀f,ye (fs.lookup f) (mA f)
 | .rng lo hi=>∃t u v,h.get? a=some {cls:=.type "range",data:=.fields #[.int lo t,.int hi u,.int 1 v]}
 | .frz o u=>h.get? a=some o/\cf H h a u
 | .tbl ps=>h.get? a=some {cls:=.none,data:=.fields ps}
 | .met f x=>h.get? a=some (PySem.W.methodObj (.ref f) (.ref x))
 | .ext φ=>φ h/\(∃o,h.get? a=some o)/\∀h1 h2:Heap,φ h1->(∀o,h1.get? a=some o->h2.get? a=some o)->φ h2
def HOk (H:Hp) (h:Heap):Prop:=∀a o,H a=some o->cf P w H h a o
end
section
variable {P : Program} {w : World} {H H' : Hp} {h h' : Heap} {a : Addr} {o : HO}
theorem cf.lt (x:cf P w H h a o):a<h.objs.size:=by
 cases o with
 | lst xs=>obtain⟨_,_,_,_,e⟩:=x;exact AE e
 | tup xs=>obtain⟨_,_,_,p⟩:=x;exact p.tup.lt
 | dK kvs=>obtain⟨_,_,_,_,o,_,_,e,_⟩:=x;exact AE e
 | dT kvs=>obtain⟨_,_,_,_,o,_,_,e,_⟩:=x;exact AE e
 | set S n=>obtain⟨o,_,_,_,e,_⟩:=x;exact AE e
 | ins C dx fs=>obtain⟨_,_,_,e,_⟩:=x;exact AE e
 | own y=>obtain⟨_,e⟩:=x;exact AE e
 | xd fs=>obtain⟨_,⟨_,_,_,e,_⟩,_⟩:=x;exact AE e
 | rng lo hi=>obtain⟨_,_,_,e⟩:=x;exact AE e
 | frz ob u=>obtain⟨e,_⟩:=x;exact AE e
 | tbl ps=>exact AE (show h.get? a=some _ from x)
 | met f y=>exact AE (show h.get? a=some _ from x)
 | ext φ=>obtain⟨_,⟨_,e⟩,_⟩:=x;exact AE e
theorem Paired.mapP {α β:Type} {F G:α->β->Prop}:∀{l₁:List α} {l₂:List β},Paired F l₁ l₂->(∀a b,F a b->G a b)->Paired G l₁ l₂
 | _,_,.nil,_=>.nil
 | _,_,.cons r t,f=>.cons (f _ _ r) (Paired.mapP t f)
theorem cf.stay (x:cf P w H h a o) (k:∀b u,(b=a\/H b=some (.own a))->h.get? b=some u->h'.get? b=some u)
  (ho:∀b,H b=some (.own a)->H' b=some (.own a)) (ht:∀b xs,H b=some (.tup xs)->H' b=some (.tup xs)):cf P w H' h' a o:=by
 induction o with
 | lst xs=>obtain⟨z,its,n,r,e⟩:=x;exact⟨z,its,n,r,k _ _ (.inl rfl) e⟩
 | tup xs=>obtain⟨z,its,r,ob,e,c⟩:=x;exact⟨z,its,r,ob,k _ _ (.inl rfl) e,c⟩
 | dK kvs=>obtain⟨z,y,vs,r,ob,es,ep,e,c⟩:=x;exact⟨z,y,vs,r,ob,es,ep,k _ _ (.inl rfl) e,c⟩
 | dT kvs =>
  obtain⟨z,y,xs,r,ob,es,ep,e,c⟩:=x
  exact⟨z,y,xs,Paired.mapP r λp q z=>⟨z.1,ht _ _ z.2.1,z.2.2⟩,ob,es,ep,k _ _ (.inl rfl) e,c⟩
 | set S n=>obtain⟨ob,es,ep,t,e,c⟩:=x;exact⟨ob,es,ep,t,k _ _ (.inl rfl) e,c⟩
 | ins C dx fs =>
  obtain⟨d,z,ne,e,mA,⟨od,es,ep,e2,c⟩,r⟩:=x
  exact⟨ho _ d,z,ne,k _ _ (.inl rfl) e,mA,⟨od,es,ep,k _ _ (.inr d) e2,c⟩,r⟩
 | own y=>obtain⟨ob,e⟩:=x;exact⟨ob,k _ _ (.inl rfl) e⟩
 | xd fs=>obtain⟨mA,⟨od,es,ep,e,c⟩,r⟩:=x;exact⟨mA,⟨od,es,ep,k _ _ (.inl rfl) e,c⟩,r⟩
 | rng lo hi=>obtain⟨t,u,v,e⟩:=x;exact⟨t,u,v,k _ _ (.inl rfl) e⟩
 | frz ob u ih=>obtain⟨e,q⟩:=x;exact⟨k _ _ (.inl rfl) e,ih q⟩
 | tbl ps =>
  have e:h.get? a=some {cls:=.none,data:=.fields ps}:=x
  show h'.get? a=some {cls:=.none,data:=.fields ps}
  exact k a _ (.inl rfl) e
 | met f y =>
  have e:h.get? a=some (PySem.W.methodObj (.ref f) (.ref y)):=x
  show h'.get? a=some (PySem.W.methodObj (.ref f) (.ref y))
  exact k a _ (.inl rfl) e
 | ext φ=>obtain⟨p,⟨o,e⟩,st⟩:=x;exact⟨st _ _ p λo q=>k _ _ (.inl rfl) q,⟨o,k _ _ (.inl rfl) e⟩,st⟩
theorem HOk.lt (x:HOk P w H h) (e:H a=some o):a<h.objs.size:=(x a o e).lt
theorem HOk.fresh (x:HOk P w H h) (e:h.objs.size<=a):H a=none:=by
 cases q:H a with
 | none=>rfl
 | some u=>exact absurd (AH (x.lt q) e) (BN _)
theorem HOk.kept (x:HOk P w H h) (k:∀b u,h.get? b=some u->h'.get? b=some u):HOk P w H h':=λa o e =>
 (x a o e).stay (λb u _ q=>k b u q) (λ_ q=>q) λ_ _ q=>q
theorem HOk.laid (x:HOk P w H h) (k:∀b u,h.get? b=some u->h'.get? b=some u) (hp:h.objs.size<=a) (new:cf P w (upd H a o) h' a o):HOk P w (upd H a o) h':=λb u e=>by
 have hn:=x.fresh hp
 by_cases hb:b=a
 ·subst hb;rw[bb]at e;cases e;exact new
 ·rw[ah hb]at e
  exact(x b u e).stay (λc v _ q=>k c v q) (λc q=>by rw[ah (ae q hn)];exact q) λc xs q=>by rw[ah (ae q hn)];exact q
end
def Rd (H:Hp) (a:Addr) (u:HO):Prop:=H a=some u\/∃o,H a=some (.frz o u)
theorem Rd.ok {P:Program} {w:World} {H:Hp} {h:Heap} {a:Addr} {u:HO} (r:Rd H a u) (x:HOk P w H h):cf P w H h a u:=by
 rcases r with r | ⟨o,r⟩
 ·exact x a u r
 ·obtain⟨_,q⟩:=x a _ r
  exact q
structure Un (fs ex:List Addr) (H H':Hp) (h h':Heap):Prop where
 keep:∀b o,h.get? b=some o->H b=none->b∉fs->b∉ex->h'.get? b=some o
 slot:∀b o,h.get? b=some o->H b=none->b∈fs->b∉ex->∃sl,h'.get? b=some {o with slots:=sl}
 free:∀b o,h.get? b=some o->H b=none->b∉ex->H' b=none
 there:∀b o,h.get? b=some o->b∉ex->∃o',h'.get? b=some o'
 tups:∀b xs,H b=some (.tup xs)->H' b=some (.tup xs)
 frzs:∀b o u,H b=some (.frz o u)->H' b=some (.frz o u)
 tbls:∀b ps,H b=some (.tbl ps)->∃more,H' b=some (.tbl (ps++more))
section
variable {fs fs' ex ex' : List Addr} {H H1 H2 : Hp} {h h1 h2 h' : Heap} {a x e : Addr} {o : HO}
theorem Un.any (u:Un fs ex H H1 h h1) {b:Addr} {ob:Obj} (q:h.get? b=some ob) (n:H b=none) (hx:b∉ex):∃sl,h1.get? b=some {ob with slots:=sl}:=by
 by_cases hb:b∈fs
 ·exact u.slot b ob q n hb hx
 ·exact⟨ob.slots,u.keep b ob q n hb hx⟩
theorem Un.kept (k:∀b u,h.get? b=some u->h'.get? b=some u):Un fs ex H H h h' :=
 ⟨λb ob q _ _ _=>k b ob q,λb ob q _ _ _=>⟨ob.slots,k b ob q⟩,λ_ _ _ n _=>n,λb ob q _=>⟨ob,k b ob q⟩,λ_ _ q=>q,λ_ _ _ q=>q,λ_ ps q=>⟨#[],by rw[q];simp⟩⟩
theorem Un.refl:Un fs ex H H h h:=Un.kept λ_ _ q=>q
theorem Un.laid (k:∀b u,h.get? b=some u->h'.get? b=some u) (hp:h.objs.size<=a) (hn:H a=none):Un fs ex H (upd H a o) h h' where
 keep:=λb u q _ _ _=>k b u q
 slot:=λb u q _ _ _=>⟨u.slots,k b u q⟩
 free:=λb u q n _=>by rw[ah (AS (AH (AE q) hp))];exact n
 there:=λb u q _=>⟨u,k b u q⟩
 tups:=λb xs q=>by rw[ah (ae q hn)];exact q
 frzs:=λb u xs q=>by rw[ah (ae q hn)];exact q
 tbls:=λb ps q=>⟨#[],by rw[ah (ae q hn),q];simp⟩
end
def trk (h:Heap) (H:Hp):List Addr:=(List.range h.objs.size).filter λa=>(H a).isSome
def qh (h:Heap) (H:Hp):Heap:=PySem.W.hideAll h (trk h H)
theorem l6 (h:Heap) (H:Hp):(qh h H).objs.size=h.objs.size:=PySem.W.hideAll_size _ _
theorem qi {h:Heap} {H:Hp} {b:Addr} {o:Obj} (e:h.get? b=some o) (n:H b=none):(qh h H).get? b=some o :=
 BO _ e λhm=>by
  have q:(H b).isSome=true:=(List.mem_filter.mp hm).2
  rw[n]at q;simp at q
theorem vr {h:Heap} {H:Hp} {b:Addr} {o:Obj} (e:(qh h H).get? b=some o):h.get? b=some o/\H b=none:=by
 have e':h.get? b=some o:=BQ (trk h H) e
 refine⟨e',?_⟩
 cases q:H b with
 | none=>rfl
 | some x =>
  have hm:b∈trk h H:=List.mem_filter.mpr ⟨List.mem_range.mpr (AE e'),by simp[q]⟩
  have z:(qh h H).get? b=none:=AU (trk h H) hm
  rw[z]at e;cases e
def vt (g h:Heap) (L:Addr):List (Addr×Obj):=(List.range h.objs.size).filterMap λa=>if a=L\/(g.get? a).isSome=true then none else(h.get? a).map λo=>(a,o)
def rest (g h:Heap) (L d:Addr):List (Addr×Obj):=(vt g h L).filter λp=>decide (p.1≠d)
structure Mod (K:PySem.W.Frag) (mg:Str->Option Value) (base:Heap):Prop where
 kin:K.In base
 glob:base.Ns mainGlobals mg
 blt:∃mb,base.Ns builtinsNs mb/\∀x:Str,x≠"__name__"->mb x=bootBuiltins x
 nolimit:base.NoLimit
structure Cx where
 prog:Program
 w:World
 K:PySem.W.Frag
 mg:Str->Option Value
 base:Heap
 A:Around
 N:List Str
 s₀:Shared
 H₀:Hp
 env:Env
 outer:List Env
 stack:List Env
 ex:List Addr
 fn:Str->Bool
 calm:Bool
 pn:List (Addr×Obj)
 xe:Value->Shared->Prop
def frs (l:List Env):List Addr:=l.filterMap (·.frame)
abbrev Cx.fs (X:Cx):List Addr:=frs X.outer
def Vis (sc:Scope) (x:Str):Prop:=sc.names.lookup x=some .local\/sc.names.lookup x=some .cell\/sc.names.lookup x=some .free
def Loc (sc:Scope) (x:Str):Prop:=sc.names.lookup x=some .local\/sc.names.lookup x=some .cell
def Look (env:Env) (h:Heap) (m:Str->Option Value) (x:Str) (u:Value):Prop :=
 (env.kindOf x=some .local/\m x=some u)\/((env.kindOf x=some .cell\/env.kindOf x=some .free)/\∃c,env.cells.lookup x=some c/\h.IsCell c (some u))
structure Cx.Ok (X:Cx):Prop where
 mod:Mod X.K X.mg X.base
 kind:X.env.scope.kind=.function
 glob:X.env.globals=mainGlobals
 blt:X.env.builtins=builtinsNs
 above:X.s₀.heap.objs.size<=X.env.locals
 inj:∀x y c,X.env.cells.lookup x=some c->X.env.cells.lookup y=some c->x=y
 has:∀x,(X.env.kindOf x=some .cell\/X.env.kindOf x=some .free)->∃c,X.env.cells.lookup x=some c
 cab:∀x c,X.fn x=true->X.env.cells.lookup x=some c->X.s₀.heap.objs.size<=c
 hd:X.calm=true->X.A.handled=none
 frames:X.A.frames=some X.stack
 stk:X.stack=X.outer\/(X.stack=X.env::X.outer/\X.env.frame=some X.env.locals)
 exf:∀b∈X.ex,b≠X.env.locals/\∀x c,X.env.cells.lookup x=some c->c≠b
 bs:∀b o,X.base.get? b=some o->X.s₀.heap.get? b=some o/\X.H₀ b=none
 bsz:X.base.objs.size<=X.s₀.heap.objs.size
 noex:∀b o,X.base.get? b=some o->b∉X.ex
 exfs:∀b∈X.ex,b∉X.fs
 funs:X.s₀.heap.FunFrames X.base X.outer
 frf:∀b∈X.fs,X.H₀ b=none
structure Inv (X:Cx) (pins:List (Addr×Obj)) (σ:List (Option V)) (H:Hp) (s:Shared):Prop where
 ok:X.Ok
 os:s.os=X.s₀.os
 bare:AllBare s.gens
 base:Un X.fs X.ex X.H₀ H X.s₀.heap s.heap
 loc:∃m,s.heap.Ns X.env.locals m/\∀(i:Nat) (x:Str) (v:V),X.N[i]? = some x->σ[i]? = some (some v)->Vis X.env.scope x->∃u,RelV v u/\Look X.env s.heap m x u
 cell:∀x c,X.env.cells.lookup x=some c->∃v,s.heap.IsCell c v
 free:H X.env.locals=none
 freeC:∀x c,X.env.cells.lookup x=some c->H c=none
 pin:∀p∈X.pn++pins,s.heap.get? p.1=some p.2/\H p.1=none/\p.1≠X.env.locals/\p.1∉X.fs/\∀v,p.2.data≠.cell v
 hok:HOk X.prog X.w H s.heap
 len:σ.length=X.N.length
section
variable {X : Cx} {pins : List (Addr × Obj)} {σ : List (Option V)} {H H' : Hp} {s : Shared} {h' : Heap}
theorem Cx.Ok.nofr (ok:X.Ok) {b:Addr} {o:Obj} (e:X.base.get? b=some o):b∉X.fs:=λhb=>by
 have:=(ok.funs.mem hb).1
 rw[e]at this;cases this
theorem Inv.bs (I:Inv X pins σ H s):∀b o,X.base.get? b=some o->s.heap.get? b=some o/\H b=none:=λb o e =>
 ⟨I.base.keep b o (I.ok.bs b o e).1 (I.ok.bs b o e).2 (I.ok.nofr e) (I.ok.noex b o e),I.base.free b o (I.ok.bs b o e).1 (I.ok.bs b o e).2 (I.ok.noex b o e)⟩
theorem Inv.bk (I:Inv X pins σ H s):∀b o,X.base.get? b=some o->s.heap.get? b=some o:=λb o e=>(I.bs b o e).1
theorem Inv.mod (I:Inv X pins σ H s):Mod X.K X.mg X.base:=I.ok.mod
theorem Inv.kIn (I:Inv X pins σ H s):X.K.In s.heap:=I.ok.mod.kin.keeps I.bk
theorem Inv.fr (I:Inv X pins σ H s):∃m,Fr X.base X.env.locals s.heap m :=
 let ⟨m,hn,_⟩:=I.loc
 ⟨m,hn,I.bk,BS I.ok.bsz I.ok.above⟩
theorem Inv.lt (I:Inv X pins σ H s):X.env.locals<s.heap.objs.size:=let ⟨_,hn,_⟩:=I.loc;hn.lt
theorem Inv.sz (I:Inv X pins σ H s):X.s₀.heap.objs.size<=s.heap.objs.size:=BS I.ok.above (DH I.lt)
theorem Inv.nofs (I:Inv X pins σ H s) {a:Addr} (h:s.heap.objs.size<=a):a∉X.fs:=λhb=>by
 obtain⟨_,o,ho,_⟩:=I.ok.funs.mem hb
 exact absurd (AH (AE ho) (BS I.sz h)) (BN _)
theorem Inv.cne (I:Inv X pins σ H s):∀x c,X.env.cells.lookup x=some c->c≠X.env.locals:=λx c e z=>by
 obtain⟨v,o,ho,hd⟩:=I.cell x c e
 obtain⟨m,⟨o',es,ep,ho',hd',_⟩,_⟩:=I.loc
 rw[z,ho']at ho;cases ho;rw[hd']at hd;cases hd
theorem Inv.funs (I:Inv X pins σ H s):s.heap.FunFrames X.base X.outer:=by
 have all:∀(l:List Env),(∀b∈frs l,b∈X.fs)->X.s₀.heap.FunFrames X.base l->s.heap.FunFrames X.base l:=by
  intro l
  induction l with
  | nil=>intro _ _;trivial
  | cons env r ih =>
   intro hs hl
   obtain⟨hk,⟨L,o,hf,hn,ho,hd⟩,hr⟩:=hl
   have hL:L∈X.fs:=hs L (by unfold frs;rw[BF,hf];exact AY)
   obtain⟨sl,e⟩:=I.base.slot L o ho (I.ok.frf L hL) hL λz=>I.ok.exfs L z hL
   exact⟨hk,⟨L,_,hf,hn,e,hd⟩,ih (λb hb=>hs b (by unfold frs;rw[BF,hf];exact AV _ hb)) hr⟩
 exact all X.outer (λ_ hb=>hb) I.ok.funs
theorem Inv.stack (I:Inv X pins σ H s):s.heap.FunFrames X.base X.stack:=by
 rcases I.ok.stk with e | ⟨e,hf⟩
 ·rw[e];exact I.funs
 ·rw[e]
  obtain⟨m,hn,_⟩:=I.loc
  refine .cons (by rw[I.ok.kind];decide) hf hn ?_ I.funs
  exact CW (BS I.ok.bsz I.ok.above)
theorem Inv.stkSub (I:Inv X pins σ H s):∀b∈frs X.stack,b∈X.env.locals::X.fs:=λb hb=>by
 rcases I.ok.stk with e | ⟨e,hf⟩
 ·rw[e]at hb;exact AV _ hb
 ·rw[e]at hb
  unfold frs at hb
  rw[BF,hf]at hb
  exact hb
theorem Inv.stkFree (I:Inv X pins σ H s):∀b∈frs X.stack,H b=none:=λb hb=>by
 rcases AJ.mp (I.stkSub b hb)with e | hb
 ·rw[e];exact I.free
 ·obtain⟨_,o,ho,_⟩:=I.ok.funs.mem hb
  exact I.base.free b o ho (I.ok.frf b hb) λz=>I.ok.exfs b z hb
theorem Inv.step {g':Array GenState} {t':Nat} {d':Drawn} {ch:List Addr} (I:Inv X pins σ H s)
  (hch:∀b∈ch,(b∈X.ex\/X.s₀.heap.objs.size<=b)/\b≠X.env.locals/\(∀x c,X.env.cells.lookup x=some c->c≠b)/\∀p∈X.pn++pins,p.1≠b)
  (keep:∀b o,b≠X.env.locals->b∉X.fs->b∉ch->s.heap.get? b=some o->H b=none->h'.get? b=some o)
  (slot:∀b o,b≠X.env.locals->b∈X.fs->b∉ch->s.heap.get? b=some o->H b=none->∃sl,h'.get? b=some {o with slots:=sl}) (free:∀b o,b∉ch->s.heap.get? b=some o->H b=none->H' b=none)
  (there:∀b o,b∉ch->s.heap.get? b=some o->∃o',h'.get? b=some o')
  (tups:∀b xs,H b=some (.tup xs)->H' b=some (.tup xs)) (frzs:∀b o u,H b=some (.frz o u)->H' b=some (.frz o u)) (tbls:∀b ps,H b=some (.tbl ps)->∃more,H' b=some (.tbl (ps++more)))
  (ns:∀m,s.heap.Ns X.env.locals m->h'.Ns X.env.locals m) (hok:HOk X.prog X.w H' h') (hg:AllBare g') :
  Inv X pins σ H' {s with heap:=h',gens:=g',drawn:=d',toks:=t'}:=by
 have neL:∀b o,X.s₀.heap.get? b=some o->b≠X.env.locals:=λb o e=>AS (AH (AE e) I.ok.above)
 have neC:∀b o,X.s₀.heap.get? b=some o->b∉X.ex->b∉ch:=λb o e hx hb=>by
  rcases(hch b hb).1 with z | z
  ·exact hx z
  ·exact absurd (AH (AE e) z) (BN _)
 have cellK:∀x c,X.env.cells.lookup x=some c->∀v,s.heap.IsCell c v->h'.IsCell c v:=λx c e v ⟨o,ho,hd⟩=>by
  have nch:c∉ch:=λz=>(hch c z).2.2.1 x c e rfl
  by_cases hc:c∈X.fs
  ·obtain⟨sl,q⟩:=slot c o (I.cne x c e) hc nch ho (I.freeC x c e)
   exact⟨_,q,hd⟩
  ·exact⟨o,keep c o (I.cne x c e) hc nch ho (I.freeC x c e),hd⟩
 refine⟨I.ok,I.os,hg,⟨λb o e n hb hx=>?_,λb o e n hb hx=>?_,λb o e n hx=>?_,λb o e hx=>?_,λb xs e=>tups b xs (I.base.tups b xs e),λb o xs e=>frzs b o xs (I.base.frzs b o xs e),λb ps e=>?_⟩,?_,λx c e=>?_,?_,λx c e=>?_,λp hp=>?_,hok,I.len⟩
 ·exact keep b o (neL b o e) hb (neC b o e hx) (I.base.keep b o e n hb hx) (I.base.free b o e n hx)
 ·obtain⟨sl,e1⟩:=I.base.slot b o e n hb hx
  obtain⟨sl',e2⟩:=slot b _ (neL b o e) hb (neC b o e hx) e1 (I.base.free b o e n hx)
  exact⟨sl',e2⟩
 ·obtain⟨o',e1⟩:=I.base.there b o e hx
  exact free b o' (neC b o e hx) e1 (I.base.free b o e n hx)
 ·obtain⟨o',e1⟩:=I.base.there b o e hx
  exact there b o' (neC b o e hx) e1
 ·obtain⟨m1,e1⟩:=I.base.tbls b ps e
  obtain⟨m2,e2⟩:=tbls b _ e1
  exact⟨m1++m2,by rw[e2,Array.append_assoc]⟩
 ·obtain⟨m,hn,hl⟩:=I.loc
  refine⟨m,ns m hn,λi x v e1 e2 e3=>?_⟩
  obtain⟨u,r,l⟩:=hl i x v e1 e2 e3
  refine⟨u,r,?_⟩
  rcases l with l | ⟨k,c,e,z⟩
  ·exact .inl l
  ·exact .inr ⟨k,c,e,cellK x c e _ z⟩
 ·obtain⟨v,z⟩:=I.cell x c e
  exact⟨v,cellK x c e v z⟩
 ·obtain⟨m,⟨o,_,_,ho,_⟩,_⟩:=I.loc
  exact free _ o (λz=>(hch _ z).2.1 rfl) ho I.free
 ·obtain⟨v,o,ho,hd⟩:=I.cell x c e
  exact free c o (λz=>(hch c z).2.2.1 x c e rfl) ho (I.freeC x c e)
 ·obtain⟨e,n,ne,nf,d⟩:=I.pin p hp
  have nch:p.1∉ch:=λz=>(hch p.1 z).2.2.2 p hp rfl
  exact⟨keep p.1 p.2 ne nf nch e n,free p.1 p.2 nch e n,ne,nf,d⟩
theorem Inv.un {t':Nat} (I:Inv X pins σ H s) (u:Un X.fs [] H H' s.heap h') (hok:HOk X.prog X.w H' h'):Inv X pins σ H' {s with heap:=h',toks:=t'}:=by
 obtain⟨m,⟨o,es,ep,ho,r⟩,_⟩:=id I.loc
 obtain⟨sl,hL⟩:=u.any ho I.free (by simp)
 exact I.step (g':=s.gens) (d':=s.drawn) (ch:=[]) (λ_ z=>nomatch z) (λb o _ hb _ e n=>u.keep b o e n hb (by simp)) (λb o _ hb _ e n=>u.slot b o e n hb (by simp)) (λb o _ e n=>u.free b o e n (by simp)) (λb o _ e=>u.there b o e (by simp)) u.tups u.frzs u.tbls (λm' hm=>by
  obtain⟨o',es',ep',ho',r'⟩:=hm
  rw[ho]at ho';cases ho'
  exact⟨_,es',ep',hL,r'⟩) hok I.bare
theorem Inv.call {g':Array GenState} {t':Nat} {d':Drawn} {ch:List Addr} (I:Inv X pins σ H s) (u:Un (frs X.stack) ch H H' s.heap h') (hok:HOk X.prog X.w H' h') (hg:AllBare g')
  (hch:∀b∈ch,(b∈X.ex\/X.s₀.heap.objs.size<=b)/\b≠X.env.locals/\(∀x c,X.env.cells.lookup x=some c->c≠b)/\∀p∈X.pn++pins,p.1≠b) :
  Inv X pins σ H' {s with heap:=h',gens:=g',drawn:=d',toks:=t'}:=by
 obtain⟨m,⟨o,es,ep,ho,r⟩,_⟩:=id I.loc
 obtain⟨sl,hL⟩:=u.any ho I.free λz=>(hch _ z).2.1 rfl
 exact I.step (ch:=ch) hch (λb o hL hb hc e n=>u.keep b o e n (λz=>(AJ.mp (I.stkSub b z)).elim hL hb) hc) (λb o _ _ hc e n=>u.any e n hc) (λb o hc e n=>u.free b o e n hc) (λb o hc e=>u.there b o e hc) u.tups u.frzs u.tbls (λm' hm=>by
  obtain⟨o',es',ep',ho',r'⟩:=hm
  rw[ho]at ho';cases ho'
  exact⟨_,es',ep',hL,r'⟩) hok hg
theorem Inv.turned {t':Nat} {it:Addr} (I:Inv X pins σ H s) (k:∀b o,b≠it->s.heap.get? b=some o->h'.get? b=some o) (hn:H it=none) (hL:it≠X.env.locals)
  (h1:it∈X.ex\/X.s₀.heap.objs.size<=it) (h2:∀x c,X.env.cells.lookup x=some c->c≠it) (h3:∀p∈X.pn++pins,p.1≠it):Inv X pins σ H {s with heap:=h',toks:=t'}:=by
 have nit:∀b u,H b=some u->b≠it:=λb u e z=>by rw[z,hn]at e;cases e
 refine I.step (g':=s.gens) (d':=s.drawn) (ch:=[it]) (λb hb=>?_) (λb o _ _ hc e _=>k b o (λz=>hc (by simp[z])) e) (λb o _ _ hc e _=>⟨o.slots,k b o (λz=>hc (by simp[z])) e⟩) (λ_ _ _ _ n=>n)
  (λb o hc e=>⟨o,k b o (λz=>hc (by simp[z])) e⟩) (λ_ _ e=>e) (λ_ _ _ e=>e) (λb ps e=>⟨#[],by rw[e];simp⟩) (λm hm=>?_) (λb u e=>?_) I.bare
 ·have e:b=it:=by simpa using hb
  subst e
  exact⟨h1,hL,h2,h3⟩
 ·obtain⟨o,es,ep,ho,r⟩:=hm
  exact⟨o,es,ep,k _ o (Ne.symm hL) ho,r⟩
 ·refine(I.hok b u e).stay (λc v hc q=>k c v ?_ q) (λ_ q=>q) λ_ _ q=>q
  rcases hc with z | z
  ·rw[z];exact nit b u e
  ·exact nit c _ z
theorem Inv.tok (I:Inv X pins σ H s) (t:Nat):Inv X pins σ H {s with toks:=t}:=I.un (h':=s.heap) (t':=t) Un.refl I.hok
theorem Inv.kept {t':Nat} (I:Inv X pins σ H s) (k:∀b u,s.heap.get? b=some u->h'.get? b=some u):Inv X pins σ H {s with heap:=h',toks:=t'}:=I.un (Un.kept k) (I.hok.kept k)
theorem Inv.laid {a:Addr} {o:HO} {t':Nat} (I:Inv X pins σ H s) (k:∀b u,s.heap.get? b=some u->h'.get? b=some u) (hp:s.heap.objs.size<=a) (new:cf X.prog X.w (upd H a o) h' a o) :
  Inv X pins σ (upd H a o) {s with heap:=h',toks:=t'}:=I.un (Un.laid k hp (I.hok.fresh hp)) (I.hok.laid k hp new)
theorem Inv.weak {σ':List (Option V)} (I:Inv X pins σ H s) (hl:σ'.length=σ.length) (w:∀(i:Nat) v,σ'[i]? = some (some v)->σ[i]? = some (some v)):Inv X pins σ' H s :=
 ⟨I.ok,I.os,I.bare,I.base,let ⟨m,hn,hl'⟩:=I.loc;⟨m,hn,λi x v e1 e2 e3=>hl' i x v e1 (w i v e2) e3⟩,I.cell,I.free,I.freeC,I.pin,I.hok,hl.trans I.len⟩
theorem Inv.pins_of {pins':List (Addr×Obj)} (I:Inv X pins σ H s) (h:∀p∈pins',s.heap.get? p.1=some p.2/\H p.1=none/\p.1≠X.env.locals/\p.1∉X.fs/\∀v,p.2.data≠.cell v):Inv X pins' σ H s :=
 ⟨I.ok,I.os,I.bare,I.base,I.loc,I.cell,I.free,I.freeC,λp hp=>(DU.mp hp).elim (λz=>I.pin p (List.mem_append_left _ z)) (h p),I.hok,I.len⟩
theorem gi {N:List Str} (hN:N.Nodup) {i j:Nat} {x:Str} (a:N[i]? = some x) (b:N[j]? = some x):i=j:=by
 obtain⟨h1,e1⟩:=AI.mp a
 obtain⟨h2,e2⟩:=AI.mp b
 exact(List.getElem_inj hN).mp (e1.trans e2.symm)
theorem ib {M:Model} {A:Around} {E:Value->Shared->Prop} {i:Nat} {x:Str} {v:V} {u:Value} {Q:Unit->Shared->Prop} (I:Inv X pins σ H s) (hN:X.N.Nodup) (hi:X.N[i]? = some x) (hx:Loc X.env.scope x) (r:RelV v u)
  (h:∀s',Inv X pins (σ.set i (some v)) H s'->(∃a,Heap.SameBut a s.heap s'.heap/\(a=X.env.locals\/X.env.cells.lookup x=some a))->Q () s') (hf:X.fn x=true\/X.env.scope.names.lookup x=some .local:=by first | exact .inl rfl | exact .inr rfl | assumption):wpAny M A (storeName X.env x u) Q E s:=by
 obtain⟨m,hn,hl⟩:=id I.loc
 have hcls:(X.env.scope.kind==.class || (X.env.scope.kind==.module&&X.env.locals != X.env.globals))=false:=by rw[I.ok.kind];rfl
 have hiσ:i<σ.length:=by rw[I.len];exact(AI.mp hi).1
 have cne:=I.cne
 have tracked:∀{a:Addr} {h':Heap},(∃o,s.heap.get? a=some o/\H a=none)->Heap.SameBut a s.heap h'->HOk X.prog X.w H h':=λ{a h'} ha hs b ob e=>by
  obtain⟨_,_,hfree⟩:=ha
  refine(I.hok b ob e).stay (λc w' hc q=>(hs.2 c ?_).trans q) (λ_ q=>q) λ_ _ q=>q
  rintro rfl
  rcases hc with rfl | hc
  ·rw[hfree]at e;cases e
  ·rw[hfree]at hc;cases hc
 rcases hx with hk | hk
 ·refine wpAny_storeName_local hk hn (λh' hn' hs=>?_) hcls
  obtain⟨oL,_,_,hoL,_⟩:=id hn
  refine h _ ⟨I.ok,I.os,I.bare,⟨λb o e n hb hx=>?_,λb o e n hb hx=>?_,I.base.free,λb o e hx=>?_,I.base.tups,I.base.frzs,I.base.tbls⟩,⟨_,hn',λj y v' e1 e2 e3=>?_⟩,λy c e=>?_,I.free,I.freeC,λp hp=>?_,tracked ⟨oL,hoL,I.free⟩ hs,by simpa using I.len⟩ ⟨_,hs,.inl rfl⟩
  ·exact(hs.2 b (AS (AH (AE e) I.ok.above))).trans (I.base.keep b o e n hb hx)
  ·obtain⟨sl,e1⟩:=I.base.slot b o e n hb hx
   exact⟨sl,(hs.2 b (AS (AH (AE e) I.ok.above))).trans e1⟩
  ·obtain⟨o',e1⟩:=I.base.there b o e hx
   exact⟨o',(hs.2 b (AS (AH (AE e) I.ok.above))).trans e1⟩
  ·by_cases hj:j=i
   ·subst hj
    rw[hi]at e1;cases e1
    rw[AT hiσ]at e2
    cases e2
    exact⟨u,r,.inl ⟨hk,by simp⟩⟩
   ·rw[AL (Ne.symm hj)]at e2
    obtain⟨u',r',q⟩:=hl j y v' e1 e2 e3
    refine⟨u',r',?_⟩
    rcases q with⟨k,e⟩ | ⟨k,c,e,z⟩
    ·refine .inl ⟨k,?_⟩
     have:y≠x:=λe=>hj (gi hN e1 (e ▸ hi))
     simp[this,e]
    ·exact .inr ⟨k,c,e,z.sameBut hs (cne y c e)⟩
  ·obtain⟨w',z⟩:=I.cell y c e
   exact⟨w',z.sameBut hs (cne y c e)⟩
  ·obtain⟨e,n,ne,nf,d⟩:=I.pin p hp
   exact⟨(hs.2 p.1 ne).trans e,n,ne,nf,d⟩
 ·have hfn:X.fn x=true:=by
   rcases hf with z | z
   ·exact z
   ·rw[z]at hk;cases hk
  obtain⟨c,hc⟩:=I.ok.has x (.inl hk)
  obtain⟨w',z⟩:=I.cell x c hc
  refine wpAny_storeName_cell I.ok.kind hk hc z (λh' hc' hs=>?_)
  obtain⟨oc,hoc,hocd⟩:=id z
  refine h {s with heap:=h'} ⟨I.ok,I.os,I.bare,⟨λb o e n hb hx=>?_,λb o e n hb hx=>?_,I.base.free,λb o e hx=>?_,I.base.tups,I.base.frzs,I.base.tbls⟩,⟨m,hn.sameBut hs (Ne.symm (cne x c hc)),λj y v' e1 e2 e3=>?_⟩,λy c' e=>?_,I.free,I.freeC,λp hp=>?_,tracked ⟨oc,hoc,I.freeC x c hc⟩ hs,by simpa using I.len⟩ ⟨c,hs,.inr hc⟩
  ·exact(hs.2 b (AS (AH (AE e) (I.ok.cab x c hfn hc)))).trans (I.base.keep b o e n hb hx)
  ·obtain⟨sl,e1⟩:=I.base.slot b o e n hb hx
   exact⟨sl,(hs.2 b (AS (AH (AE e) (I.ok.cab x c hfn hc)))).trans e1⟩
  ·obtain⟨o',e1⟩:=I.base.there b o e hx
   exact⟨o',(hs.2 b (AS (AH (AE e) (I.ok.cab x c hfn hc)))).trans e1⟩
  ·by_cases hj:j=i
   ·subst hj
    rw[hi]at e1;cases e1
    rw[AT hiσ]at e2
    cases e2
    exact⟨u,r,.inr ⟨.inl hk,c,hc,hc'⟩⟩
   ·rw[AL (Ne.symm hj)]at e2
    obtain⟨u',r',q⟩:=hl j y v' e1 e2 e3
    refine⟨u',r',?_⟩
    rcases q with q | ⟨k,c',e,z'⟩
    ·exact .inl q
    ·refine .inr ⟨k,c',e,z'.sameBut hs ?_⟩
     rintro rfl
     exact hj (gi hN e1 (I.ok.inj _ _ _ e hc ▸ hi))
  ·by_cases hcc:c'=c
   ·subst hcc;exact⟨_,hc'⟩
   ·obtain⟨w2,z2⟩:=I.cell y c' e
    exact⟨w2,z2.sameBut hs hcc⟩
  ·obtain⟨e,n,ne,nf,d⟩:=I.pin p hp
   refine⟨(hs.2 p.1 ?_).trans e,n,ne,nf,d⟩
   intro q
   rw[q,hoc]at e
   have q':oc=p.2:=BL e
   exact d w' (by rw[<-q'];exact hocd)
theorem d0 {M:Model} {A:Around} {E:Value->Shared->Prop} {i:Nat} {x:Str} {v:V} {u:Value} {Q:Unit->Shared->Prop} (I:Inv X pins σ H s) (hN:X.N.Nodup) (hi:X.N[i]? = some x) (hx:Loc X.env.scope x) (r:RelV v u)
  (h:∀s',Inv X pins (σ.set i (some v)) H s'->Q () s') (hf:X.fn x=true\/X.env.scope.names.lookup x=some .local:=by first | exact .inl rfl | exact .inr rfl | assumption):wpAny M A (storeName X.env x u) Q E s :=
 ib I hN hi hx r (λs' I' _=>h s' I') hf
theorem Inv.call' {s':Shared} {ch:List Addr} (I:Inv X pins σ H s) (ho:s'.os=s.os) (u:Un (frs X.stack) ch H H' s.heap s'.heap) (hok:HOk X.prog X.w H' s'.heap) (hg:AllBare s'.gens)
  (hch:∀b∈ch,(b∈X.ex\/X.s₀.heap.objs.size<=b)/\b≠X.env.locals/\(∀x c,X.env.cells.lookup x=some c->c≠b)/\∀p∈X.pn++pins,p.1≠b):Inv X pins σ H' s':=by
 obtain⟨h',g',d',t',o'⟩:=s'
 have e:o'=s.os:=ho
 subst e
 exact I.call (g':=g') (t':=t') (d':=d') u hok hg hch
end
abbrev XK:=Value->Option Addr->Hp->Prop
abbrev St:=List (Option V)
abbrev VK:=V->Hp->Prop
abbrev TE:=St->Hp->VK->Prop
abbrev TT:=St->Hp->(Bool->Hp->Prop)->Prop
abbrev TA:=St->Hp->(List V->Hp->Prop)->Prop
structure Ends where
 nx:St->Hp->Prop
 rt:VK
 bk:St->Hp->Prop:=λ_ _=>False
 ct:St->Hp->Prop:=λ_ _=>False
abbrev TS:=Ends->St->Hp->Prop
def EP (X:Cx) (pins:List (Addr×Obj)) (σ:St) (Q:VK) (u:Value) (s':Shared):Prop:=∃v H',Inv X pins σ H' s'/\RelV v u/\Q v H'
def TP (X:Cx) (pins:List (Addr×Obj)) (σ:St) (Q:Bool->Hp->Prop) (b:Bool) (s':Shared):Prop:=∃H',Inv X pins σ H' s'/\Q b H'
def AP (X:Cx) (pins:List (Addr×Obj)) (σ:St) (Q:List V->Hp->Prop) (us:List Value) (s':Shared):Prop:=∃vs H',Inv X pins σ H' s'/\ax vs us/\Q vs H'
def SP (X:Cx) (pins:List (Addr×Obj)) (D:Ends) (f:Flow) (s':Shared):Prop :=
 match f with
 | .next=>∃σ' H',Inv X pins σ' H' s'/\D.nx σ' H'
 | .brk=>∃σ' H',Inv X pins σ' H' s'/\D.bk σ' H'
 | .cont=>∃σ' H',Inv X pins σ' H' s'/\D.ct σ' H'
 | .ret u=>∃v σ' H',Inv X pins σ' H' s'/\RelV v u/\D.rt v H'
def PE (X:Cx) (e:Expr) (t:TE):Prop :=
 ∀(pins:List (Addr×Obj)) (s:Shared) (σ:St) (H:Hp) (Q:VK),Inv X pins σ H s->t σ H Q->wpAny (model X.prog X.w) X.A (eval e X.env) (EP X pins σ Q) X.xe s
def PT (X:Cx) (e:Expr) (t:TT):Prop :=
 ∀(pins:List (Addr×Obj)) (s:Shared) (σ:St) (H:Hp) (Q:Bool->Hp->Prop),Inv X pins σ H s->t σ H Q->wpAny (model X.prog X.w) X.A (isTrue e X.env (eval e X.env)) (TP X pins σ Q) X.xe s
def PW (X:Cx) (e:Expr) (t:TT):Prop :=
 ∀(whole:Sem Value) (pins:List (Addr×Obj)) (s:Shared) (σ:St) (H:Hp) (Q:Bool->Hp->Prop),Inv X pins σ H s->t σ H Q->wpAny (model X.prog X.w) X.A (isTrue e X.env whole) (TP X pins σ Q) X.xe s
theorem PW.pt {X:Cx} {e:Expr} {t:TT} (h:PW X e t):PT X e t:=h _
def PA (X:Cx) (es:List Expr) (t:TA):Prop :=
 ∀(pos:Pos) (pins:List (Addr×Obj)) (s:Shared) (σ:St) (H:Hp) (Q:List V->Hp->Prop),Inv X pins σ H s->t σ H Q->wpAny (model X.prog X.w) X.A (spliced (backTo pos (starEach es X.env))) (AP X pins σ Q) X.xe s
def PS (X:Cx) (st:Stmt) (t:TS):Prop :=
 ∀(pins:List (Addr×Obj)) (s:Shared) (σ:St) (H:Hp) (D:Ends),Inv X pins σ H s->t D σ H->wpAny (model X.prog X.w) X.A (exec st X.env) (SP X pins D) X.xe s
def PSs (X:Cx) (st:List Stmt) (t:TS):Prop :=
 ∀(pins:List (Addr×Obj)) (s:Shared) (σ:St) (H:Hp) (D:Ends),Inv X pins σ H s->t D σ H->wpAny (model X.prog X.w) X.A (execs st X.env) (SP X pins D) X.xe s
theorem thn {α:Type} {t:Sem α} {Q Q':α->Shared->Prop} {M:Model} {A:Around} {E:Value->Shared->Prop} {s:Shared} (h:wpAny M A t Q E s) (hQ:∀a s,Q a s->Q' a s):wpAny M A t Q' E s:=AN h hQ λ_ _ x=>x
section
variable {X : Cx}
theorem bin {a b:Expr} {ta tb:TE} (ha:PE X a ta) (hb:PE X b tb) {pins:List (Addr×Obj)} {s:Shared} {σ:St} {H:Hp} {R:V->V->Hp->Prop} (I:Inv X pins σ H s) (h:ta σ H λx H1=>tb σ H1 λy H2=>R x y H2)
  {α:Type} {Q:α->Shared->Prop} {f:Value->Value->Sem α}
  (hf:∀v u s2 x y H2,Inv X pins σ H2 s2->RelV x v->RelV y u->R x y H2->wpAny (model X.prog X.w) X.A (f v u) Q X.xe s2) :
  wpAny (model X.prog X.w) X.A (eval a X.env) (λv s₁=>wpAny (model X.prog X.w) X.A (eval b X.env) (λu s₂=>wpAny (model X.prog X.w) X.A (f v u) Q X.xe s₂) X.xe s₁) X.xe s:=by
 refine thn (ha pins s σ H _ I h) λv s1 ⟨x,H1,I1,r1,q1⟩=>?_
 refine thn (hb pins s1 σ H1 _ I1 q1) λu s2 ⟨y,H2,I2,r2,q2⟩=>?_
 exact hf v u s2 x y H2 I2 r1 r2 q2
def Ek (i:Nat):TE:=λσ H Q=>∃v,σ[i]? = some (some v)/\Q v H
def tC (v:V):TE:=λ_ H Q=>Q v H
theorem sy {i:Nat} {x:Str} {pos:Pos} (hN:X.N[i]? = some x) (hv:Vis X.env.scope x) (hd:(x==("__debug__":Str))=false:=by decide) (hcd:(x==("__classdict__":Str))=false:=by decide):PE X (.Name x pos) (Ek i):=by
 intro pins s σ H Q I h
 obtain⟨v,e,h⟩:=h
 obtain⟨m,hn,hl⟩:=I.loc
 obtain⟨u,r,l⟩:=hl i x v hN e hv
 have fin:EP X pins σ Q u s:=⟨v,H,I,r,h⟩
 rcases l with⟨hk,hm⟩ | ⟨hk,c,hc,hcell⟩
 ·exact Ev (wpAny_loadName_local I.ok.kind hk hn hm fin) hd
 ·rcases hk with hk | hk
  ·exact Ev (wpAny_loadName_cell I.ok.kind hk hc hcell fin) hd
  ·exact Ev (wpAny_loadName_free I.ok.kind hk hc hcell fin hcd) hd
theorem yo {i j pos}:PE X (.Constant (.int i) j pos) (tC (.int i)):=λ_ _ _ H _ I h=>wpAny_Constant_int ⟨.int i,H,I.tok _,⟨_,rfl⟩,h⟩
theorem Co {b j pos}:PE X (.Constant (.bool b) j pos) (tC (.bl b)):=λ_ _ _ H _ I h=>Constant_bool ⟨.bl b,H,I,rfl,h⟩
theorem yq {j pos}:PE X (.Constant .none j pos) (tC .non):=λ_ _ _ H _ I h=>Constant_none ⟨.non,H,I,rfl,h⟩
theorem yr {x j pos}:PE X (.Constant (.str x) j pos) (tC (.str x)):=λ_ _ _ H _ I h=>Calls.Constant_str ⟨.str x,H,I.tok _,⟨_,rfl⟩,h⟩
def Gl (X:Cx) (x:Str):Prop:=X.env.kindOf x=some .globalImplicit
theorem bw {E:Value->Shared->Prop} {pins:List (Addr×Obj)} {s:Shared} {σ:St} {H:Hp} {x:Str} {u:Value} {pos:Pos} {Q:Value->Shared->Prop} (I:Inv X pins σ H s) (hg:Gl X x) (hm:X.mg x=some u) (h:Q u s)
  (hd:(x==("__debug__":Str))=false:=by decide):wpAny (model X.prog X.w) X.A (eval (.Name x pos) X.env) Q E s :=
 EA I.ok.kind hg (Calls.loadGlobal_global (by rw[I.ok.glob];exact I.mod.glob.keeps I.bk) hm h) hd
theorem l7 {E:Value->Shared->Prop} {pins:List (Addr×Obj)} {s:Shared} {σ:St} {H:Hp} {x:Str} {u:Value} {pos:Pos} {Q:Value->Shared->Prop} (I:Inv X pins σ H s) (hg:Gl X x) (hm:X.mg x=none) (hv:bootBuiltins x=some u) (h:Q u s)
  (hn:x≠"__name__":=by decide) (hd:(x==("__debug__":Str))=false:=by decide):wpAny (model X.prog X.w) X.A (eval (.Name x pos) X.env) Q E s:=by
 obtain⟨mb,h1,h2⟩:=I.mod.blt
 exact EA I.ok.kind hg (Calls.loadGlobal_builtin (by rw[I.ok.glob];exact I.mod.glob.keeps I.bk) hm (by rw[I.ok.blt];exact h1.keeps I.bk) ((h2 x hn).trans hv) h) hd
theorem vu {x:Str} {v:V} {u:Value} {pos:Pos} (hg:Gl X x) (hm:X.mg x=some u) (r:RelV v u) (hd:(x==("__debug__":Str))=false:=by decide):PE X (.Name x pos) (tC v) :=
 λ_ _ _ H _ I h=>bw I hg hm ⟨v,H,I,r,h⟩ hd
theorem l8 {x:Str} {v:V} {u:Value} {pos:Pos} (hg:Gl X x) (hm:X.mg x=none) (hv:bootBuiltins x=some u) (r:RelV v u) (hn:x≠"__name__":=by decide) (hd:(x==("__debug__":Str))=false:=by decide):PE X (.Name x pos) (tC v) :=
 λ_ _ _ H _ I h=>l7 I hg hm hv ⟨v,H,I,r,h⟩ hn hd
variable {a b : Expr} {ta tb : TE} {pos : Pos}
variable {tA tB' : TT} {rest : List Expr}
def tOr (t u:TT):TT:=λσ H Q=>t σ H λc H1=>if c=true then Q true H1 else u σ H1 Q
def Fh (t:TT):TT:=λσ H Q=>t σ H λc H1=>Q (!c) H1
theorem yt (ha:PT X a tA):PW X (.BoolOp .Or [a] pos) tA:=by
 intro wh pins s σ H Q I h
 refine isTrue_or (thn (ha pins s σ H Q I h) λc s1 e=>?_)
 cases c with
 | false=>exact isTrue_or_nil e
 | true=>exact e
theorem Cq (ha:PT X a tA) (hb:PW X (.BoolOp .Or (b::rest) pos) tB'):PW X (.BoolOp .Or (a::b::rest) pos) (tOr tA tB'):=by
 intro wh pins s σ H Q I h
 refine isTrue_or (thn (ha pins s σ H _ I h) λc s1 ⟨H1,I1,q1⟩=>?_)
 cases c with
 | true=>exact⟨H1,I1,q1⟩
 | false=>exact hb wh pins s1 σ H1 Q I1 q1
theorem yu (ha:PT X a tA):PT X (.UnaryOp .Not a pos) (Fh tA):=by
 intro pins s σ H Q I h
 exact isTrue_not (ha pins s σ H (λc H1=>Q (!c) H1) I h)
def Cr (ta tb:TE):TE:=λσ H Q=>ta σ H λx H1=>∃c,x=.bl c/\if c=true then tb σ H1 Q else Q (.bl false) H1
def Ct (ta:TE):TE:=λσ H Q=>ta σ H λx H1=>∃c,x=.bl c/\Q (.bl (!c)) H1
theorem yv {op} {t:TE} (h:PE X a t):PE X (.BoolOp op [a] pos) t:=λpins s σ H Q I hw=>BoolOp_one (h pins s σ H Q I hw)
theorem yw (ha:PE X a ta) (hb:PE X (.BoolOp .And (b::rest) pos) tb):PE X (.BoolOp .And (a::b::rest) pos) (Cr ta tb):=by
 intro pins s σ H Q I h
 refine BoolOp_and (thn (ha pins s σ H _ I h) λv s1 ⟨x,H1,I1,r1,q1⟩=>?_)
 obtain⟨c,rfl,q1⟩:=q1
 cases r1
 refine CU ?_
 cases c with
 | true=>exact hb pins s1 σ H1 Q I1 q1
 | false=>exact⟨.bl false,H1,I1,rfl,q1⟩
theorem yx (ha:PE X a ta):PE X (.UnaryOp .Not a pos) (Ct ta):=by
 intro pins s σ H Q I h
 refine UnaryOp_ (thn (ha pins s σ H _ I h) λv s1 ⟨x,H1,I1,r1,q1⟩=>?_)
 obtain⟨c,rfl,q1⟩:=q1
 cases r1
 exact not_of (CU ⟨.bl (!c),H1,I1,rfl,q1⟩)
end
def SqL (K:PySem.W.Frag) (H:Hp) (a:Addr) (xs:List V):Prop :=
 Rd H a (.lst xs) \/
  ∃(o:Obj) (its:Array Value) (n:Nat),K.lookup a=some o/\o.cls=.type "list"/\o.dict=none/\o.data=.seq its n/\its.size<=sizeLine/\ax xs its.toList
def SqT (K:PySem.W.Frag) (H:Hp) (a:Addr) (xs:List V):Prop :=
 Rd H a (.tup xs) \/
  ∃(o:Obj) (its:Array Value) (n:Nat),K.lookup a=some o/\o.cls=.type "tuple"/\o.data=.seq its n/\its.size<=sizeLine/\ax xs its.toList/\o.dict=none
def Fi:Value->Option V
 | .none=>some .non
 | .bool b=>some (.bl b)
 | .int i _=>some (.int i)
 | .str x _=>some (.str x)
 | .bytes b _=>some (.byt b)
 | .float b _=>some (.flt b)
 | .ref a=>some (.ref a)
 | .type n=>some (.ty n)
 | _=>none
theorem RelV.abs {x:V} {u:Value} (r:RelV x u):Fi u=some x:=by
 cases x with
 | non=>cases r;rfl
 | bl _=>cases r;rfl
 | int _=>obtain⟨t,rfl⟩:=r;rfl
 | str _=>obtain⟨t,rfl⟩:=r;rfl
 | byt _=>obtain⟨t,rfl⟩:=r;rfl
 | flt _=>obtain⟨t,rfl⟩:=r;rfl
 | ref _=>cases r;rfl
 | ty _=>cases r;rfl
theorem RelV.inj {x y:V} {u:Value} (r:RelV x u) (q:RelV y u):x=y:=BL (r.abs.symm.trans q.abs)
theorem ax.inj:∀{xs ys:List V} {us:List Value},ax xs us->ax ys us->xs=ys
 | _,_,_,.nil,.nil=>rfl
 | _,_,_,.cons r t,.cons r' t'=>by rw[r.inj r',ax.inj t t']
section
variable {X : Cx} {pins : List (Addr × Obj)} {σ : St} {H : Hp} {s : Shared} {a : Addr} {xs ys : List V}
theorem SqL.of {K:PySem.W.Frag} (h:H a=some (.lst xs)):SqL K H a xs:=.inl (.inl h)
theorem SqT.of {K:PySem.W.Frag} (h:H a=some (.tup xs)):SqT K H a xs:=.inl (.inl h)
theorem Inv.list (I:Inv X pins σ H s) (h:SqL X.K H a xs):∃its:List Value,ax xs its/\PlainL s.heap a its.toArray/\xs.length<=sizeLine:=by
 rcases h with h | ⟨o,its,n,hk,hc,hd,hs,hz,r⟩
 ·obtain⟨z,its,n,r,e⟩:=h.ok I.hok
  exact⟨its,r,⟨_,n,e,rfl,rfl,rfl⟩,z⟩
 ·refine⟨its.toList,r,⟨o,n,I.kIn a o hk,hc,hd,by simpa using hs⟩,?_⟩
  have e:=r.length
  simp![BV]at e
  lia
theorem Inv.tuple (I:Inv X pins σ H s) (h:SqT X.K H a xs):∃its:List Value,ax xs its/\IsTup s.heap a its.toArray/\xs.length<=sizeLine:=by
 rcases h with h | ⟨o,its,n,hk,hc,hs,hz,r,_⟩
 ·obtain⟨z,its,r,p⟩:=h.ok I.hok
  exact⟨its,r,p.tup,z⟩
 ·refine⟨its.toList,r,⟨o,I.kIn a o hk,hc,n,by simpa using hs⟩,?_⟩
  have e:=r.length
  simp![BV]at e
  lia
theorem Inv.list_inj (I:Inv X pins σ H s) (h:SqL X.K H a xs) (h':SqL X.K H a ys):xs=ys:=by
 obtain⟨its,r,⟨o,n,e,_,_,d⟩,_⟩:=I.list h
 obtain⟨its',r',⟨o',n',e',_,_,d'⟩,_⟩:=I.list h'
 rw[e]at e';cases e'
 rw[d]at d'
 injection d' with d1 _
 have:its=its':=by simpa using congrArg Array.toList d1
 subst this
 exact r.inj r'
theorem Inv.tuple_inj (I:Inv X pins σ H s) (h:SqT X.K H a xs) (h':SqT X.K H a ys):xs=ys:=by
 obtain⟨its,r,⟨o,e,_,n,d⟩,_⟩:=I.tuple h
 obtain⟨its',r',⟨o',e',_,n',d'⟩,_⟩:=I.tuple h'
 rw[e]at e';cases e'
 rw[d]at d'
 injection d' with d1 _
 have:its=its':=by simpa using congrArg Array.toList d1
 subst this
 exact r.inj r'
end
abbrev Cx.wish (X:Cx) (E:Value->Shared->Prop):Cx:={X with xe:=E}
abbrev Cx.nox (X:Cx):Cx:=X.wish λ_ _=>False
theorem Cx.Ok.wish {X:Cx} (ok:X.Ok) (E:Value->Shared->Prop):(X.wish E).Ok :=
 ⟨ok.mod,ok.kind,ok.glob,ok.blt,ok.above,ok.inj,ok.has,ok.cab,ok.hd,ok.frames,ok.stk,ok.exf,ok.bs,ok.bsz,ok.noex,ok.exfs,ok.funs,ok.frf⟩
theorem Cx.Ok.unwish {X:Cx} {E:Value->Shared->Prop} (ok:(X.wish E).Ok):X.Ok :=
 ⟨ok.mod,ok.kind,ok.glob,ok.blt,ok.above,ok.inj,ok.has,ok.cab,ok.hd,ok.frames,ok.stk,ok.exf,ok.bs,ok.bsz,ok.noex,ok.exfs,ok.funs,ok.frf⟩
section
variable {X : Cx} {pins : List (Addr × Obj)} {σ : St} {H : Hp} {s : Shared} {E : Value -> Shared -> Prop}
theorem Inv.wish (I:Inv X pins σ H s) (E:Value->Shared->Prop):Inv (X.wish E) pins σ H s:=⟨I.ok.wish E,I.os,I.bare,I.base,I.loc,I.cell,I.free,I.freeC,I.pin,I.hok,I.len⟩
theorem Inv.unwish (I:Inv (X.wish E) pins σ H s):Inv X pins σ H s:=⟨I.ok.unwish,I.os,I.bare,I.base,I.loc,I.cell,I.free,I.freeC,I.pin,I.hok,I.len⟩
theorem SP.unwish {D:Ends} {f:Flow} {s':Shared} (h:SP (X.wish E) pins D f s'):SP X pins D f s':=by
 cases f with
 | next=>obtain⟨σ',H',I,q⟩:=h;exact⟨σ',H',I.unwish,q⟩
 | brk=>obtain⟨σ',H',I,q⟩:=h;exact⟨σ',H',I.unwish,q⟩
 | cont=>obtain⟨σ',H',I,q⟩:=h;exact⟨σ',H',I.unwish,q⟩
 | ret u=>obtain⟨v,σ',H',I,r,q⟩:=h;exact⟨v,σ',H',I.unwish,r,q⟩
theorem PT.nox {e:Expr} {t:TT} (h:PT X.nox e t):PT X e t:=λpins s σ H Q I hw =>
 AN (h pins s σ H Q (I.wish _) hw) (λ_ _ ⟨H',I',q⟩=>⟨H',I'.unwish,q⟩) λ_ _ z=>False.elim z
theorem PSs.nox {st:List Stmt} {t:TS} (h:PSs X.nox st t):PSs X st t:=λpins s σ H D I hw =>
 AN (h pins s σ H D (I.wish _) hw) (λ_ _ q=>q.unwish) λ_ _ z=>False.elim z
end
section
variable {X : Cx} {st : Stmt} {rest : List Stmt} {t u : TS} {e : Expr} {te : TE} {pos : Pos}
def tNext:TS:=λD σ H=>D.nx σ H
def Fj (t u:TS):TS:=λD σ H=>t {D with nx:=u D} σ H
theorem l9:PSs X [] tNext:=λ_ _ σ H _ I h=>CN ⟨σ,H,I,h⟩
theorem jz (h1:PS X st t) (h2:PSs X rest u):PSs X (st::rest) (Fj t u):=by
 intro pins s σ H D I h
 refine Da (thn (h1 pins s σ H {D with nx:=u D} I h) λf s1 q=>?_)
 cases f with
 | next =>
  obtain⟨σ',H',I',q⟩:=q
  exact h2 pins s1 σ' H' D I' q
 | ret v=>exact q
 | brk=>exact q
 | cont=>exact q
theorem Inv.quiet {pins:List (Addr×Obj)} {σ:St} {H:Hp} {s:Shared} (I:Inv X pins σ H s):interactive X.env=false:=by simp[interactive,I.ok.kind]
def Fk (te:TE):TS:=λD σ H=>te σ H D.rt
theorem yy (he:PE X e te):PS X (.Return (some e) pos) (Fk te):=by
 intro pins s σ H D I h
 exact wpAny_Return_some (thn (he pins s σ H _ I h) λv s1 ⟨x,H1,I1,r1,q1⟩=>⟨x,σ,H1,I1,r1,q1⟩)
def Fm (c:TT) (t u:TS):TS:=λD σ H=>c σ H λb H1=>if b=true then t D σ H1 else u D σ H1
theorem yz {c:Expr} {a b:List Stmt} {tc:TT} (hc:PT X c tc) (ha:PSs X a t) (hb:PSs X b u):PS X (.If c a b pos) (Fm tc t u):=by
 intro pins s σ H D I h
 refine wpAny_If (thn (hc pins s σ H _ I h) λd s1 ⟨H1,I1,q1⟩=>?_)
 cases d with
 | true=>exact ha pins s1 σ H1 D I1 q1
 | false=>exact hb pins s1 σ H1 D I1 q1
end
abbrev TG:=V->St->Hp->(St->Hp->Prop)->Prop
def PG (X:Cx) (target:Expr) (t:TG):Prop :=
 ∀(pins:List (Addr×Obj)) (s:Shared) (σ:St) (H:Hp) (v:V) (u:Value) (Q:St->Hp->Prop),Inv X pins σ H s->RelV v u->t v σ H Q ->
  wpAny (model X.prog X.w) X.A (assign target X.env u) (λ_ s'=>∃σ' H',Inv X pins σ' H' s'/\Q σ' H') X.xe s
section
variable {X : Cx} {pos : Pos}
def y0 (i:Nat):TG:=λv σ H Q=>Q (σ.set i (some v)) H
theorem vv {i:Nat} {x:Str} (hN:X.N.Nodup) (hi:X.N[i]? = some x) (hx:Loc X.env.scope x) (hf:X.fn x=true\/X.env.scope.names.lookup x=some .local:=by first | exact .inl rfl | exact .inr rfl | assumption):PG X (.Name x pos) (y0 i):=by
 intro pins s σ H v u Q I r h
 exact wpAny_assign_Name (d0 I hN hi hx r (λs' I'=>⟨_,H,I',h⟩) hf)
def Fo (te:TE) (g:TG):TS:=λD σ H=>te σ H λx H1=>g x σ H1 D.nx
theorem y3 {i:Nat} {x:Str} {e:Expr} {te:TE} {pos':Pos} (hN:X.N.Nodup) (hi:X.N[i]? = some x) (hx:Loc X.env.scope x) (he:PE X e te) (hs:swapsWith e (some (.Name x pos')) pos.line X.env=pure false:=by rfl) (hf:X.fn x=true\/X.env.scope.names.lookup x=some .local:=by first | exact .inl rfl | exact .inr rfl | assumption) :
  PS X (.Assign [.Name x pos'] e pos) (Fo te (y0 i)):=by
 intro pins s σ H D I h
 refine wpAny_Assign_Name (thn (he pins s σ H _ I h) λv s1 ⟨y,H1,I1,r1,q1⟩=>?_) hs
 exact d0 I1 hN hi hx r1 (λs2 I2=>⟨_,H1,I2,q1⟩) hf
end
structure It where
 go:Nat->Hp->Prop
 yld:Nat->Hp->V->Hp->Prop
 stop:Nat->Hp->Prop
def qf (X:Cx) (pins:List (Addr×Obj)) (H:Hp) (b:Addr):Prop :=
 H b=none/\b≠X.env.locals/\b∉X.fs/\(b∈X.ex\/X.s₀.heap.objs.size<=b)/\(∀x c,X.env.cells.lookup x=some c->c≠b)/\∀p∈X.pn++pins,p.1≠b
theorem Inv.fpOk {X:Cx} {pins:List (Addr×Obj)} {σ:St} {H H':Hp} {s:Shared} {b:Addr} (I:Inv X pins σ H s) (hb:s.heap.objs.size<=b) (hn:H' b=none):qf X pins H' b:=by
 refine⟨hn,Nat.ne_of_gt (AH I.lt hb),I.nofs hb,.inr (BS I.sz hb),λx c e z=>?_,λp hp z=>?_⟩
 ·obtain⟨v,q⟩:=I.cell x c e
  exact absurd (AH q.lt (by rw[z];exact hb)) (BN _)
 ·exact absurd (AH (AE (I.pin p hp).1) (by rw[z];exact hb)) (BN _)
structure Turn (P:Program) (w:World) (K:PySem.W.Frag) (tg:Expr) (J:It) (fp:List Addr) (it:Addr) (tn:Nat->Heap->Prop):Prop where
 mem:it∈fp
 obj:∀i h,tn i h->∀b∈fp,∃o,h.get? b=some o/\∀v,o.data≠.cell v
 keep:∀i h h',tn i h->(∀b∈fp,∀o,h.get? b=some o->h'.get? b=some o)->tn i h'
 item:∀(X:Cx),X.prog=P->X.w=w->X.K=K->X.calm=true->∀(i:Nat) (pins:List (Addr×Obj)) (s:Shared) (σ:St) (H:Hp) (E:Value->Shared->Prop),Inv X pins σ H s->(∀b∈fp,qf X pins H b)->tn i s.heap->J.go i H ->
  wpAny (model P w) X.A (pyNext (.ref it)) (λr s1=>∃u,r=some u /\
   wpAny (model P w) X.A (letOwnedTupleGo tg (.ref it) u) (λ_ s2=>∃x H',Inv X pins σ H' s2/\RelV x u/\J.yld i H x H'/\tn (i+1) s2.heap/\∀b∈fp,H' b=none) E s1) E s
 done:∀(X:Cx),X.prog=P->X.w=w->X.K=K->X.calm=true->∀(i:Nat) (pins:List (Addr×Obj)) (s:Shared) (σ:St) (H:Hp) (E:Value->Shared->Prop),Inv X pins σ H s->(∀b∈fp,qf X pins H b)->tn i s.heap->J.stop i H ->
  wpAny (model P w) X.A (pyNext (.ref it)) (λr s1=>r=none/\Inv X pins σ H s1) E s
 self:∀(A:Around) (i:Nat) (s:Shared) (Q:Value->Shared->Prop) (E:Value->Shared->Prop),tn i s.heap->Q (.ref it) s->wpAny (model P w) A (pyIter (.ref it)) Q E s
abbrev TI:=St->Hp->(It->Hp->Prop)->Prop
def PIE (X:Cx) (pins:List (Addr×Obj)) (σ:St) (tg:Expr) (R:It->Hp->Prop) (itv:Value) (s2:Shared):Prop :=
 ∃(it:Addr) (fp:List Addr) (tn:Nat->Heap->Prop) (J:It) (H':Hp),itv=.ref it/\Inv X pins σ H' s2/\Turn X.prog X.w X.K tg J fp it tn/\tn 0 s2.heap/\(∀b∈fp,qf X pins H' b)/\R J H'
def PI (X:Cx) (tg iter:Expr) (wi:TI):Prop :=
 ∀(pins:List (Addr×Obj)) (s:Shared) (σ:St) (H:Hp) (R:It->Hp->Prop),Inv X pins σ H s->wi σ H R ->
  wpAny (model X.prog X.w) X.A (eval iter X.env) (λv s1=>wpAny (model X.prog X.w) X.A (pyIter v) (PIE X pins σ tg R) X.xe s1) X.xe s
theorem vw {M:Model} {A:Around} {E:Value->Shared->Prop} {s:Shared} {tg:Expr} {it:Addr} {u:Value} {o:Obj} {n:String} {vs:Array Value} {Q:Unit->Shared->Prop} (ho:s.heap.get? it=some o) (hc:o.cls=.type n) (hd:o.data=.fields vs)
  (hn:["enumerate","zip","dict_itemiterator","dict_reverseitemiterator","odict_iterator","itertools.zip_longest","itertools.pairwise"].contains n=false) (hQ:Q () s):wpAny M A (letOwnedTupleGo tg (.ref it) u) Q E s:=by
 unfold letOwnedTupleGo
 cases tg<;>first
  | exact AO hQ
  | (cases u<;>first
    | exact AO hQ
    | (
     refine AC (wpAny_load ho ?_)
     rw[hc,hd]
     show wpAny M A (if(["enumerate","zip","dict_itemiterator","dict_reverseitemiterator","odict_iterator","itertools.zip_longest","itertools.pairwise"].contains n&&vs[0]?==some (rawInt _))=true then _ else _) Q E s
     rw[if_neg (by intro h;rw[hn,Bool.false_and]at h;cases h)]
     exact AO hQ))
def Itl (K:PySem.W.Frag) (a:Addr):It :=
 ⟨λi H=>∃xs x,SqL K H a xs/\xs[i]? = some x,λi H x H'=>H'=H/\∀xs,SqL K H a xs->xs[i]? = some x,λi H=>∃xs,SqL K H a xs/\xs.length<=i⟩
def Itt (K:PySem.W.Frag) (a:Addr):It :=
 ⟨λi H=>∃xs x,SqT K H a xs/\xs[i]? = some x,λi H x H'=>H'=H/\∀xs,SqT K H a xs->xs[i]? = some x,λi H=>∃xs,SqT K H a xs/\xs.length<=i⟩
def Itr (lo:Int) (n:Nat):It:=⟨λi _=>i<n,λi H x H'=>H'=H/\x=.int (lo+i),λi _=>n<=i⟩
theorem ma {P:Program} {w:World} {K:PySem.W.Frag} {tg:Expr} (a it:Addr):Turn P w K tg (Itl K a) [it] it (λi h=>h.IsListIter it a i) where
 mem:=by simp
 obj:=λi h st b hb=>by
  have e:b=it:=by simpa using hb
  subst e
  obtain⟨o,e,c,d⟩:=st
  exact⟨o,e,λv z=>by rw[d]at z;cases z⟩
 keep:=λi h h' st k=>st.at λo e=>k it (by simp) o e
 item:=by
  intro X hP hw hK hc i pins s σ H E I hf st hg
  subst hP hw hK
  obtain⟨xs,x,hq,hx⟩:=hg
  obtain⟨its,rv,p,hz⟩:=I.list hq
  obtain⟨u,hu,ru⟩:=rv.get hx
  obtain⟨f0,f1,f2,f3,f4,f5⟩:=hf it (by simp)
  refine wpAny_pyNext_list_item st p.isList (x:=u) (by simpa using hu) λh' st' sb=>?_
  have I1:Inv X pins σ H {s with heap:=h'}:=I.turned (t':=s.toks) (λb o hb e=>(sb.2 b hb).trans e) f0 f1 f3 f4 f5
  obtain⟨o,e,c,d⟩:=id st'
  exact⟨u,rfl,vw (s:={s with heap:=h'}) e c d (by decide) ⟨x,H,I1,ru,⟨rfl,λys hy=>by rw[I.list_inj hy hq];exact hx⟩,st',λb hb=>(hf b hb).1⟩⟩
 done:=by
  intro X hP hw hK hc i pins s σ H E I hf st hg
  subst hP hw hK
  obtain⟨xs,hq,hx⟩:=hg
  obtain⟨its,rv,p,hz⟩:=I.list hq
  obtain⟨f0,f1,f2,f3,f4,f5⟩:=hf it (by simp)
  have hl:=rv.length
  exact wpAny_pyNext_list_end (I.ok.hd hc) st p.isList (by simp;lia) λh' eb=>⟨rfl,I.turned (t':=s.toks) (λb o hb e=>eb b o hb e) f0 f1 f3 f4 f5⟩
 self:=λ_ _ _ _ _ st h=>wpAny_pyIter_listiter st h
theorem kq {P:Program} {w:World} {K:PySem.W.Frag} {tg:Expr} (a it:Addr):Turn P w K tg (Itt K a) [it] it (λi h=>h.IsTupleIter it a i) where
 mem:=by simp
 obj:=λi h st b hb=>by
  have e:b=it:=by simpa using hb
  subst e
  obtain⟨o,e,c,d⟩:=st
  exact⟨o,e,λv z=>by rw[d]at z;cases z⟩
 keep:=λi h h' st k=>st.at λo e=>k it (by simp) o e
 item:=by
  intro X hP hw hK hc i pins s σ H E I hf st hg
  subst hP hw hK
  obtain⟨xs,x,hq,hx⟩:=hg
  obtain⟨its,rv,p,hz⟩:=I.tuple hq
  obtain⟨u,hu,ru⟩:=rv.get hx
  obtain⟨f0,f1,f2,f3,f4,f5⟩:=hf it (by simp)
  refine wpAny_pyNext_tuple_item st (show s.heap.IsTuple a its.toArray from p) (x:=u) (by simpa using hu) λh' st' sb=>?_
  have I1:Inv X pins σ H {s with heap:=h'}:=I.turned (t':=s.toks) (λb o hb e=>(sb.2 b hb).trans e) f0 f1 f3 f4 f5
  obtain⟨o,e,c,d⟩:=id st'
  exact⟨u,rfl,vw (s:={s with heap:=h'}) e c d (by decide) ⟨x,H,I1,ru,⟨rfl,λys hy=>by rw[I.tuple_inj hy hq];exact hx⟩,st',λb hb=>(hf b hb).1⟩⟩
 done:=by
  intro X hP hw hK hc i pins s σ H E I hf st hg
  subst hP hw hK
  obtain⟨xs,hq,hx⟩:=hg
  obtain⟨its,rv,p,hz⟩:=I.tuple hq
  obtain⟨f0,f1,f2,f3,f4,f5⟩:=hf it (by simp)
  have hl:=rv.length
  exact wpAny_pyNext_tuple_end (I.ok.hd hc) st (show s.heap.IsTuple a its.toArray from p) (by simp;lia) λh' eb=>⟨rfl,I.turned (t':=s.toks) (λb o hb e=>eb b o hb e) f0 f1 f3 f4 f5⟩
 self:=λ_ _ _ _ _ st h=>wpAny_pyIter_tupleiter st h
theorem ku {P:Program} {w:World} {K:PySem.W.Frag} {tg:Expr} (it:Addr) (lo:Int) (n:Nat):Turn P w K tg (Itr lo n) [it] it (λi h=>IsRangeIter h it (lo+(i:Nat)*1) ((n:Int)-(i:Nat)) 1) where
 mem:=by simp
 obj:=λi h st b hb=>by
  have e:b=it:=by simpa using hb
  subst e
  exact⟨_,st,λv z=>by
   have z':Data.fields _=Data.cell v:=z
   cases z'⟩
 keep:=λi h h' st k=>k it (by simp) _ st
 item:=by
  intro X hP hw hK hc i pins s σ H E I hf st hg
  subst hP hw hK
  obtain⟨f0,f1,f2,f3,f4,f5⟩:=hf it (by simp)
  have W:=Walks.range (prog:=X.prog) (w:=X.w) (I.ok.hd hc) it lo 1 n
  refine W.item i s _ _ hg st λv h' tk hv st' kk=>?_
  obtain⟨t,rfl⟩:=hv
  have I1:Inv X pins σ H {s with heap:=h',toks:=tk}:=I.turned (λb o hb e=>kk b o (by simpa using hb) e) f0 f1 f3 f4 f5
  refine⟨_,rfl,vw (s:={s with heap:=h',toks:=tk}) (n:="range_iterator") st' rfl rfl (by decide) ⟨.int (lo+i),H,I1,⟨t,?_⟩,⟨rfl,rfl⟩,st',λb hb=>(hf b hb).1⟩⟩
  rw[Int.mul_one]
 done:=by
  intro X hP hw hK hc i pins s σ H E I hf st hg
  subst hP hw hK
  obtain⟨f0,f1,f2,f3,f4,f5⟩:=hf it (by simp)
  exact wpAny_pyNext_range_end (I.ok.hd hc) st (by have:n<=i:=hg;lia) λh' eb=>⟨rfl,I.turned (t':=s.toks) (λb o hb e=>eb b o hb e) f0 f1 f3 f4 f5⟩
 self:=λ_ _ _ _ _ st h=>wpAny_pyIter_rangeiter st h
section
variable {X : Cx} {tg : Expr}
theorem qj {pins:List (Addr×Obj)} {σ:St} {H:Hp} {s:Shared} {R:It->Hp->Prop} {E:Value->Shared->Prop} {lo hi:Int} {t u v:Tok} {tk:Nat} (I:Inv X pins σ H s) (h1:-(2 ^ 62)<=lo) (h2:lo<2 ^ 62) (h3:-(2 ^ 62)<=hi) (h4:hi<2 ^ 62)
  (q:R (Itr lo (hi-lo).toNat) H):wpAny (model X.prog X.w) X.A (pyIter (.ref s.heap.objs.size)) (PIE X pins σ tg R) E {s with heap:=s.heap.push {cls:=.type "range",data:=.fields #[.int lo t,.int hi u,.int 1 v]},toks:=tk}:=by
 refine wpAny_pyIter_range (IsRange.new ..) (small_one h1 h2 h3 h4) ?_
 have I1:Inv X pins σ H {s with heap:=s.heap.push {cls:=.type "range",data:=.fields #[.int lo t,.int hi u,.int 1 v]},toks:=tk}:=I.kept λb o e=>AB _ e
 refine⟨(s.heap.push {cls:=.type "range",data:=.fields #[.int lo t,.int hi u,.int 1 v]}).objs.size,[(s.heap.push {cls:=.type "range",data:=.fields #[.int lo t,.int hi u,.int 1 v]}).objs.size],_,_,H,rfl,
  I1.kept (t':=tk) λb o e=>AB _ e,ku _ lo (hi-lo).toNat,?_,λb hb=>?_,q⟩
 ·have e1:lo+((0:Nat):Int)*1=lo:=by simp
  have e2:(((hi-lo).toNat:Nat):Int)-((0:Nat):Int)=Builtin.Range.rangeSize lo hi 1:=by rw[rangeSize_one];split<;>lia
  show IsRangeIter _ _ (lo+((0:Nat):Int)*1) ((((hi-lo).toNat:Nat):Int)-((0:Nat):Int)) 1
  rw[e1,e2]
  exact BD _ rfl
 ·have e:b=(s.heap.push {cls:=.type "range",data:=.fields #[.int lo t,.int hi u,.int 1 v]}).objs.size:=by simpa using hb
  subst e
  exact I1.fpOk (AQ _) (I1.hok.fresh (AQ _))
def Cu (ta:TA):TI:=λσ H R=>ta σ H λvs H1=>∃j:Int,vs=[.int j] /\ -(2 ^ 62)<=j/\j<2 ^ 62/\R (Itr 0 j.toNat) H1
theorem md {a:Expr} {ta:TA} {p pos:Pos} (hg:Gl X "range") (hm:X.mg "range"=none) (ha:PA X [a] ta) (hs:starEach [a] X.env=[(false,eval a X.env)]:=by rfl):PI X tg (.Call (.Name "range" p) [a] [] pos) (Cu ta):=by
 intro pins s σ H R I h
 refine Call_ (l7 I hg hm boot_range (PyProof.Rows.callWith_type1 (thn (ha pos pins s σ H _ I h) λus s1 ⟨vs,H1,I1,r1,q1⟩=>?_) hs rfl))
 obtain⟨j,e,q1,q2,q⟩:=q1
 subst e
 cases r1 with
 | cons r rr =>
  cases rr
  obtain⟨t,rfl⟩:=r
  exact call_range_1 (qj I1 (by lia) (by lia) q1 q2 (by simpa using q))
def Fp (wi:TI) (g:TG) (tb:TS):TS:=λD σ H=>wi σ H λJ H1=>∃W:Nat->Nat->St->Hp->Prop,(∃m,W 0 m σ H1)/\∀i m σ H,W i m σ H ->
 (J.stop i H/\D.nx σ H)\/(J.go i H/\∃N:St->Hp->Prop,(∀σ' H',N σ' H'->∃m',m'<m/\W (i+1) m' σ' H')/\∀x H',J.yld i H x H'->g x σ H' λσ2 H2=>tb {D with nx:=N,ct:=N,bk:=D.nx} σ2 H2)
def ic (fp:List Addr) (h:Heap):List (Addr×Obj):=fp.filterMap λb=>(h.get? b).map λo=>(b,o)
theorem cv {fp:List Addr} {h:Heap} {b:Addr} {o:Obj} (hb:b∈fp) (e:h.get? b=some o):(b,o)∈ic fp h:=List.mem_filterMap.mpr ⟨b,hb,by rw[e];rfl⟩
theorem me {fp:List Addr} {h:Heap} {p:Addr×Obj} (hp:p∈ic fp h):p.1∈fp/\h.get? p.1=some p.2:=by
 obtain⟨b,hb,e⟩:=List.mem_filterMap.mp hp
 cases q:h.get? b with
 | none=>rw[q]at e;cases e
 | some o =>
  rw[q]at e
  have e':(b,o)=p:=BL e
  subst e'
  exact⟨hb,q⟩
theorem Inv.pinned {pins:List (Addr×Obj)} {σ:St} {H:Hp} {s:Shared} {fp:List Addr} (I:Inv X pins σ H s) (hf:∀b∈fp,qf X pins H b) (ho:∀b∈fp,∃o,s.heap.get? b=some o/\∀v,o.data≠.cell v):Inv X (pins++ic fp s.heap) σ H s :=
 I.pins_of λp hp=>(DU.mp hp).elim (λz=>I.pin p (AR _ z)) λz=>by
  obtain⟨hb,e⟩:=me z
  obtain⟨f0,f1,f2,_⟩:=hf p.1 hb
  obtain⟨o,e',d⟩:=ho p.1 hb
  rw[e]at e';cases e'
  exact⟨e,f0,f1,f2,d⟩
theorem Inv.unpinned {pins pl:List (Addr×Obj)} {σ:St} {H:Hp} {s:Shared} (I:Inv X (pins++pl) σ H s):Inv X pins σ H s:=I.pins_of λp hp=>I.pin p (AR _ (List.mem_append_left _ hp))
theorem y4 {iter:Expr} {body:List Stmt} {wi:TI} {g:TG} {tb:TS} {pos:Pos} (hp:PassesOwn (model X.prog X.w) X.A X.env X.xe) (hc:X.calm=true) (hi:PI X tg iter wi) (hg:PG X tg g) (hb:PSs X body tb)
  (hs:∀x,foldedSetIterable iter X.env x=pure x:=by intro _;rfl):PS X (.For tg iter body [] pos) (Fp wi g tb):=by
 intro pins s σ H D I h
 refine wpAny_For (thn (hi pins s σ H _ I h) λv s1 h1=>thn h1 λitv s2 h2=>?_) hs
 obtain⟨it,fp,tn,J,H2,e,I2,T,st2,f2,W,⟨m0,w0⟩,turn⟩:=h2
 subst e
 -- what stays true of the iterator's objects through the loop
 have stat:∀{H':Hp},(∀b∈fp,H' b=none)->∀b∈fp,qf X pins H' b:=λhn b hb=>⟨hn b hb,(f2 b hb).2⟩
 refine codeAny_forLoop_any (λn s'=>∃i σ' H',Inv X pins σ' H' s'/\tn i s'.heap/\(∀b∈fp,H' b=none)/\W i n σ' H') ?_ m0 ⟨0,σ,H2,I2,st2,λb hb=>(f2 b hb).1,w0⟩
 rintro n s3 ⟨i,σ3,H3,I3,st3,fr3,w3⟩
 rcases turn i n σ3 H3 w3 with⟨stop,qn⟩ | ⟨go,N,hN,step⟩
 ·refine DB hp (thn (T.done X rfl rfl rfl hc i pins s3 σ3 H3 X.xe I3 (stat fr3) st3 stop) λr s4 ⟨hr,I4⟩=>?_)
  subst hr
  exact CN ⟨σ3,H3,I4,qn⟩
 ·refine DB hp (thn (T.item X rfl rfl rfl hc i pins s3 σ3 H3 X.xe I3 (stat fr3) st3 go) λr s4 ⟨u,hr,h4⟩=>?_)
  subst hr
  refine DB hp (thn h4 λ_ s5 ⟨x,H5,I5,r5,y5,st5,fr5⟩=>?_)
  have I5':=I5.pinned (stat fr5) (T.obj _ _ st5)
  refine DB hp (thn (hg _ s5 σ3 H5 x u _ I5' r5 (step x H5 y5)) λ_ s6 ⟨σ6,H6,I6,q6⟩=>?_)
  refine DB hp (thn (hb _ s6 σ6 H6 _ I6 q6) λf s7 q7=>?_)
  have again:∀{σ7:St} {H7:Hp},Inv X (pins++ic fp s5.heap) σ7 H7 s7->N σ7 H7->∃m,m<n/\∃i σ' H',Inv X pins σ' H' s7/\tn i s7.heap/\(∀b∈fp,H' b=none)/\W i m σ' H':=λ{σ7 H7} I7 n7=>by
   obtain⟨m',hm,w7⟩:=hN σ7 H7 n7
   refine⟨m',hm,i+1,σ7,H7,I7.unpinned,T.keep _ _ _ st5 λb hb o e=>(I7.pin (b,o) (AR _ (AR _ (cv hb e)))).1,λb hb=>?_,w7⟩
   obtain⟨o,e,d⟩:=T.obj _ _ st5 b hb
   exact(I7.pin (b,o) (AR _ (AR _ (cv hb e)))).2.1
  cases f with
  | next=>obtain⟨σ7,H7,I7,n7⟩:=q7;exact again I7 n7
  | cont=>obtain⟨σ7,H7,I7,n7⟩:=q7;exact again I7 n7
  | brk=>obtain⟨σ7,H7,I7,q7⟩:=q7;exact⟨σ7,H7,I7.unpinned,q7⟩
  | ret v=>obtain⟨x7,σ7,H7,I7,r7,q7⟩:=q7;exact⟨x7,σ7,H7,I7.unpinned,r7,q7⟩
end
abbrev R2:=V->V->Hp->VK->Prop
def OpR (X:Cx) (f:Value->Value->Sem Value) (r:R2):Prop :=
 ∀(pins:List (Addr×Obj)) (s:Shared) (σ:St) (H:Hp) (x y:V) (v u:Value) (Q:VK),Inv X pins σ H s->RelV x v->RelV y u->r x y H Q ->
  wpAny (model X.prog X.w) X.A (f v u) (EP X pins σ Q) X.xe s
def dz (X:Cx) (f:Value) (r:List V->Hp->VK->Prop):Prop :=
 ∀(pins:List (Addr×Obj)) (s:Shared) (σ:St) (H:Hp) (xs:List V) (us:List Value) (Q:VK),Inv X pins σ H s->ax xs us->r xs H Q ->
  wpAny (model X.prog X.w) X.A (call f us) (EP X pins σ Q) X.xe s
def Fq (X:Cx) (r:V->Hp->(Bool->Hp->Prop)->Prop):Prop :=
 ∀(pins:List (Addr×Obj)) (s:Shared) (σ:St) (H:Hp) (x:V) (v:Value) (Q:Bool->Hp->Prop),Inv X pins σ H s->RelV x v->r x H Q ->
  wpAny (model X.prog X.w) X.A (truthy v) (TP X pins σ Q) X.xe s
def tOp (r:R2) (ta tb:TE):TE:=λσ H Q=>ta σ H λx H1=>tb σ H1 λy H2=>r x y H2 Q
def rI (C:Int->Int->Prop) (g:Int->Int->V):R2:=λx y H Q=>∃i j,x=.int i/\y=.int j/\C i j/\Q (g i j) H
def rI0 (g:Int->Int->V):R2:=λx y H Q=>∃i j,x=.int i/\y=.int j/\Q (g i j) H
section
variable {X : Cx} {a b c : Expr} {ta tb tc : TE} {pos : Pos}
theorem Fs (ha:PE X a ta) (hb:PE X b tb) {pins:List (Addr×Obj)} {s:Shared} {σ:St} {H:Hp} {R:V->V->Hp->Prop} (I:Inv X pins σ H s)
  (h:ta σ H λx H1=>tb σ H1 λy H2=>R x y H2) {Q:Value->Shared->Prop} {f:Value->Value->Sem Value}
  (hf:∀v u s2 x y H2,Inv X pins σ H2 s2->RelV x v->RelV y u->R x y H2->wpAny (model X.prog X.w) X.A (f v u) Q X.xe s2) :
  wpAny (model X.prog X.w) X.A (eval a X.env) (λv s₁=>wpAny (model X.prog X.w) X.A (eval b X.env) (λu s₂=>wpAny (model X.prog X.w) X.A (f v u) Q X.xe s₂) X.xe s₁) X.xe s:=by
 refine thn (ha pins s σ H _ I h) λv s1 ⟨x,H1,I1,r1,q1⟩=>?_
 refine thn (hb pins s1 σ H1 _ I1 q1) λu s2 ⟨y,H2,I2,r2,q2⟩=>?_
 exact hf v u s2 x y H2 I2 r1 r2 q2
theorem Cv {op:Operator} {r:R2} (ho:OpR X (binaryOp op) r) (ha:PE X a ta) (hb:PE X b tb):PE X (.BinOp a op b pos) (tOp r ta tb):=by
 intro pins s σ H Q I h
 exact wpAny_BinOp (Fs ha hb I h λv u s2 x y H2 I2 rx ry q=>ho pins s2 σ H2 x y v u Q I2 rx ry q)
theorem opI {f:Value->Value->Sem Value} {C:Int->Int->Prop} {g:Int->Int->Int}
  (rule:∀(i j:Int) (t u:Tok) (s:Shared) (Q:Value->Shared->Prop) (E:Value->Shared->Prop),C i j->Q (.int (g i j) s.toks) {s with toks:=s.toks+1}->wpAny (model X.prog X.w) X.A (f (.int i t) (.int j u)) Q E s) :
  OpR X f (rI C λi j=>.int (g i j)):=by
 intro pins s σ H x y v u Q I rx ry h
 obtain⟨i,j,rfl,rfl,hc,q⟩:=h
 obtain⟨t,rfl⟩:=rx
 obtain⟨t',rfl⟩:=ry
 exact rule i j t t' s _ _ hc ⟨.int (g i j),H,I.tok _,⟨_,rfl⟩,q⟩
theorem El {f:Value->Value->Sem Value} {g:Int->Int->Int}
  (rule:∀(i j:Int) (t u:Tok) (s:Shared) (Q:Value->Shared->Prop) (E:Value->Shared->Prop),Q (.int (g i j) s.toks) {s with toks:=s.toks+1}->wpAny (model X.prog X.w) X.A (f (.int i t) (.int j u)) Q E s) :
  OpR X f (rI0 λi j=>.int (g i j)):=by
 intro pins s σ H x y v u Q I rx ry h
 obtain⟨i,j,rfl,rfl,q⟩:=h
 obtain⟨t,rfl⟩:=rx
 obtain⟨t',rfl⟩:=ry
 exact rule i j t t' s _ _ ⟨.int (g i j),H,I.tok _,⟨_,rfl⟩,q⟩
theorem B6 {f:Value->Value->Sem Value} {g:Int->Int->Bool}
  (rule:∀(i j:Int) (t u:Tok) (s:Shared) (Q:Value->Shared->Prop) (E:Value->Shared->Prop),Q (.bool (g i j)) s->wpAny (model X.prog X.w) X.A (f (.int i t) (.int j u)) Q E s) :
  OpR X f (rI0 λi j=>.bl (g i j)):=by
 intro pins s σ H x y v u Q I rx ry h
 obtain⟨i,j,rfl,rfl,q⟩:=h
 obtain⟨t,rfl⟩:=rx
 obtain⟨t',rfl⟩:=ry
 exact rule i j t t' s _ _ ⟨.bl (g i j),H,I,rfl,q⟩
def Ft (i j:Int):Prop:=0<j/\j<1073741824
def Fu (i j:Int):Prop:=0<=j/\j<=1000000/\i.natAbs<2 ^ 64
def CMul (i j:Int):Prop:=(-(2 ^ 64)<i/\i<2 ^ 64)\/(-(2 ^ 64)<j/\j<2 ^ 64)
theorem CMul.ok {i j:Int} (h:CMul i j):IntMulOk i j:=by
 rcases h with⟨h1,h2⟩ | ⟨h1,h2⟩
 ·exact .of_left (intBits_le_64 h1 h2)
 ·exact .of_right (intBits_le_64 h1 h2)
theorem kx (k:Nat):(0:Int)<=2 ^ k:=by
 rw[two_pow_cast]
 exact Int.natCast_nonneg _
theorem op_add:OpR X (binaryOp .Add) (rI0 λi j=>.int (i+j)):=El λ_ _ _ _ _ _ _ q=>add_int q
theorem op_sub:OpR X (binaryOp .Sub) (rI0 λi j=>.int (i-j)):=El λ_ _ _ _ _ _ _ q=>sub_int q
theorem op_mul:OpR X (binaryOp .Mult) (rI CMul λi j=>.int (i*j)):=opI λ_ _ _ _ _ _ _ hc q=>mul_int q hc.ok
theorem vx:OpR X (binaryOp .FloorDiv) (rI Ft λi j=>.int (i / j)):=opI λi j _ _ _ _ _ hc q=>by
 have h1:(0:Int)<j:=hc.1
 have h2:j<1073741824:=hc.2
 exact floordiv_int (by lia) (by rw[EB i (by lia)];exact q) (.inl (PyProof.noPylong_small (by lia)))
theorem op_mod:OpR X (binaryOp .Mod) (rI (λ_ j=>0<j) λi j=>.int (i % j)):=opI λi j _ _ _ _ _ hc q=>by
 have h1:(0:Int)<j:=hc
 exact mod_int' (by lia) (by rw[Int.fmod_eq_emod_of_nonneg i (by lia)];exact q)
theorem op_pow:OpR X (binaryOp .Pow) (rI Fu λi j=>.int (i ^ j.toNat)):=opI λ_ _ _ _ _ _ _ hc q=>pow_int_small hc.1 hc.2.1 hc.2.2 q
theorem op_shr:OpR X (binaryOp .RShift) (rI (λ_ j=>0<=j) λi j=>.int (i / 2 ^ j.toNat)):=opI λi j _ _ _ _ _ hc q =>
 rshift_int hc (by rw[EB i (kx _)];exact q)
theorem td {pins:List (Addr×Obj)} {σ:St} {H:Hp} {s:Shared} {Q:VK} {k k':Bool} (I:Inv X pins σ H s) (q:Q (.bl k) H) (e:k=k'):EP X pins σ Q (.bool k') s:=by
 subst e
 exact⟨.bl k,H,I,rfl,q⟩
theorem Cw:OpR X (compareOp .Lt) (rI0 λi j=>.bl (decide (i<j))):=B6 λ_ _ _ _ _ _ _ q=>lt_int q
theorem Cy:OpR X (compareOp .LtE) (rI0 λi j=>.bl (decide (i<=j))):=B6 λ_ _ _ _ _ _ _ q=>le_int q
theorem Cz:OpR X (compareOp .Gt) (rI0 λi j=>.bl (decide (j<i))):=B6 λ_ _ _ _ _ _ _ q=>gt_int q
theorem C0:OpR X (compareOp .GtE) (rI0 λi j=>.bl (decide (j<=i))):=B6 λ_ _ _ _ _ _ _ q=>ge_int q
theorem y6:OpR X (compareOp .Is) (λx y H Q=>y=.non/\Q (.bl (decide (x=.non))) H):=by
 intro pins s σ H x y v u Q I rx ry h
 obtain⟨rfl,q⟩:=h
 cases ry
 refine is_none_gen (td I q ?_)
 cases x<;>first
  | (cases rx;rfl)
  | (obtain⟨t,rfl⟩:=rx;rfl)
theorem vy:OpR X (compareOp .IsNot) (λx y H Q=>y=.non/\Q (.bl (!decide (x=.non))) H):=by
 intro pins s σ H x y v u Q I rx ry h
 obtain⟨rfl,q⟩:=h
 cases ry
 refine isnot_none_gen (td I q ?_)
 cases x<;>first
  | (cases rx;rfl)
  | (obtain⟨t,rfl⟩:=rx;rfl)
def Em (K:PySem.W.Frag) (x:V) (H:Hp) (k:Bool):Prop :=
 match x with
 | .non=>k=false
 | .bl b=>k=b
 | .int i=>k=(i != 0)
 | .str y=>y.length<=sizeLine/\k=((y.length:Int) != 0)
 | .byt y=>y.size<=sizeLine/\k=((y.size:Int) != 0)
 | .ref p=>(∃xs,SqL K H p xs/\k=!xs.isEmpty)\/(∃xs,SqT K H p xs/\k=!xs.isEmpty)\/∃kvs,H p=some (.dK kvs)/\k=!kvs.isEmpty
 | _=>False
theorem ky {κ:Type} {kvs:List (κ×V)} {vs:List (κ×Value)} (r:KV kvs vs):(!vs.isEmpty)=!kvs.isEmpty:=by
 cases r<;>rfl
theorem gf {xs:List V} {its:List Value} (r:ax xs its):(!its.toArray.isEmpty)=!xs.isEmpty:=by
 cases r<;>simp
theorem y8:(sizeLine:Nat)<2 ^ 63:=by rw[FH];decide
theorem y9:Fq X (λx H Q=>∃k,Em X.K x H k/\Q k H):=by
 intro pins s σ H x v Q I rx h
 obtain⟨k,e,q⟩:=h
 have hl:=y8
 have hs:sizeLine=16777216:=FH
 cases x with
 | non =>
  cases rx
  have e':k=false:=e
  subst e'
  exact truthy_none ⟨H,I,q⟩
 | bl b =>
  cases rx
  have e':k=b:=e
  subst e'
  exact CU ⟨H,I,q⟩
 | int i =>
  obtain⟨t,rfl⟩:=rx
  have e':k=(i != 0):=e
  subst e'
  exact PySem.P.truthy_int ⟨H,I,q⟩
 | str y =>
  obtain⟨t,rfl⟩:=rx
  obtain⟨hy,e'⟩:y.length<=sizeLine/\k=((y.length:Int) != 0):=e
  subst e'
  exact PySem.P.truthy_str (by lia) ⟨H,I.tok _,q⟩
 | byt y =>
  obtain⟨t,rfl⟩:=rx
  obtain⟨hy,e'⟩:y.size<=sizeLine/\k=((y.size:Int) != 0):=e
  subst e'
  exact PySem.W.truthy_bytes (by lia) ⟨H,I.tok _,q⟩
 | ref p =>
  cases rx
  have e':(∃xs,SqL X.K H p xs/\k=!xs.isEmpty)\/(∃xs,SqT X.K H p xs/\k=!xs.isEmpty)\/∃kvs,H p=some (.dK kvs)/\k=!kvs.isEmpty:=e
  rcases e' with⟨xs,hx,e'⟩ | ⟨xs,hx,e'⟩ | ⟨kvs,hx,e'⟩
  ·subst e'
   obtain⟨its,r,pl,hz⟩:=I.list hx
   have hlen:=r.length
   exact wpAny_truthy_list pl.isList (by simp![AM];lia) ⟨H,I.tok _,by rw[gf r];exact q⟩
  ·subst e'
   obtain⟨its,r,pl,hz⟩:=I.tuple hx
   have hlen:=r.length
   exact truthy_tuple pl (by simp![AM];lia) ⟨H,I.tok _,by rw[gf r];exact q⟩
  ·subst e'
   obtain⟨hz,hS,vs,r,m⟩:kvs.length<=sizeLine/\(p==sysModules)=false/\∃vs,KV kvs vs/\s.heap.DictOf (bg X.prog X.w) p vs:=I.hok p _ hx
   have hlen:kvs.length=vs.length:=Paired.length r
   exact wpAny_truthy_dict hS m (by lia) ⟨H,I.tok _,by rw[ky r];exact q⟩
 | _=>exact(show False from e).elim
theorem qk (ha:PE X a ta) (he:∀whole,isTrue a X.env whole=(do let v <-whole;standAt a.pos;holding [v] (truthy v))) :
  PT X a (λσ H Q=>ta σ H λx H'=>∃k,Em X.K x H' k/\Q k H'):=by
 intro pins s σ H Q I h
 exact isTrue_plain (thn (ha pins s σ H _ I h) λv s1 ⟨x,H1,I1,r1,q1⟩=>y9 pins s1 σ H1 x v Q I1 r1 q1) (he _)
theorem vals2 {x y:V} {us:List Value} (r:ax [x,y] us):∃u w',us=[u,w']/\RelV x u/\RelV y w':=by
 cases r with
 | cons r1 r2 =>
  cases r2 with
  | cons r3 r4=>cases r4;exact⟨_,_,rfl,r1,r3⟩
theorem mf (hc:X.calm=true):dz X (.builtin "max") (λxs H Q=>∃i j,xs=[.int i,.int j]/\Q (.int (if j > i then j else i)) H):=by
 intro pins s σ H xs us Q I r h
 obtain⟨i,j,rfl,q⟩:=h
 obtain⟨u,w',rfl,⟨t,rfl⟩,⟨t',rfl⟩⟩:=vals2 r
 refine max_two_ints (I.ok.hd hc) λh' tk k=>⟨_,H,I.kept k,?_,q⟩
 by_cases hj:j > i
 ·rw[if_pos hj,if_pos hj];exact⟨_,rfl⟩
 ·rw[if_neg hj,if_neg hj];exact⟨_,rfl⟩
theorem mh (hc:X.calm=true):dz X (.builtin "min") (λxs H Q=>∃i j,xs=[.int i,.int j]/\Q (.int (if j<i then j else i)) H):=by
 intro pins s σ H xs us Q I r h
 obtain⟨i,j,rfl,q⟩:=h
 obtain⟨u,w',rfl,⟨t,rfl⟩,⟨t',rfl⟩⟩:=vals2 r
 refine min_two_ints (I.ok.hd hc) λh' tk k=>⟨_,H,I.kept k,?_,q⟩
 by_cases hj:j<i
 ·rw[if_pos hj,if_pos hj];exact⟨_,rfl⟩
 ·rw[if_neg hj,if_neg hj];exact⟨_,rfl⟩
end
section
variable {X : Cx} {pins : List (Addr × Obj)} {σ : St} {H : Hp} {s : Shared} {a C dx : Addr} {fs : List (Str × V)} {f : Str} {v : V} {A : Around} {E : Value -> Shared -> Prop}
theorem vz {prog:Program} {w:World} {env:Env} {e:Expr} {f:Str} {pos:Pos} {s:Shared} {Q:Value->Shared->Prop} (hb:attributeBase e f env (eval e env)=eval e env)
  (h:wpAny (model prog w) A (eval e env) (λo s₁=>wpAny (model prog w) A (getAttr o f true) Q E s₁) E s):wpAny (model prog w) A (eval (.Attribute e f pos) env) Q E s :=
 Attribute_any_ h (by rw[arm_eval_Attribute,hb])
end
structure Room (k:Nat) (A:Around):Prop where
 hd:A.handled=none
 dp:A.depth+3*k+5<recursionLimit
 un:A.units+16*k+200<cLine
theorem Room.deeper {k:Nat} {A:Around} (r:Room (k+1) A) (env:Env):Room k (A.deeper env) :=
 ⟨r.hd,by have:=r.dp;show A.depth+1+3*k+5<_;lia,by have:=r.un;show A.units+3+16*k+200<_;lia⟩
theorem Room.depth {k:Nat} {A:Around} (r:Room k A):A.depth<recursionLimit:=by have:=r.dp;lia
theorem Room.units {k:Nat} {A:Around} (r:Room k A):A.units+64<cLine:=by have:=r.un;lia
def tNil:TA:=λ_ H Q=>Q [] H
def C2 (ta:TE) (tr:TA):TA:=λσ H Q=>ta σ H λx H1=>tr σ H1 λxs H2=>Q (x::xs) H2
section
variable {X : Cx} {e : Expr} {es : List Expr} {te : TE} {t : TA} {pos : Pos}
theorem j0:PA X [] tNil:=λ_ _ _ _ H Q I h=>Calls.spliced_nil ⟨[],H,I,.nil,h⟩
theorem cz (ha:PE X e te) (hr:PA X es t) (hs:starEach (e::es) X.env=(false,eval e X.env)::starEach es X.env:=by rfl):PA X (e::es) (C2 te t):=by
 intro pos pins s σ H Q I h
 rw[hs]
 show wpAny _ _ (spliced ((false,eval e X.env)::backTo pos (starEach es X.env))) _ _ s
 refine Calls.spliced_cons (thn (ha pins s σ H _ I h) λu s1 ⟨x,H1,I1,r1,q1⟩=>?_)
 exact thn (hr pos pins s1 σ H1 _ I1 q1) λus s2 ⟨xs,H2,I2,r2,q2⟩=>⟨x::xs,H2,I2,.cons r1 r2,q2⟩
def Fv (t:TA):TE:=λσ H Q=>t σ H λxs H1=>xs.length<=sizeLine/\∀p,H1 p=none->Q (.ref p) (upd H1 p (.lst xs))
theorem za (h:PA X es t):PE X (.List es pos) (Fv t):=by
 intro pins s σ H Q I hq
 refine wpAny_List_spliced (thn (h pos pins s σ H _ I hq) λus s1 ⟨xs,H1,I1,r,z,q⟩=>⟨by rw[<-r.length];exact z,?_⟩)
 have hf:H1 s1.heap.objs.size=none:=I1.hok.fresh (AQ _)
 refine⟨.ref s1.heap.objs.size,upd H1 s1.heap.objs.size (.lst xs),I1.laid (t':=s1.toks) (λb u e=>AB _ e) (AQ _) ?_,rfl,q _ hf⟩
 exact⟨z,us,0,r,BD _ rfl⟩
end
abbrev Sp:=List V->Hp->VK->XK->Prop
abbrev CXT:=List Env->Hp->Shared->XK->Value->Shared->Prop
structure Env0 (P:Program) (w:World) (K:PySem.W.Frag) (mg:Str->Option Value) (base:Heap) (A:Around) (outer:List Env) (s:Shared) (H:Hp):Prop where
 frames:A.frames=some outer
 mod:Mod K mg base
 bs:∀b o,base.get? b=some o->s.heap.get? b=some o/\H b=none
 bsz:base.objs.size<=s.heap.objs.size
 funs:s.heap.FunFrames base outer
 frf:∀b∈frs outer,H b=none
 hok:HOk P w H s.heap
 bare:AllBare s.gens
def CE (outer:List Env) (P:Program) (w:World) (H:Hp) (s:Shared) (Q:VK) (u:Value) (s':Shared):Prop :=
 ∃v H',s'.os=s.os/\AllBare s'.gens/\Un (frs outer) [] H H' s.heap s'.heap/\HOk P w H' s'.heap/\RelV v u/\Q v H'
def CR (CX:CXT) (outer:List Env) (P:Program) (w:World) (H:Hp) (s:Shared) (Q:VK) (E:XK) (r:Result) (s':Shared):Prop :=
 match r with
 | .ok (.ret u)=>CE outer P w H s Q u s'
 | .ok _=>False
 | .error e=>CX outer H s E e s'
structure FnOk (P:Program) (w:World) (K:PySem.W.Frag) (mg:Str->Option Value) (base:Heap) (CX:CXT) (k:Nat) (f:Addr) (fd:FuncData) (ps:List Str) (sp:Sp):Prop where
 len:∀vs H Q E,sp vs H Q E->vs.length=ps.length
 run:∀(A:Around) (outer:List Env) (s:Shared) (H:Hp) (args:Args) (us:List Value) (vs:List V) (Q:VK) (E:XK),Room k A->Env0 P w K mg base A outer s H->BindsTo s fd args (ps.zip us)->ax vs us->sp vs H Q E ->
  codeAny (model P w) A (.call (.ref f) args) (CR CX outer P w H s Q E) s
theorem FnOk.imp {P:Program} {w:World} {K:PySem.W.Frag} {mg:Str->Option Value} {base:Heap} {CX:CXT} {k:Nat} {f:Addr} {fd:FuncData} {ps:List Str} {sp sp':Sp} (F:FnOk P w K mg base CX k f fd ps sp)
  (h:∀vs H Q E,sp' vs H Q E->sp vs H Q E):FnOk P w K mg base CX k f fd ps sp' :=
 ⟨λvs H Q E q=>F.len vs H Q E (h _ _ _ _ q),λA outer s H args us vs Q E hr he hb hv hs=>F.run A outer s H args us vs Q E hr he hb hv (h _ _ _ _ hs)⟩
section
variable {X : Cx} {pins : List (Addr × Obj)} {σ : St} {H : Hp} {s s' : Shared}
theorem Inv.env0 (I:Inv X pins σ H s):Env0 X.prog X.w X.K X.mg X.base X.A X.stack s H :=
 ⟨I.ok.frames,I.ok.mod,I.bs,BS I.ok.bsz I.sz,I.stack,I.stkFree,I.hok,I.bare⟩
theorem Inv.after {Q:VK} {u:Value} (I:Inv X pins σ H s) (h:CE X.stack X.prog X.w H s Q u s'):EP X pins σ Q u s':=by
 obtain⟨v,H',os,bare,un,hok,r,q⟩:=h
 obtain⟨hh,g,d,t,os'⟩:=s'
 obtain rfl:os'=s.os:=os
 exact⟨v,H',I.call (h':=hh) (g':=g) (d':=d) (t':=t) (ch:=[]) un hok bare (λb z=>absurd z (by simp)),r,q⟩
end
def zb (sp:Sp) (dvs:List V) (E:XK) (t:TA):TE:=λσ H Q=>t σ H λvs H1=>sp (vs++dvs) H1 Q E
def Binds (K:PySem.W.Frag) (fd:FuncData) (ps:List Str) (ds:List Value):Prop :=
 ∀(s:Shared) (us:List Value),K.In s.heap->(us++ds).length=ps.length->BindsTo s fd ⟨us,[]⟩ (ps.zip (us++ds))
theorem Binds.all {K:PySem.W.Frag} {fd:FuncData} {ps:List Str} (h:∀us:List Value,us.length=ps.length->bindArgs fd ⟨us,[]⟩=pure (ps.zip us)):Binds K fd ps []:=λs us _ hl=>by
 rw[CD]at hl ⊢
 exact .of_eq (h us hl)
def mi (CX:CXT) (X:Cx) (E:XK):Prop:=∀(pins:List (Addr×Obj)) (σ:St) (H:Hp) (s:Shared) (e:Value) (s':Shared),Inv X pins σ H s->CX X.stack H s E e s'->X.xe e s'
section
variable {X : Cx} {CX : CXT} {k : Nat} {f C : Addr} {fd : FuncData} {ps : List Str} {sp : Sp} {dvs : List V} {ds : List Value} {E : XK} {x m : Str} {p pos apos : Pos} {e o : Expr} {es : List Expr} {ta : TE} {t : TA}
theorem zc {pins:List (Addr×Obj)} {σ:St} {H:Hp} {s:Shared} {Q:VK} {us:List Value} {vs:List V} (F:FnOk X.prog X.w X.K X.mg X.base CX k f fd ps sp) (hr:Room k X.A) (hb:Binds X.K fd ps ds) (hd:ax dvs ds) (hx:mi CX X E)
  (I:Inv X pins σ H s) (r:ax vs us) (h:sp (vs++dvs) H Q E):wpAny (model X.prog X.w) X.A (call (.ref f) us) (EP X pins σ Q) X.xe s:=by
 have r2:ax (vs++dvs) (us++ds):=r.append hd
 have hl:(us++ds).length=ps.length:=by rw[<-r2.length];exact F.len _ _ _ _ h
 refine FA (DZ (F.run X.A X.stack s H ⟨us,[]⟩ (us++ds) (vs++dvs) Q E hr I.env0 (hb s us I.kIn hl) r2 h) λr s' hq=>?_)
 cases r with
 | error e=>exact hx pins σ H s e s' I hq
 | ok fl =>
  cases fl with
  | ret u=>exact I.after hq
  | next=>exact False.elim hq
  | brk=>exact False.elim hq
  | cont=>exact False.elim hq
theorem v3 (F:FnOk X.prog X.w X.K X.mg X.base CX k f fd ps sp) (hr:Room k X.A) (hg:Gl X x) (hm:X.mg x=some (.ref f)) (hk:PySem.W.keepIn X.K (.ref f)=true) (hb:Binds X.K fd ps ds) (hd:ax dvs ds) (hx:mi CX X E)
  (ha:PA X (e::es) t) (hdb:(x==("__debug__":Str))=false:=by decide) (he:starEach (e::es) X.env=(false,eval e X.env)::starEach es X.env:=by rfl) (hpl:(backTo pos (starEach es X.env)).any (·.1)=false:=by rfl) :
  PE X (.Call (.Name x p) (e::es) [] pos) (zb sp dvs E t):=by
 intro pins s σ H Q I h
 refine DD (bw I hg hm ?_ hdb)
 refine EC (h₀:=X.base) I.ok.mod.kin hk (thn (ha pos pins s σ H _ I h) λus s1 ⟨vs,H1,I1,r,q⟩=>⟨I1.kIn,?_⟩) he hpl
 exact zc F hr hb hd hx I1 r q
structure Mk (K:PySem.W.Frag) (C f:Addr):Prop where
 makes:PySem.W.makesIn K C=true
 init:PySem.W.findIn K (.ref C) "__init__"=some (some (.ref f))
 fn:PySem.W.isFn K (.ref f)=true
 kp:PySem.W.keepIn K (.ref C)=true
end
structure FnScope (N P:List Str) (sc:Scope):Prop where
 kind:sc.kind=.function
 co:sc.isCoroutine=false
 gen:sc.isGenerator=false
 nd:N.Nodup
 pre:N.take P.length=P
 par:∀x∈P,sc.names.lookup x=some .local\/sc.names.lookup x=some .cell
 nofree:∀y∈sc.names,y.2≠.free
theorem ie {kindOf:Str->Option NameKind} {x:Str}:∀{binds:List (Str×Value)} {m:Str->Option Value},(∀v,(x,v)∉binds)->bindL kindOf binds m x=m x
 | [],_,_=>rfl
 | (n,v)::r,m,h=>by
  unfold bindL
  rw[ie λw hw=>h w (AV _ hw)]
  split
  ·have:x≠n:=by rintro rfl;exact h v AY
   simp[this]
  ·rfl
theorem ig {kindOf:Str->Option NameKind} {x:Str}:∀{binds:List (Str×Value)} {m:Str->Option Value},(∀v,(x,v)∉binds)->bindC kindOf binds m x=m x
 | [],_,_=>rfl
 | (n,v)::r,m,h=>by
  unfold bindC
  rw[ig λw hw=>h w (AV _ hw)]
  split
  ·rfl
  ·have:x≠n:=by rintro rfl;exact h v AY
   simp[this]
theorem ij {kindOf:Str->Option NameKind} {x:Str} {v:Value}:∀{P:List Str} {vs:List Value} {i:Nat} {m:Str->Option Value},P.Nodup->P[i]? = some x->vs[i]? = some v->kindOf x=some .local ->
  bindL kindOf (P.zip vs) m x=some v
 | [],_,_,_,_,h,_,_=>by simp at h
 | _::_,[],_,_,_,_,h,_=>by simp at h
 | p::P,w::vs,0,m,nd,h1,h2,hk=>by
  simp at h1 h2;subst h1;subst h2
  show bindL kindOf ((p,w)::P.zip vs) m p=_
  unfold bindL
  rw[ie λv hv=>(DV.mp nd).1 (DW hv).1,if_pos hk]
  simp
 | p::P,w::vs,i+1,m,nd,h1,h2,hk=>by
  show bindL kindOf ((p,w)::P.zip vs) m x=_
  unfold bindL
  exact ij (i:=i) (DV.mp nd).2 (by simpa using h1) (by simpa using h2) hk
theorem ik {kindOf:Str->Option NameKind} {x:Str} {v:Value}:∀{P:List Str} {vs:List Value} {i:Nat} {m:Str->Option Value},P.Nodup->P[i]? = some x->vs[i]? = some v->kindOf x≠some .local ->
  bindC kindOf (P.zip vs) m x=some v
 | [],_,_,_,_,h,_,_=>by simp at h
 | _::_,[],_,_,_,_,h,_=>by simp at h
 | p::P,w::vs,0,m,nd,h1,h2,hk=>by
  simp at h1 h2;subst h1;subst h2
  show bindC kindOf ((p,w)::P.zip vs) m p=_
  unfold bindC
  rw[ig λv hv=>(DV.mp nd).1 (DW hv).1,if_neg hk]
  simp
 | p::P,w::vs,i+1,m,nd,h1,h2,hk=>by
  show bindC kindOf ((p,w)::P.zip vs) m x=_
  unfold bindC
  exact ik (i:=i) (DV.mp nd).2 (by simpa using h1) (by simpa using h2) hk
def start (N:List Str) (vs:List V):St:=vs.map some++List.replicate (N.length-vs.length) none
def d8 (CX:CXT) (P:Program) (w:World) (K:PySem.W.Frag) (mg:Str->Option Value) (base:Heap) (N:List Str) (qual:Str) (scope:Scope) (f:Addr) (cd:Value) (A:Around) (outer:List Env) (s:Shared) (H:Hp) (E:XK):Cx where
 prog:=P
 w:=w
 K:=K
 mg:=mg
 base:=base
 A:=A.deeper (envOfC qual scope s.heap.objs.size f cd)
 N:=N
 s₀:=s
 H₀:=H
 env:=envOfC qual scope s.heap.objs.size f cd
 outer:=outer
 stack:=envOfC qual scope s.heap.objs.size f cd::outer
 ex:=[]
 calm:=true
 fn:=λ_=>true
 pn:=[]
 xe:=λe s'=>wpAny (model P w) (A.deeper (envOfC qual scope s.heap.objs.size f cd)) (leaving (envOfC qual scope s.heap.objs.size f cd) e) (λ_ s''=>CX outer H s E e s'') (λe' s''=>CX outer H s E e' s'') s'
theorem j3 {sc:Scope} {n:Nat} {x:Str} (h:sc.names.lookup x=some .cell):∃c,(cellsFrom n sc.names []).lookup x=some c:=by
 have q:=DI sc.names n [] (.inl h)
 exact Option.isSome_iff_exists.mp q
theorem il {CX:CXT} {P:Program} {w:World} {K:PySem.W.Frag} {mg:Str->Option Value} {base:Heap} {N ps:List Str} {qual:Str} {scope:Scope} {f:Addr} {cd:Value} {A:Around} {outer:List Env} {s s1:Shared} {H:Hp} {E:XK} {us:List Value} {vs:List V}
  (S:FnScope N ps scope) (hd:A.handled=none) (e0:Env0 P w K mg base A outer s H) (hl:vs.length=ps.length) (r:ax vs us)
  (x:InCallC s s.heap.objs.size (bindL (envOfC qual scope s.heap.objs.size f cd).kindOf (ps.zip us) λ_=>none) (cellsFrom (s.heap.objs.size+1) scope.names []) (bindC (envOfC qual scope s.heap.objs.size f cd).kindOf (ps.zip us) λ_=>none) s1) :
  Inv (d8 CX P w K mg base N qual scope f cd A outer s H E) [] (start N vs) H s1:=by
 have hpl:ps.length<=N.length:=by have:=congrArg List.length S.pre;rw[DR]at this;lia
 obtain⟨h1,tk,rfl,hk⟩:=x.done
 have noA:∀b:Addr,b∉(d8 CX P w K mg base N qual scope f cd A outer s H E).ex:=λb z=>absurd (show b∈([]:List Addr)from z) (by simp)
 refine⟨⟨e0.mod,S.kind,rfl,rfl,AQ _,λy z c h1 h2=>?_,λy hy=>?_,λy c _ h=>?_,λ_=>hd,FI e0.frames,.inr ⟨rfl,rfl⟩,λb z=>absurd z (noA b),e0.bs,e0.bsz,λb _ _=>noA b,λb z=>absurd z (noA b),e0.funs,e0.frf⟩,
  rfl,e0.bare,Un.kept hk,⟨_,x.toInCall.ns,λi y v h1 h2 h3=>?_⟩,λy c h=>⟨_,x.cell y c h⟩,e0.hok.fresh (AQ _),λy c h=>?_,λp hp=>absurd (show p∈([]:List (Addr×Obj))from hp) (by simp),e0.hok.kept hk,?_⟩
 ·exact name_of_addr x.apart (CI h1) (CI h2)
 ·have hy:scope.names.lookup y=some .cell\/scope.names.lookup y=some .free:=hy
  rcases hy with hy | hy
  ·exact j3 hy
  ·exact absurd rfl (S.nofree _ (CI hy))
 ·exact DH (x.above y c (CI h))
 ·have hi:i<vs.length:=by
   unfold start at h2
   by_cases hi:i<vs.length
   ·exact hi
   ·rw[BA (by simpa using hi)]at h2
    rw[BM]at h2
    split at h2<;>cases h2
  have ha:vs[i]? = some v:=by
   unfold start at h2
   rw[AG (by simpa using hi),BH]at h2
   cases e:vs[i]? with
   | none=>rw[e]at h2;cases h2
   | some a=>rw[e]at h2;cases h2;rfl
  obtain⟨u,hu,rv⟩:=r.get ha
  have hp:ps[i]? = some y:=by
   rw[<-S.pre,EN (by lia)];exact h1
  have ndP:ps.Nodup:=by rw[<-S.pre];exact S.nd.sublist (List.take_sublist _ _)
  refine⟨u,rv,?_⟩
  rcases S.par y (DS hp)with k | k
  ·exact .inl ⟨k,ij ndP hp hu k⟩
  ·obtain⟨c,e⟩:=j3 (n:=s.heap.objs.size+1) k
   refine .inr ⟨.inl k,c,e,?_⟩
   have q:=x.cell y c e
   rw[ik ndP hp hu (by show scope.names.lookup y≠_;rw[k];decide)]at q
   exact q
 ·exact e0.hok.fresh (DH (x.above y c (CI h)))
 ·unfold start
  show _=N.length
  rw[BR,BU,DM]
  lia
theorem zd {CX:CXT} {P:Program} {w:World} {K:PySem.W.Frag} {mg:Str->Option Value} {base:Heap} {k:Nat} {f:Addr} {name qual:Str} {params:Arguments} {body:List Stmt} {scope:Scope} {dV kV doc pm cdv ct oc:Value} {an od:Option Addr}
  {osl:Array (Option Value)} {N ps:List Str} {sp:Sp} (lk:K.lookup f=some ⟨oc,od,.func (PySem.W.fnOf name qual params body scope dV kV doc pm an cdv ct),osl⟩) (hcd:PySem.W.codeIn K cdv qual=true) (S:FnScope N ps scope)
  (len:∀vs H Q E,sp vs H Q E->vs.length=ps.length)
  (hbody:∀(A:Around) (outer:List Env) (s:Shared) (H:Hp) (vs:List V) (Q:VK) (E:XK),Room k (A.deeper (envOfC qual scope s.heap.objs.size f cdv))->sp vs H Q E ->
   ∃t,PSs (d8 CX P w K mg base N qual scope f cdv A outer s H E) body t/\t {nx:=λ_ H'=>Q .non H',rt:=Q} (start N vs) H) :
  FnOk P w K mg base CX (k+1) f (PySem.W.fnOf name qual params body scope dV kV doc pm an cdv ct) ps sp:=by
 refine⟨len,λA outer s H args us vs Q E hr e0 hb r hsp=>?_⟩
 have hl:=len _ _ _ _ hsp
 have KX:K.In s.heap:=e0.mod.kin.keeps λb o e=>(e0.bs b o e).1
 have lim:s.heap.NoLimit:=e0.mod.nolimit.keeps λb o e=>(e0.bs b o e).1
 have hkind:∀y∈ps.zip us,scope.names.lookup y.1=some .local\/(scope.names.lookup y.1=some .cell/\((cellsFrom (s.heap.objs.size+1) scope.names []).lookup y.1).isSome=true):=fun⟨n,v⟩ hy=>by
  rcases S.par n (DW hy).1 with q | q
  ·exact .inl q
  ·exact .inr ⟨q,DI _ _ _ (.inl q)⟩
 refine DN hr.depth (KX _ _ lk) rfl S.co S.gen rfl (DE KX hcd) (hb _ _ _ _ ?_)
 refine CY S.kind hkind λenv he s1 x=>?_
 subst he
 refine⟨lim.keeps x.toInCall.keep,codeAny_func ?_⟩
 obtain⟨t,ht,hq⟩:=hbody A outer s H vs Q E (hr.deeper _) hsp
 have I:Inv (d8 CX P w K mg base N qual scope f cdv A outer s H E) [] (start N vs) H s1:=il S hr.hd e0 hl r x
 refine AN (ht [] s1 (start N vs) H _ I hq) (λfl s' hs=>?_) λe s' hs=>hs
 have fin:∀{σ':St} {H':Hp} {v:V} {u:Value},Inv (d8 CX P w K mg base N qual scope f cdv A outer s H E) [] σ' H' s'->RelV v u->Q v H'->CE outer P w H s Q u s' :=
  λ{σ' H' v u} J rv q=>⟨v,H',J.os,J.bare,J.base,J.hok,rv,q⟩
 cases fl with
 | ret u =>
  obtain⟨v,σ',H',J,rv,q⟩:=hs
  exact fin J rv q
 | next =>
  obtain⟨σ',H',J,q⟩:=hs
  exact fin (v:=V.non) (u:=Value.none) J rfl q
 | brk =>
  obtain⟨_,_,_,q⟩:=hs
  exact False.elim q
 | cont =>
  obtain⟨_,_,_,q⟩:=hs
  exact False.elim q
section
variable {X : Cx} {x : Str} {p pos : Pos} {e : Expr} {es : List Expr} {t : TA} {id T : String} {r : List V -> Hp -> VK -> Prop}
def tCB (r:List V->Hp->VK->Prop) (t:TA):TE:=λσ H Q=>t σ H λvs H1=>r vs H1 Q
theorem gj (hc:dz X (.builtin id) r) (hg:Gl X x) (hm:X.mg x=none) (hv:bootBuiltins x=some (.builtin id)) (ha:PA X (e::es) t) (hn:x≠"__name__":=by decide) (hdb:(x==("__debug__":Str))=false:=by decide)
  (he:starEach (e::es) X.env=(false,eval e X.env)::starEach es X.env:=by rfl) (hpl:(backTo pos (starEach es X.env)).any (·.1)=false:=by rfl):PE X (.Call (.Name x p) (e::es) [] pos) (tCB r t):=by
 intro pins s σ H Q I h
 refine DD (l7 I hg hm hv ?_ hn hdb)
 exact PyProof.Rows.callWith_builtin1 (thn (ha pos pins s σ H _ I h) λus s1 ⟨vs,H1,I1,r1,q1⟩=>hc pins s1 σ H1 vs us Q I1 r1 q1) he hpl
end
end L2
namespace HT
open PySem PyProof.Rows
def lexLt:List Int->List Int->Bool
 | [],[]=>false
 | [],_::_=>true
 | _::_,[]=>false
 | x::xs,y::ys=>if x=y then lexLt xs ys else decide (x<y)
theorem bc (x y:Int) (xs ys:List Int):lexLt (x::xs) (y::ys)=if x=y then lexLt xs ys else decide (x<y):=rfl
theorem bx:lexLt [] []=false:=rfl
theorem bo (y:Int) (ys:List Int):lexLt [] (y::ys)=true:=rfl
theorem bp (x:Int) (xs:List Int):lexLt (x::xs) []=false:=rfl
theorem gk (A:Around) (s:Shared) (a:Int) (t:Tok) (c:Int) (u:Tok):∃e,SeqAt.EqAt A s (.int a t) (.int c u) e/\(e=true↔a=c) :=
 ⟨(a==c),FL a t c u,by simp⟩
theorem qm (A:Around) (s:Shared) (a:Int) (t:Tok) (c:Int) (u:Tok) (prog:Program) (w:World) (E:Value->Shared->Prop) (Q:Value->Shared->Prop) (h:Q (.bool (decide (a<c))) s) :
  wpAny (model prog w) A (richCompare .Lt (.int a t) (.int c u)) Q E s :=
 (PyProof.Rows.lt_int h:wpAny (model prog w) A (compareOp .Lt (.int a t) (.int c u)) Q E s)
section
open PySem.SeqAt
open PySem.AutoSeq1 (wpAny_loadPart')
open PySem.MeetsSeq PySem.MeetsSeq2 PySem.MeetsSeq3
theorem gm (l b:Addr) (items items2:Array Value) (n n2:Nat) (dd dd2:Option Addr) (sl sl2:Array (Option Value)) (ns ms:List Int) (hi:IntsAre items.toList ns) (hj:IntsAre items2.toList ms) :
  Meets (Builtin.«tuple.__lt__» ⟨[.ref l,.ref b],[]⟩)
   (λ_ R s=>s.heap.get? l=some {cls:=.type "tuple",dict:=dd,data:=.seq items n,slots:=sl}/\s.heap.get? b=some {cls:=.type "tuple",dict:=dd2,data:=.seq items2 n2,slots:=sl2} /\
    R (.ok (.ret (.bool (lexLt ns ms)))) s) :=
 .of_wp λprog w A R s h=>by
  obtain⟨hp,g,d,tk,os⟩:=s;obtain⟨hl,hb,h⟩:=h
  have f2:=Do
  have z1:items.size=ns.length:=by rw[<-hi.length];simp
  have z2:items2.size=ms.length:=by rw[<-hj.length];simp
  wp_walk using CO hl,CO hb,ET _ (λrest b s'=>b.1=none/\s'=⟨hp,g,d,tk,os⟩/\∃(vs ws:List Value) (ns' ms':List Int),rest=vs.zip ws /\
   IntsAre vs ns'/\IntsAre ws ms'/\ns'.length+items2.size=ms'.length+items.size/\R (.ok (.ret (.bool (lexLt ns' ms')))) ⟨hp,g,d,tk,os⟩) _
  case turn =>
   rintro⟨y,x⟩ rest b s' ⟨hb',rfl,vs,ws,ns',ms',hz,hvi,hwi,hlen,hR⟩
   cases hvi with
   | nil=>rw[EK]at hz;cases hz
   | cons a t hvi' =>
    cases hwi with
    | nil=>rw[ED]at hz;cases hz
    | cons c u hwi' =>
     rw[BZ]at hz
     injection hz with hyx hrest
     injection hyx with hy hx
     subst hy hx
     rw[bc]at hR
     simp![AW]at hlen
     obtain⟨e,he,hiff⟩:=gk A.in1 ⟨hp,g,d,tk,os⟩ a t c u
     refine AC (he prog w _ _ ?_)
     cases e with
     | true =>
      rw[if_pos (hiff.mp rfl)]at hR
      wp_walk
      exact⟨rfl,rfl,_,_,_,_,hrest,hvi',hwi',by lia,hR⟩
     | false =>
      rw[if_neg (λq=>absurd (hiff.mpr q) AZ)]at hR
      have hri:=qm A.in1 ⟨hp,g,d,tk,os⟩ a t c u prog w
      wp_walk using hri
      exact⟨_,rfl,by simpa using hR⟩
  case fin =>
   rintro⟨b1,b2⟩ s' ⟨hb',rfl,vs,ws,ns',ms',hz,hvi,hwi,hlen,hR⟩
   simp only at hb'
   subst hb'
   have hv:lexLt ns' ms'=decide (items.size<items2.size):=by
    cases hvi with
    | nil =>
     cases hwi with
     | nil =>
      simp![BB]at hlen
      rw[bx]
      exact(decide_eq_false (by lia)).symm
     | cons c u hw =>
      simp![BB,AW]at hlen
      rw[bo]
      exact(decide_eq_true (by lia)).symm
    | cons a t hv =>
     cases hwi with
     | nil =>
      simp![BB,AW]at hlen
      rw[bp]
      exact(decide_eq_false (by lia)).symm
     | cons c u hw =>
      rw[BZ]at hz
      cases hz
   rw[hv]at hR
   wp_walk
   exact⟨_,rfl,by simpa[Builtin.Tuple.tupleCompareSizes]using hR⟩
  case h =>
   exact⟨rfl,rfl,items.toList,items2.toList,ns,ms,rfl,hi,hj,by lia,h⟩
end
section
variable {prog : Program} {w : World} {A : Around} {E : Value -> Shared -> Prop} {s : Shared}
theorem kz {l b:Addr} {items items2:Array Value} {ns ms:List Int} {Q:Value->Shared->Prop} (hl:IsTup s.heap l items) (hb:IsTup s.heap b items2) (hi:IntsAre items.toList ns) (hj:IntsAre items2.toList ms)
  (hu:A.units<cLine) (h:Q (.bool (lexLt ns ms)) s):wpAny (model prog w) A (compareOp .Lt (.ref l) (.ref b)) Q E s:=by
 obtain⟨⟨cls,dd,data,sl⟩,ho,hc,n,hd⟩:=id hl
 obtain⟨⟨cls2,dd2,data2,sl2⟩,ho2,hc2,n2,hd2⟩:=id hb
 simp only at hc hd hc2 hd2
 subst hc hd hc2 hd2
 exact DJ (op:=.Lt) ⟨_,ho,rfl⟩ ⟨_,ho2,rfl⟩ PySem.F.slot_tuple_lt PySem.F.entry_tuple_lt (PySem.F.args_tuple_lt_2 _ _) (gm l b items items2 n n2 dd dd2 sl sl2 ns ms hi hj)
  ⟨ho,ho2,show Value.bool (lexLt ns ms)≠Value.notImplemented/\Q (.bool (lexLt ns ms)) s from⟨(λx=>nomatch x),h⟩⟩ hu
theorem v5 {t b:Addr} {vs ws:List Value} {Q:Value->Shared->Prop} (ht:IsTup s.heap t vs.toArray) (hb:IsTup s.heap b ws.toArray) (hv:vs≠[])
  (h1:ws=[]->Q (.ref t) s) (h2:ws≠[]->Q (.ref s.heap.objs.size) {s with heap:=s.heap.push {cls:=.type "tuple",data:=.seq (vs++ws).toArray}})
  (hsz:vs.length+ws.length<=sizeLine):wpAny (model prog w) A (binaryOp .Add (.ref t) (.ref b)) Q E s:=by
 obtain⟨⟨cls,dd,data,sl⟩,ho,hc,n,hd⟩:=id ht
 obtain⟨⟨cls2,dd2,data2,sl2⟩,ho2,hc2,n2,hd2⟩:=id hb
 simp only at hc hd hc2 hd2
 subst hc hd hc2 hd2
 have e:vs.toArray++ws.toArray=(vs++ws).toArray:=by simp
 by_cases hw:ws=[]
 ·exact concat_meets ⟨_,ho,rfl⟩ ⟨_,ho2,rfl⟩ EU seq_tuple_add DK DG (DA _ _)
   (tuple_addW1 t b vs.toArray ws.toArray n n2 dd dd2 sl sl2 (by simpa using hv) (by simp[hw])) ⟨ho,ho2,h1 hw⟩
 ·refine concat_meets ⟨_,ho,rfl⟩ ⟨_,ho2,rfl⟩ EU seq_tuple_add DK DG (DA _ _)
   (tuple_addW2 t b vs.toArray ws.toArray n n2 dd dd2 sl sl2 (by simpa using hv) (by simpa using hw) (by rw[AM,AM];exact hsz)) ⟨ho,ho2,?_⟩
  rw[e]
  exact h2 hw
def sIx (n d:Nat):Option Int->Nat
 | none=>d
 | some v=>if v<0 then(v+(n:Int)).toNat else min v.toNat n
end
end HT
namespace L2
open PySem PySem.Spec PyProof.Rows
abbrev TO:=St->Hp->(Option Int->Hp->Prop)->Prop
theorem intsAre_of {ns:List Int}:∀{us:List Value},ax (ns.map V.int) us->IntsAre us ns:=by
 induction ns with
 | nil=>intro us r;rw[CK]at r;cases r;exact .nil
 | cons n ns ih =>
  intro us r
  rw[BJ]at r
  cases r with
  | cons r1 r2 =>
   obtain⟨t,e⟩:=r1
   subst e
   exact .cons n t (ih r2)
section
variable {X : Cx} {e : Expr} {te : TE} {lo hi : Option Expr} {tl th : TO} {pos p2 : Pos}
def Fw (K:PySem.W.Frag):R2:=λx y H Q=>∃a b ns ms,x=.ref a/\y=.ref b/\SqT K H a (ns.map V.int)/\SqT K H b (ms.map V.int)/\Q (.bl (HT.lexLt ns ms)) H
theorem ze (hu:X.A.units<cLine):OpR X (compareOp .Lt) (Fw X.K):=by
 intro pins s σ H x y v u Q I rx ry h
 obtain⟨a,b,ns,ms,rfl,rfl,ha,hb,q⟩:=h
 cases rx
 cases ry
 obtain⟨its,r1,p1,_⟩:=I.tuple ha
 obtain⟨its2,r2,p2,_⟩:=I.tuple hb
 have i1:IntsAre its.toArray.toList ns:=intsAre_of r1
 have i2:IntsAre its2.toArray.toList ms:=intsAre_of r2
 exact HT.kz p1 p2 i1 i2 hu ⟨.bl (HT.lexLt ns ms),H,I,rfl,q⟩
def C3 (K:PySem.W.Frag):R2:=λx y H Q=>∃a b xs ys,x=.ref a/\y=.ref b/\SqT K H a xs/\SqT K H b ys/\xs≠[]/\xs.length+ys.length<=sizeLine /\
 (ys=[]->Q (.ref a) H)/\(ys≠[]->∀p,H p=none->Q (.ref p) (upd H p (.tup (xs++ys))))
theorem ax.nil_iff {xs:List V} {us:List Value} (r:ax xs us):us=[]↔xs=[]:=by
 cases r with
 | nil=>simp
 | cons _ _=>simp
theorem v7:OpR X (binaryOp .Add) (C3 X.K):=by
 intro pins s σ H x y v u Q I rx ry h
 obtain⟨a,b,xs,ys,rfl,rfl,ha,hb,hx,hz,q1,q2⟩:=h
 cases rx
 cases ry
 obtain⟨its,r1,p1,_⟩:=I.tuple ha
 obtain⟨its2,r2,p2,_⟩:=I.tuple hb
 refine HT.v5 p1 p2 (λz=>hx (r1.nil_iff.mp z)) (λz=>⟨.ref a,H,I,rfl,q1 (r2.nil_iff.mp z)⟩) (λz=>?_) (by rw[<-r1.length,<-r2.length];exact hz)
 refine⟨.ref s.heap.objs.size,_,I.laid (t':=s.toks) (o:=.tup (xs++ys)) (λb ob q=>AB _ q) (AQ _) ?_,rfl,q2 (λw=>z (r2.nil_iff.mpr w)) _ (I.hok.fresh (AQ _))⟩
 exact⟨by rw[BR];exact hz,_,r1.append r2,gb.new _ _⟩
end
def ixN (n:Nat) (i:Int):Option Nat:=if 0<=i then(if i<n then some i.toNat else none)else if -(n:Int)<=i then some (i+n).toNat else none
section
variable {X : Cx} {a b : Expr} {ta tb : TE} {pos : Pos}
def fu:V->Bool
 | .non=>true
 | .bl _=>true
 | .int _=>true
 | .str _=>true
 | _=>false
def eqV:V->V->Bool
 | .non,.non=>true
 | .bl a,.bl b=>a==b
 | .bl a,.int b=>(if a then 1 else 0)==b
 | .int a,.bl b=>a==(if b then 1 else 0)
 | .int a,.int b=>a==b
 | .str a,.str b=>a==b
 | _,_=>false
theorem zf {A:Around} {s:Shared} {y x:V} {u v:Value} (ry:RelV y u) (rx:RelV x v) (fy:fu y=true) (fx:fu x=true):SeqAt.EqAt A s u v (eqV y x):=by
 cases y with
 | non =>
  cases ry
  cases x with
  | non=>cases rx;exact SeqAt.EqAt.same _
  | bl b=>cases rx;exact SeqAt.EqAt.none_bool b
  | int b=>obtain⟨t,rfl⟩:=rx;exact SeqAt.EqAt.none_int b t
  | str b=>obtain⟨t,rfl⟩:=rx;exact SeqAt.EqAt.none_str b t
  | _=>exact absurd (show false=true from fx) AZ
 | bl a =>
  cases ry
  cases x with
  | non=>cases rx;exact SeqAt.EqAt.bool_none a
  | bl b=>cases rx;exact SeqAt.EqAt.bool_bool a b
  | int b=>obtain⟨t,rfl⟩:=rx;exact SeqAt.EqAt.bool_int a b t
  | str b=>obtain⟨t,rfl⟩:=rx;exact SeqAt.EqAt.bool_str a b t
  | _=>exact absurd (show false=true from fx) AZ
 | int a =>
  obtain⟨t',rfl⟩:=ry
  cases x with
  | non=>cases rx;exact SeqAt.EqAt.int_none a t'
  | bl b=>cases rx;exact SeqAt.EqAt.int_bool a t' b
  | int b=>obtain⟨t,rfl⟩:=rx;exact FL a t' b t
  | str b=>obtain⟨t,rfl⟩:=rx;exact FJ a t' b t
  | _=>exact absurd (show false=true from fx) AZ
 | str a =>
  obtain⟨t',rfl⟩:=ry
  cases x with
  | non=>cases rx;exact SeqAt.EqAt.str_none a t'
  | bl b=>cases rx;exact SeqAt.EqAt.str_bool a t' b
  | int b=>obtain⟨t,rfl⟩:=rx;exact FK a t' b t
  | str b=>obtain⟨t,rfl⟩:=rx;exact SeqAt.EqAt.str_str a t' b t
  | _=>exact absurd (show false=true from fx) AZ
 | _=>exact absurd (show false=true from fy) AZ
def eqU (x:V) (u:Value):Bool:=match u with
 | .none=>eqV .non x
 | .bool b=>eqV (.bl b) x
 | .int i _=>eqV (.int i) x
 | .str z _=>eqV (.str z) x
 | _=>false
theorem tf {x y:V} {u:Value} (r:RelV y u) (f:fu y=true):eqU x u=eqV y x:=by
 cases y with
 | non=>cases r;rfl
 | bl b=>cases r;rfl
 | int i=>obtain⟨t,rfl⟩:=r;rfl
 | str z=>obtain⟨t,rfl⟩:=r;rfl
 | _=>exact absurd (show false=true from f) AZ
theorem d9 {x:V}:∀{xs:List V} {us:List Value},ax xs us->xs.all fu=true->us.any (eqU x)=xs.any λy=>eqV y x
 | _,_,.nil,_=>rfl
 | y::xs,u::us,.cons r t,f=>by
  rw[BK,AK]at f
  rw[EO,EO,tf r f.1,d9 t f.2]
theorem c9 {A:Around} {s:Shared} {x:V} {v:Value} (rx:RelV x v) (fx:fu x=true):∀{xs:List V} {us:List Value},ax xs us->xs.all fu=true->∀u∈us,SeqAt.EqAt A s u v (eqU x u)
 | _,_,.nil,_=>λu hu=>by cases hu
 | y::xs,u::us,.cons r t,f=>λu' hu=>by
  rw[BK,AK]at f
  rcases AJ.mp hu with rfl | hu
  ·rw[tf r f.1];exact zf r rx f.1 fx
  ·exact c9 rx fx t f.2 u' hu
def inV (x:V) (xs:List V):Bool:=xs.any λy=>eqV y x
def rIn (K:PySem.W.Frag) (neg:Bool):R2:=λx y H Q=>∃p xs,y=.ref p/\(SqL K H p xs\/SqT K H p xs)/\fu x=true/\xs.all fu=true/\Q (.bl (if neg then !inV x xs else inV x xs)) H
theorem mj:OpR X (compareOp .In) (rIn X.K false):=by
 intro pins s σ H x y v u Q I rx ry h
 obtain⟨p,xs,rfl,hq,fx,fs,q⟩:=h
 cases ry
 rcases hq with hq | hq
 ·obtain⟨its,r,pl,hz⟩:=I.list hq
  refine SeqAt.in_listAt (eqU x) pl.isList (λw hw=>c9 rx fx r fs w (by simpa using hw)) ⟨.bl _,H,I,rfl,?_⟩
  rw[show its.toArray.any (eqU x)=its.any (eqU x)by simp,d9 r fs]
  exact q
 ·obtain⟨its,r,pl,hz⟩:=I.tuple hq
  refine SeqAt.in_tupleAt (eqU x) pl (λw hw=>c9 rx fx r fs w (by simpa using hw)) ⟨.bl _,H,I,rfl,?_⟩
  rw[show its.toArray.any (eqU x)=its.any (eqU x)by simp,d9 r fs]
  exact q
theorem ip:OpR X (compareOp .NotIn) (rIn X.K true):=by
 intro pins s σ H x y v u Q I rx ry h
 obtain⟨p,xs,rfl,hq,fx,fs,q⟩:=h
 cases ry
 rcases hq with hq | hq
 ·obtain⟨its,r,pl,hz⟩:=I.list hq
  refine SeqAt.notIn_listAt (eqU x) pl.isList (λw hw=>c9 rx fx r fs w (by simpa using hw)) ⟨.bl _,H,I,rfl,?_⟩
  rw[show its.toArray.any (eqU x)=its.any (eqU x)by simp,d9 r fs]
  exact q
 ·obtain⟨its,r,pl,hz⟩:=I.tuple hq
  refine SeqAt.notIn_tupleAt (eqU x) pl (λw hw=>c9 rx fx r fs w (by simpa using hw)) ⟨.bl _,H,I,rfl,?_⟩
  rw[show its.toArray.any (eqU x)=its.any (eqU x)by simp,d9 r fs]
  exact q
variable {o e : Expr} {es : List Expr} {to : TE} {t : TA} {name : Str} {apos cpos : Pos} {T id : String} {r : V -> List V -> Hp -> VK -> Prop}
end
theorem ax.rep {xs:List V} {us:List Value} (h:ax xs us):∀k:Nat,ax (List.replicate k xs).flatten (List.replicate k us).flatten
 | 0=>.nil
 | k+1=>by
  rw[BW,BW,CV,CV]
  exact ax.append h (ax.rep h k)
theorem foldl_rep (its:List Value):∀(k:Nat) (acc:List Value),
  List.foldl (λx1 x2=>x1++x2) acc.toArray (List.replicate k its.toArray)=(acc++(List.replicate k its).flatten).toArray
 | 0,acc=>by simp
 | k+1,acc=>by
  have e:acc.toArray++its.toArray=(acc++its).toArray:=by simp
  have e2:(acc++its)++(List.replicate k its).flatten=acc++(List.replicate (k+1) its).flatten:=by
   rw[BW,CV,List.append_assoc]
  rw[<-e2,<-foldl_rep its k (acc++its),<-e,BW,List.foldl_cons]
section
variable {X : Cx} {pins : List (Addr × Obj)} {σ : St} {H : Hp} {s : Shared} {l b : Addr} {xs ys zs : List V}
theorem Inv.lnew {its:List Value} {t':Nat} (I:Inv X pins σ H s) (hv:ax ys its) (hz:ys.length<=sizeLine) :
  Inv X pins σ (upd H s.heap.objs.size (.lst ys)) {s with heap:=s.heap.push {cls:=.type "list",data:=.seq its.toArray},toks:=t'} :=
 I.laid (λ_ _ q=>AB _ q) (AQ _) ⟨hz,its,0,hv,BD _ rfl⟩
theorem Inv.fresh (I:Inv X pins σ H s):H s.heap.objs.size=none:=I.hok.fresh (AQ _)
theorem qo {n:Nat} (h:n<=sizeLine):Builtin.List.listTooLong n=false:=by
 unfold Builtin.List.listTooLong
 exact decide_eq_false (by lia)
end
section
variable {X : Cx}
theorem len_rep {α:Type} (xs:List α) (k:Nat):(List.replicate k xs).flatten.length=k*xs.length:=by
 induction k with
 | zero=>simp
 | succ k ih=>rw[BW,CV,BR,ih,Nat.succ_mul,Nat.add_comm]
end
section
variable {κ : Type} [DecidableEq κ]
def k6 (kvs:List (κ×V)) (k:κ):Option V:=(kvs.find? λkv=>decide (kv.1=k)).map (·.2)
theorem gn {p:κ×V} {r:List (κ×V)} {k:κ} (e:p.1=k):k6 (p::r) k=some p.2:=by simp[k6,CP,e]
theorem gp {p:κ×V} {r:List (κ×V)} {k:κ} (e:¬p.1=k):k6 (p::r) k=k6 r k:=by simp[k6,CP,e]
theorem ye.isSome_eq {o:Option V} {u:Option Value} (r:ye o u):o.isSome=u.isSome:=by
 cases o with
 | none=>cases u with
  | none=>rfl
  | some _=>exact(show False from r).elim
 | some _=>cases u with
  | none=>exact(show False from r).elim
  | some _=>rfl
theorem KV.val {kvs:List (κ×V)} {vs:List (κ×Value)} (r:KV kvs vs) (k:κ):ye (k6 kvs k) (valueAt vs k):=by
 unfold KV at r
 induction r with
 | nil=>exact True.intro
 | @cons p q ps qs h t ih =>
  obtain⟨h1,h2⟩:=h
  by_cases e:p.1=k
  ·have e':q.1=k:=h1.symm.trans e
   have b:valueAt (q::qs) k=some q.2:=by simp[valueAt,CP,e']
   rw[gn e,b];exact h2
  ·have e':¬q.1=k:=λz=>e (h1.trans z)
   have b:valueAt (q::qs) k=valueAt qs k:=by simp[valueAt,CP,e']
   rw[gp e,b];exact ih
end
theorem v8 {P:Program} {w:World} {k:Key} {u:Value} (r:RelV (kV k) u):(bg P w).is k u=true:=by
 cases k with
 | inl i=>obtain⟨t,e⟩:=(show ∃t,u=Value.int i t from r);subst e;exact jf P w i t
 | inr x=>obtain⟨t,e⟩:=(show ∃t,u=Value.str x t from r);subst e;exact jg P w x t
theorem iq {P:Program} {w:World}:∀{ks:List Key} {us:List Value},ax (ks.map kV) us->ItemsAre (bg P w) ks us
 | [],_,r=>by rw[CK]at r;cases r;exact .nil
 | k::ks,_,r=>by
  rw[BJ]at r
  cases r with
  | cons h t=>exact .cons (v8 h) (iq t)
abbrev KT (H:Hp):List (List Key×V)->List (List Key×Addr×Value)->Prop:=Paired λp q=>p.1=q.1/\H q.2.1=some (.tup (p.1.map kV))/\RelV p.2 q.2.2
theorem KT.val {H:Hp} {kvs:List (List Key×V)} {xs:List (List Key×Addr×Value)} (r:KT H kvs xs) (k:List Key):ye (k6 kvs k) ((atKey xs k).map (·.2)):=by
 induction r with
 | nil=>exact True.intro
 | @cons p q ps qs h t ih =>
  obtain⟨h1,_,h2⟩:=h
  by_cases e:p.1=k
  ·have e':q.1=k:=h1.symm.trans e
   have b:atKey (q::qs) k=some q.2:=by simp[atKey,CP,e']
   rw[gn e,b];exact h2
  ·have e':¬q.1=k:=λz=>e (h1.trans z)
   have b:atKey (q::qs) k=atKey qs k:=by simp[atKey,CP,e']
   rw[gp e,b];exact ih
section
variable {P : Program} {w : World} {H : Hp} {h : Heap} {a : Addr}
theorem zg {u:HO} (ok:HOk P w H h) (e:Rd H a u):cf P w H h a u:=e.ok ok
theorem zh {kvs:List (Key×V)} (ok:HOk P w H h) (e:Rd H a (.dK kvs)):kvs.length<=sizeLine/\(a==sysModules)=false/\∃vs,KV kvs vs/\h.DictOf (bg P w) a vs :=
 show cf P w H h a (.dK kvs)from zg ok e
theorem ml {ks:List Key} (ok:HOk P w H h) (e:H a=some (.tup (ks.map kV))):(tupleKind (bg P w)).is h ks a:=by
 obtain⟨_,its,r,o,h1,h2,_,n,h3⟩:=(show cf P w H h a (.tup (ks.map kV))from ok a _ e)
 exact⟨o,its.toArray,n,h1,h2,h3,by simpa using iq r⟩
theorem zi {kvs:List (List Key×V)} (ok:HOk P w H h) (e:Rd H a (.dT kvs)):kvs.length<=sizeLine/\(a==sysModules)=false /\
  ∃xs,KT H kvs xs/\h.DictOfH (tupleKind (bg P w)) a xs:=by
 obtain⟨z,y,xs,r,o,es,ep,h1,h2,h3,h4,h5⟩:=(show cf P w H h a (.dT kvs)from zg ok e)
 refine⟨z,y,xs,r,o,es,ep,h1,h2,h3,h4,λx hx=>?_,h5⟩
 have all:∀{l:List (List Key×V)} {m:List (List Key×Addr×Value)},KT H l m->∀x∈m,(tupleKind (bg P w)).is h x.1 x.2.1:=by
  intro l m q
  induction q with
  | nil=>intro x hx;exact nomatch hx
  | @cons p q ps qs hq t ih =>
   intro x hx
   rcases AJ.mp hx with e | hx
   ·subst e
    exact ml ok (by rw[<-hq.1];exact hq.2.1)
   ·exact ih x hx
 exact all r x hx
end
def yf (H:Hp) (a:Addr) (y:V) (r:Option V):Prop :=
 (∃kvs k,Rd H a (.dK kvs)/\y=kV k/\r=k6 kvs k)\/∃kvs k b,Rd H a (.dT kvs)/\y=.ref b/\H b=some (.tup (k.map kV))/\r=k6 kvs k
theorem yf.k {H:Hp} {a:Addr} {kvs:List (Key×V)} {k:Key} (e:H a=some (.dK kvs)):yf H a (kV k) (k6 kvs k):=.inl ⟨kvs,k,.inl e,rfl,rfl⟩
section
variable {X : Cx} {pins : List (Addr × Obj)} {σ : St} {H : Hp} {s : Shared} {a : Addr} {y v : V} {u r : Value} {o : Option V} {A : Around} {E : Value -> Shared -> Prop}
theorem Fx {Q:Value->Shared->Prop} (hu:A.units+1<cLine) (I:Inv X pins σ H s) (g:yf H a y o) (ry:RelV y u) (h:∀s',Inv X pins σ H s'->Q (.bool o.isSome) s') :
  wpAny (model X.prog X.w) A (compareOp .In u (.ref a)) Q E s:=by
 rcases g with⟨kvs,k,e,ey,l⟩ | ⟨kvs,k,b,e,ey,eb,l⟩
 ·subst ey
  obtain⟨z,hd,vs,rel,dd⟩:=zh I.hok e
  refine wpAny_in_of (v8 ry) hd dd.mapOf ?_
  rw[<-(rel.val k).isSome_eq,<-l]
  exact h _ (I.tok _)
 ·subst ey
  cases(show u=Value.ref b from ry)
  obtain⟨z,hd,xs,rel,dd⟩:=zi I.hok e
  refine wpAny_in_heap (tupleKind_room_in1 hu) (ml I.hok eb) hd dd ?_
  have q:=(rel.val k).isSome_eq
  rw[Option.isSome_map]at q
  rw[<-q,<-l]
  exact h _ (I.tok _)
theorem v9 {Q:Value->Shared->Prop} (hu:A.units+1<cLine) (I:Inv X pins σ H s) (g:yf H a y o) (ry:RelV y u) (h:∀s',Inv X pins σ H s'->Q (.bool (!o.isSome)) s') :
  wpAny (model X.prog X.w) A (compareOp .NotIn u (.ref a)) Q E s:=by
 rcases g with⟨kvs,k,e,ey,l⟩ | ⟨kvs,k,b,e,ey,eb,l⟩
 ·subst ey
  obtain⟨z,hd,vs,rel,dd⟩:=zh I.hok e
  refine wpAny_notIn_of (v8 ry) hd dd.mapOf ?_
  rw[<-(rel.val k).isSome_eq,<-l]
  exact h _ (I.tok _)
 ·subst ey
  cases(show u=Value.ref b from ry)
  obtain⟨z,hd,xs,rel,dd⟩:=zi I.hok e
  refine wpAny_notIn_heap (tupleKind_room_in1 hu) (ml I.hok eb) hd dd ?_
  have q:=(rel.val k).isSome_eq
  rw[Option.isSome_map]at q
  rw[<-q,<-l]
  exact h _ (I.tok _)
end
def IsD (H:Hp) (a:Addr):Prop:=(∃kvs,Rd H a (.dK kvs))\/∃kvs,Rd H a (.dT kvs)
end L2
namespace Att
open PySem PySem.W PySem.Calls PyProof.Rows
theorem ef {P:Params} {h:Heap}:∀(ns:List Int) (vs:List Value),WellAll P h vs (ns.map WData.int)->IntsAre vs ns:=by
 intro ns
 induction ns with
 | nil =>
  intro vs w
  rw[CK]at w
  cases w
  exact .nil
 | cons n ns ih =>
  intro vs w
  rw[BJ]at w
  cases w with
  | cons a b =>
   cases a
   exact .cons _ _ (ih _ b)
theorem mm {l:OpenLaw} {n:Nat} (hn:l.most=some n) {P:Params} {h:Heap} {args:List WData} {vals:List Value}
  (hpre:l.row.toRowW.claim.pre args=true) (hwl:WellAll P h vals args) :
  ∃a vs ns,vals=[Value.ref a]/\args=[WData.list (ns.map WData.int)]/\h.get? a=some {cls:=.type "list",data:=.seq vs.toArray}/\IntsAre vs ns/\ns.length<=n:=by
 have hsh:WShape.hasAll [] args [.list .int]=true:=(pre_splitW hpre).1
 have hc:l.pre.holds [] {args:=args}=true:=(pre_splitW hpre).2
 obtain⟨d,r,rfl,h1,h2⟩:=hasAllW_cons hsh
 obtain rfl:=hasAllW_nil h2
 obtain⟨xs,rfl,h3⟩:=hasW_list h1
 obtain⟨ns,rfl⟩:=items_int h3
 have hlen:ns.length<=n:=by
  unfold OpenLaw.pre at hc
  have h4:(WTm.not (.lt (.lit (.int (n:Int))) (.len (.arg 0)))).holds [] {args:=[.list (ns.map .int)]}=true:=by
   have h4:=(holds_andW hc).1
   rw[hn]at h4
   exact h4
  have h5:=condW_of h4 (w_not (w_lt w_lit (w_len_list (w_arg rfl))))
  rw[BU]at h5
  refine Nat.le_of_not_lt λq=>?_
  have q':(n:Int)<((ns.length:Nat):Int):=by lia
  first
   | (rw[decide_eq_true q']at h5;exact absurd h5 (by decide))
   | (simp at h5;lia)
 cases hwl with
 | cons w1 w2 =>
  cases w2
  cases w1 with
  | list ho hall=>exact⟨_,_,ns,rfl,rfl,ho,ef ns _ hall,hlen⟩
theorem mn (l:OpenLaw) (args:List WData):l.row.toRowW.claim.post args (.bool true) args=true :=
 postW_of (r:=l.row.toRowW) (X:=(true==true))
  (show WShape.has [] (.bool true) .bool=true by first | rfl | decide | simp[WShape.has,WShape.arms,WShape.armsAll])
  (show(WTm.eq .res (.lit (.bool true))).value [] {args:=args,res:=some (.bool true),after:=args}=some (.bool (true==true))from w_eq_bool (w_res rfl) w_lit) rfl
theorem jh {l:OpenLaw} {n:Nat} {q:Program} {loose:List Str} {XP:(Str->Option Value)->Heap->Prop} {YP:World->Heap->Prop} {d:DefRec}
  (hn:l.most=some n) (hdf:d.params.defaults=[])
  (call:∀(w:World) (s₀ s₁:Shared) (mg mb:Str->Option Value) (fa:Addr) (o:Obj) (pm cd doc:Value) (a:Addr) (vs:List Value) (ns:List Int),
   Ground q loose [] XP w s₀ mg mb s₁.heap->YP w s₁.heap ->
   s₁.heap.get? fa=some o->o.data=.func (docDef d.name d.params d.body d.scope pm cd doc)->s₁.heap.CodeRec cd d.name->mg d.name=some (.ref fa) ->
   s₁.heap.get? a=some {cls:=.type "list",data:=.seq vs.toArray}->IntsAre vs ns->ns.length<=n->s₁.gens=#[] ->
   codeAny (model l.prog w) callerA (.call (.ref fa) ⟨[.ref a],[]⟩) (λr s'=>r=.ok (.ret (.bool true))/\OldK s₁.heap s'.heap/\s'.os=s₁.os/\AllBare s'.gens) s₁) :
  WalkO q loose XP YP l.row.toRowW d [] (λf vs=>PySem.call f vs):=by
 intro w s₀ s₁ mg mb G Y fa o pm cd doc dV kV ho hd hcd hD hmg hg args vals as hpre hlay hrd hwl hlo
 obtain rfl:dV=.none:=Dflts.none hD hdf
 obtain rfl:kV=.none:=Dflts.noKw hD
 obtain⟨a,vs,ns,rfl,rfl,hobj,hints,hlen⟩:=mm hn hpre hwl
 refine enter_call (DZ (call w s₀ s₁ mg mb fa o pm cd doc a vs ns G Y ho (fd_plain hd) hcd hmg hobj hints hlen hg) λr s' hq=>?_)
 obtain⟨rfl,h2,h3,h4⟩:=hq
 exact⟨.inl ⟨.bool true,.bool true,[],rfl,λ_=>rfl,.bool true,mn l _,λ_=>⟨List.Pairwise.nil,λ_ hm=>(nomatch hm)⟩⟩,h2,h3,h4⟩
end Att
namespace L2
open PySem PySem.Spec PyProof.Rows
def FzL (K:PySem.W.Frag) (H:Hp) (a:Addr) (xs:List V):Prop :=
 (∃o,H a=some (.frz o (.lst xs))) \/
  ∃(its:List Value) (n:Nat),K.lookup a=some {cls:=.type "list",data:=.seq its.toArray n}/\xs.length<=sizeLine/\ax xs its
theorem vals_ints:∀{vs:List Value} {ns:List Int},IntsAre vs ns->ax (ns.map V.int) vs
 | _,_,.nil=>.nil
 | _,_,.cons n t h=>.cons ⟨t,rfl⟩ (vals_ints h)
def C4 (H:Hp):Prop:=∀b,H b=none\/∃o xs,H b=some (.frz o (.lst xs))
theorem qp {P:Program} {w:World} {K:PySem.W.Frag} {mg mb:Str->Option Value} {CX:CXT} {k:Nat} {fa a:Addr} {fd:FuncData} {x:Str} {sp:Sp} {s₁:Shared} {vs:List Value} {ns:List Int}
  (KX:K.In s₁.heap) (hns:s₁.heap.Ns mainGlobals mg) (hb:s₁.heap.Ns builtinsNs mb) (hbb:∀x:Str,x≠"__name__"->mb x=bootBuiltins x) (hlim:s₁.heap.NoLimit) (hg:s₁.gens=#[])
  (ha:s₁.heap.get? a=some {cls:=.type "list",data:=.seq vs.toArray}) (hi:IntsAre vs ns) (hl:ns.length<=sizeLine) (hr:Room k callerA)
  (F:∀base:Heap,K.In base->base.Ns mainGlobals mg->FnOk P w K mg base CX k fa fd [x] sp) (hbind:∀(s:Shared) (u:Value),BindsTo s fd ⟨[u],[]⟩ [(x,u)])
  (hsp:∀H:Hp,C4 H->FzL K H a (ns.map V.int)->sp [.ref a] H (λv _=>v=.bl true) λ_ _ _=>False)
  (hCX:∀H e s',CX [] H s₁ (λ_ _ _=>False) e s'->False) :
  codeAny (model P w) callerA (.call (.ref fa) ⟨[.ref a],[]⟩) (λr s'=>r=.ok (.ret (.bool true))/\OldK s₁.heap s'.heap/\s'.os=s₁.os/\AllBare s'.gens) s₁:=by
 have rv:=vals_ints hi
 have lenV:=hi.length
 -- from an abstract heap in which nothing but the script may be tracked
 have core:∀H:Hp,C4 H->FzL K H a (ns.map V.int)->HOk P w H s₁.heap->(∀b,H b≠none->b=a)->(H a≠none->K.lookup a=none) ->
   codeAny (model P w) callerA (.call (.ref fa) ⟨[.ref a],[]⟩) (λr s'=>r=.ok (.ret (.bool true))/\OldK s₁.heap s'.heap/\s'.os=s₁.os/\AllBare s'.gens) s₁:=by
  intro H hO hS hok hA hK
  have base_of:∀{b:Addr} {o:Obj},s₁.heap.get? b=some o->H b=none->(qh s₁.heap H).get? b=some o:=λe n=>qi e n
  have noA:∀{b:Addr} {o:Obj} {es:Array DictEntry} {ep:Nat},s₁.heap.get? b=some o->o.data=.dict es ep->H b=none:=λ{b o es ep} e d=>by
   cases q:H b with
   | none=>rfl
   | some u =>
    have e':b=a:=hA b (by rw[q];simp)
    subst e'
    rw[ha]at e;cases e
    have d':Data.seq vs.toArray _=Data.dict es ep:=d
    cases d'
  have nsK:∀{b:Addr} {m:Str->Option Value},s₁.heap.Ns b m->(qh s₁.heap H).Ns b m:=λ{b m} ⟨o,es,ep,e,d,r⟩=>⟨o,es,ep,base_of e (noA e d),d,r⟩
  have hKb:K.In (qh s₁.heap H):=λb o e=>base_of (KX b o e) (by
   cases q:H b with
   | none=>rfl
   | some u =>
    have e':b=a:=hA b (by rw[q];simp)
    subst e'
    rw[hK (by rw[q];simp)]at e;cases e)
  have hM:Mod K mg (qh s₁.heap H):=⟨hKb,nsK hns,⟨mb,nsK hb,hbb⟩,let ⟨mc,h1,h2⟩:=hlim;⟨mc,nsK h1,h2⟩⟩
  have e0:Env0 P w K mg (qh s₁.heap H) callerA [] s₁ H:=⟨rfl,hM,λb o e=>vr e,Nat.le_of_eq (l6 _ _),trivial,λb hb=>absurd (show b∈([]:List Addr)from hb) (by simp),hok,.of_eq hg⟩
  refine DZ ((F _ hKb (nsK hns)).run callerA [] s₁ H ⟨[.ref a],[]⟩ [.ref a] [.ref a] _ _ hr e0 (hbind s₁ (.ref a)) (.cons rfl .nil) (hsp H hO hS)) λr s' h=>?_
  cases r with
  | error e=>exact(hCX H e s' h).elim
  | ok fl =>
   cases fl with
   | next=>exact False.elim h
   | brk=>exact False.elim h
   | cont=>exact False.elim h
   | ret u =>
    obtain⟨v,H',os,bare,un,hok',r',q⟩:=h
    have q':v=.bl true:=q
    subst q'
    obtain rfl:u=Value.bool true:=r'
    refine⟨rfl,OldK.of_keep λb o e=>?_,os,bare⟩
    cases q:H b with
    | none=>exact un.keep b o e q (by intro z;exact absurd (show b∈([]:List Addr)from z) (by simp)) (by simp)
    | some u =>
     rcases hO b with z | ⟨ob,xs,z⟩
     ·rw[q]at z;cases z
     ·have z2:=un.frzs b ob _ z
      obtain⟨e1,_⟩:=hok b _ z
      obtain⟨e2,_⟩:=hok' b _ z2
      rw[e]at e1;cases e1
      exact e2
 cases hk:K.lookup a with
 | some o =>
  -- the script is one of the module's own objects
  have e:=KX a o hk
  rw[ha]at e
  cases e
  refine core (λ_=>none) (λ_=>.inl rfl) (.inr ⟨vs,_,hk,by rw[BU];exact hl,rv⟩) (λb u z=>by have z':(none:Option HO)=some u:=z;cases z') (λb z=>absurd rfl z) λz=>absurd rfl z
 | none =>
  refine core (λb=>if b=a then some (.frz {cls:=.type "list",data:=.seq vs.toArray} (.lst (ns.map V.int)))else none) (λb=>?_) (.inl ⟨{cls:=.type "list",data:=.seq vs.toArray},if_pos rfl⟩) (λb u z=>?_) (λb z=>?_) λ_=>hk
  ·by_cases hb:b=a
   ·exact .inr ⟨_,_,if_pos hb⟩
   ·exact .inl (if_neg hb)
  ·by_cases hb:b=a
   ·have z':=(if_pos hb).symm.trans z
    cases z'
    subst hb
    exact⟨ha,by rw[BU];exact hl,vs,_,rv,ha⟩
   ·have z':=(if_neg hb).symm.trans z
    cases z'
  ·by_cases hb:b=a
   ·exact hb
   ·exact absurd (if_neg hb) z
abbrev KOf {K:PySem.W.Frag} {h:Heap} (_:K.In h):PySem.W.Frag:=K
theorem wa {l:PySem.W.OpenLaw} {n k:Nat} {q:Program} {loose:List Str} {XP:(Str->Option Value)->Heap->Prop} {YP:World->Heap->Prop} {d:DefRec} {K:Params->PySem.W.Frag} {CX:World->CXT} {sp:World->Sp} {x:Str}
  (hn:l.most=some n) (hn2:n<=sizeLine) (hdf:d.params.defaults=[]) (hr:Room k callerA)
  (hY:∀(w:World) (h:Heap),YP w h->(K w.params).In h)
  (F:∀(w:World) (mg:Str->Option Value) (fa:Addr) (h:Heap),(K w.params).In h->h.Ns mainGlobals mg->mg d.name=some (.ref fa) ->
   ∃fd:FuncData,(∀(s:Shared) (u:Value),BindsTo s fd ⟨[u],[]⟩ [(x,u)]) /\
    ∀base:Heap,(K w.params).In base->base.Ns mainGlobals mg->FnOk l.prog w (K w.params) mg base (CX w) k fa fd [x] (sp w))
  (hsp:∀(w:World) (H:Hp) (a:Addr) (ns:List Int),ns.length<=n->C4 H->FzL (K w.params) H a (ns.map V.int)->sp w [.ref a] H (λv _=>v=.bl true) λ_ _ _=>False)
  (hCX:∀(w:World) (H:Hp) (s:Shared) (e:Value) (s':Shared),CX w [] H s (λ_ _ _=>False) e s'->False) :
  PySem.W.WalkO q loose XP YP l.row.toRowW d [] (λf vs=>PySem.call f vs):=by
 refine Att.jh hn hdf λw s₀ s₁ mg mb fa o pm cd doc a vs ns G Y ho hd hcd hmg hobj hints hlen hg=>?_
 have KX:=hY w _ Y
 obtain⟨fd,hb,hF⟩:=F w mg fa _ KX G.T.g hmg
 exact qp KX G.T.g G.T.b G.T.builtins G.T.nolimit hg hobj hints (BS hlen hn2) hr hF hb (λH hO hS=>hsp w H a ns hlen hO hS) λH e s'=>hCX w H s₁ e s'
def eg (s:Stmt):Arguments:=match s with
 | .FunctionDef _ a _ _ _ _ _ _ _ _=>a
 | _=>{posonlyargs:=[],args:=[],vararg:=none,kwonlyargs:=[],kw_defaults:=[],kwarg:=none,defaults:=[]}
def au (s:Stmt):List Stmt:=match s with
 | .FunctionDef _ _ b _ _ _ _ _ _ _=>b
 | _=>[]
def aa (s:Stmt):Scope:=match s with
 | .FunctionDef _ _ _ _ _ _ sc _ _ _=>sc
 | _=>{kind:=.function,names:=[],isGenerator:=false,isCoroutine:=false}
abbrev CX0:CXT:=λ_ _ _ _ _ _=>False
abbrev E0:XK:=λ_ _ _=>False
theorem C5 {X:Cx}:mi CX0 X E0:=λ_ _ _ _ _ _ _ h=>h.elim
structure Fun (K:PySem.W.Frag) (x qual:Str) (st:Stmt) (f:Addr) (fd:FuncData):Prop where
 ex:∃(oc:Value) (od:Option Addr) (kV doc pm:Value) (an:Option Addr) (cdv ct:Value) (osl:Array (Option Value)),
  fd=PySem.W.fnOf x qual (eg st) (au st) (aa st) .none kV doc pm an cdv ct/\K.lookup f=some ⟨oc,od,.func fd,osl⟩/\PySem.W.codeIn K cdv qual=true
 kp:PySem.W.keepIn K (.ref f)=true
section
variable {P : Program} {w : World} {K : PySem.W.Frag} {mg : Str -> Option Value} {base : Heap}
theorem Fun.ok {x qual:Str} {st:Stmt} {f:Addr} {fd:FuncData} {N ps:List Str} {k:Nat} {sp:Sp} (F:Fun K x qual st f fd) (S:FnScope N ps (aa st)) (len:∀vs H Q E,sp vs H Q E->vs.length=ps.length)
  (hbody:∀(cdv:Value) (A:Around) (outer:List Env) (s:Shared) (H:Hp) (vs:List V) (Q:VK) (E:XK),Room k (A.deeper (envOfC qual (aa st) s.heap.objs.size f cdv))->sp vs H Q E ->
   ∃t,PSs (d8 CX0 P w K mg base N qual (aa st) f cdv A outer s H E).nox (au st) t/\t {nx:=λ_ H'=>Q .non H',rt:=Q} (start N vs) H):FnOk P w K mg base CX0 (k+1) f fd ps sp:=by
 obtain⟨oc,od,kV,doc,pm,an,cdv,ct,osl,rfl,lk,hcd⟩:=F.ex
 refine zd lk hcd S len λA outer s H vs Q E hr hsp=>?_
 obtain⟨t,h,q⟩:=hbody cdv A outer s H vs Q E hr hsp
 exact⟨t,h.nox,q⟩
theorem zj {x qual:Str} {st:Stmt} {f:Addr} {oc:Value} {od an:Option Addr} {osl:Array (Option Value)} {kV doc pm cdv ct:Value} (l:K.lookup f=some ⟨oc,od,.func (PySem.W.fnOf x qual (eg st) (au st) (aa st) .none kV doc pm an cdv ct),osl⟩)
  (c:PySem.W.codeIn K cdv qual=true) (k:PySem.W.keepIn K (.ref f)=true):Fun K x qual st f (PySem.W.fnOf x qual (eg st) (au st) (aa st) .none kV doc pm an cdv ct):=⟨⟨oc,od,kV,doc,pm,an,cdv,ct,osl,rfl,l,c⟩,k⟩
end
theorem ir {n:Nat} (h:n<=1000):n<sizeLine:=Nat.lt_of_le_of_lt h (by decide)
section
variable {X : Cx}
theorem pv (i:Nat) {x:Str} {pos:Pos} (hN:X.N[i]? = some x:=by rfl) (hv:Vis X.env.scope x:=by first | exact Or.inl rfl | exact Or.inr (Or.inl rfl) | exact Or.inr (Or.inr rfl)) (hd:(x==("__debug__":Str))=false:=by decide)
  (hcd:(x==("__classdict__":Str))=false:=by decide):PE X (.Name x pos) (Ek i):=sy hN hv hd hcd
end
end L2
set_option maxHeartbeats 4000000
namespace L2
open PySem PySem.Spec PyProof.Rows
def Fy (h:Heap) (e:Addr) (cls:Value):Prop:=∃oe vs a0,h.get? e=some oe/\oe.cls=cls/\oe.data=.fields vs/\vs[0]? = some a0/\vs[1]? = some Value.none
def C6 (h0:Heap) (H:Hp) (h:Heap) (e:Addr) (cls:Value):Prop:=∃oe vs T oT ts a0,h.get? e=some oe/\(oe.cls=cls/\vs[0]? = some a0)/\oe.data=.fields vs/\vs[1]? = some (.ref T)/\(h0.get? T=none/\H T=none)/\T≠e/\h.get? T=some oT/\oT.data=.fields ts/\ts[3]? = some Value.none
def Fz (h0:Heap) (H:Hp) (h:Heap) (e:Addr) (cls:Value):Prop:=∃oe vs T oT ts a0 fl,h.get? e=some oe/\(oe.cls=cls/\vs[0]? = some a0)/\oe.data=.fields vs/\vs[1]? = some (.ref T)/\(h0.get? T=none/\H T=none)/\T≠e/\h.get? T=some oT/\oT.data=.fields ts/\ts[3]? = some fl
structure Fly (h0:Heap) (H:Hp) (h:Heap) (e:Addr) (cls:Value):Prop where
 new:h0.get? e=none
 free:H e=none
 st:Fy h e cls\/Fz h0 H h e cls
theorem rebase {h base base':Heap}:∀{l:List Env},h.FunFrames base l->(∀L∈frs l,base'.get? L=none)->h.FunFrames base' l
 | [],_,_=>trivial
 | env::r,⟨hk,⟨L,o,hf,hn,ho,hd⟩,hr⟩,hb=>⟨hk,⟨L,o,hf,hb L (by unfold frs;rw[BF,hf];exact AY),ho,hd⟩,rebase hr λL' h'=>hb L' (by unfold frs;rw[BF,hf];exact AV _ h')⟩
theorem cf.ex {P:Program} {w:World} {H:Hp} {h:Heap} {a:Addr} {o:HO} (x:cf P w H h a o):∃u,h.get? a=some u:=by
 cases o with
 | lst xs=>obtain⟨_,_,_,_,e⟩:=x;exact⟨_,e⟩
 | tup xs=>obtain⟨_,_,_,o,e,_⟩:=x;exact⟨_,e⟩
 | dK kvs=>obtain⟨_,_,_,_,o,_,_,e,_⟩:=x;exact⟨_,e⟩
 | dT kvs=>obtain⟨_,_,_,_,o,_,_,e,_⟩:=x;exact⟨_,e⟩
 | set S n=>obtain⟨o,_,_,_,e,_⟩:=x;exact⟨_,e⟩
 | ins C dx fs=>obtain⟨_,_,_,e,_⟩:=x;exact⟨_,e⟩
 | own y=>obtain⟨_,e⟩:=x;exact⟨_,e⟩
 | xd fs=>obtain⟨_,⟨_,_,_,e,_⟩,_⟩:=x;exact⟨_,e⟩
 | rng lo hi=>obtain⟨_,_,_,e⟩:=x;exact⟨_,e⟩
 | frz ob u=>obtain⟨e,_⟩:=x;exact⟨_,e⟩
 | tbl ps=>exact⟨_,(show h.get? a=some _ from x)⟩
 | met f y=>exact⟨_,(show h.get? a=some _ from x)⟩
 | ext φ=>obtain⟨_,⟨_,e⟩,_⟩:=x;exact⟨_,e⟩
theorem ji {M:Model} {A:Around} {E:Value->Shared->Prop} {s:Shared} {base:Heap} {env:Env} {outer:List Env} {L e:Addr} {cls a0 fl:Value} {Q:Unit->Shared->Prop}
  (hfr:A.frames=some (env::outer)) (hl:s.heap.FunFrames base (env::outer)) (hf:env.frame=some L) (ht:s.heap.TracedAtW base e cls a0 fl) (hkb:base.StaysIn s.heap) (hen:base.get? e=none)
  (h:∀h',Heap.LeftW base (env::outer) e cls a0 s.heap h'->Q () {s with heap:=h'}):wpAny M A (leaving env (.ref e)) Q E s:=by
 by_cases hfl:fl=rawInt L
 ·subst hfl
  unfold leaving
  refine AC (wpAny_noteFrame_againW hf ht ?_)
  exact wpAny_setFlight_noneW hkb hl ht λh' k1 k2 k3 k4=>h h' ⟨k1,k2,k3,λb o hb hd=>⟨o.slots,k4 b o hb hd⟩⟩
 ·obtain⟨oe,vs,T,oT,ts,t1,⟨t2,t3⟩,t4,t5,t6,t7,t8,t9,t10⟩:=ht
  subst t2
  unfold leaving noteFrame
  simp![hf]
  refine AC (AC (EL t1 t4 t5 ?_))
  rw[if_pos (show(Value.ref T != Value.none)=true from by simp)]
  refine AC (EL t8 t9 t10 ?_)
  rw[if_neg (show ¬((fl==rawInt L)=true)from by simpa using hfl)]
  refine AC (EE t8 t9 (CA.mp t10).1 ?_)
  have oth:∀b,b≠T->(s.heap.update T (Obj.mapFields (·.setIfInBounds 3 Value.none))).get? b=s.heap.get? b:=λb hb=>BC _ _ (Ne.symm hb)
  have nr:∀b o,s.heap.get? b=some o->(∀vs,o.data≠.fields vs)->b≠T:=λb o hb hnf q=>by
   rw[q,t8]at hb;cases hb;exact hnf ts t9
  refine wpAny_newEntryW hfr (hl.of_keeps λb o hb hnf=>⟨o,(oth b (nr b o hb hnf)).trans hb,rfl⟩) hf ((oth e (Ne.symm t7)).trans t1)
   (λb o hbo=>(oth b λq=>by rw[q,t6]at hbo;cases hbo).trans (hkb b o hbo)) hen t4 (CA.mp t5).1 t3 λh' k=>h h' ?_
  exact⟨k.1,k.2.1,k.2.2.1,λb o hb hnf=>k.2.2.2 b o ((oth b (nr b o hb hnf)).trans hb) hnf⟩
section
variable {X : Cx} {pins : List (Addr × Obj)} {σ : St} {H : Hp} {s : Shared} {e : Addr} {cls : Value}
theorem qq {M:Model} {A:Around} {E:Value->Shared->Prop} {Q:Unit->Shared->Prop} (I:Inv X pins σ H s) (hs:X.stack=X.env::X.outer) (hx:X.ex=[]) (hl:X.env.frame=some X.env.locals) (F:Fly X.s₀.heap H s.heap e cls) (hA:A.frames=some X.stack)
  (q:∀(h':Heap) (Tl:List Addr),(∀T∈Tl,X.s₀.heap.get? T=none/\H T=none)->(∀b o,s.heap.get? b=some o->b≠e->b∉Tl->b∉frs X.stack->h'.get? b=some o) ->
   (∀b o,s.heap.get? b=some o->b∈frs X.stack->∃sl,h'.get? b=some {o with slots:=sl})->C6 X.s₀.heap H h' e cls->Q () {s with heap:=h'}):wpAny M A (leaving X.env (.ref e)) Q E s:=by
 have fin:∀(Tl:List Addr) (a0:Value) (h':Heap),(∀T∈Tl,X.s₀.heap.get? T=none/\H T=none)->(PySem.W.hideAll s.heap (e::Tl++frs X.stack)).LeftW (X.env::X.outer) e cls a0 s.heap h'->Q () {s with heap:=h'}:=by
  rintro Tl a0 h' hT ⟨stay,ff,tr,sl⟩
  refine q h' Tl hT (λb o hb h1 h2 h3=>stay b o (BO _ hb ?_)) (λb o hb h3=>?_) ?_
  ·simp![Db,AJ,DU,not_or]
   exact⟨h1,h2,h3⟩
  ·obtain⟨_,o',ho',hd'⟩:=I.stack.mem h3
   rw[hb]at ho';cases ho'
   exact sl b o hb hd'
  ·obtain⟨oe,vs,T,oT,ts,t1,t2,t3,t4,t5,t6,t7,t8,t9⟩:=tr
   refine⟨oe,vs,T,oT,ts,a0,t1,t2,t3,t4,?_,t6,t7,t8,t9⟩
   cases es:s.heap.get? T with
   | none =>
    refine⟨?_,?_⟩
    ·cases e0:X.s₀.heap.get? T with
     | none=>rfl
     | some o =>
      obtain⟨o',e1⟩:=I.base.there T o e0 (by rw[hx];simp)
      rw[es]at e1;cases e1
    ·cases e0:H T with
     | none=>rfl
     | some u =>
      obtain⟨o',e1⟩:=(I.hok T u e0).ex
      rw[es]at e1;cases e1
   | some o =>
    by_cases hm:T∈e::Tl++frs X.stack
    ·simp![Db,AJ,DU]at hm
     rcases hm with z | z | z
     ·exact absurd z t6
     ·exact hT T z
     ·rw[hs]at z
      obtain⟨_,o',ho',hd'⟩:=ff.mem z
      rw[t7]at ho';cases ho'
      exact absurd t8 (hd' ts)
    ·rw[BO _ es hm]at t5;cases t5
 have hfr:∀(Tl:List Addr),s.heap.FunFrames (PySem.W.hideAll s.heap (e::Tl++frs X.stack)) (X.env::X.outer):=λTl=>by
  have:=I.stack
  rw[hs]at this
  exact rebase this λL hL=>AU _ (AR _ (by rw[hs];exact hL))
 rw[hs]at hA
 rcases F.st with⟨oe,vs,a0,t1,t2,t3,t4,t5⟩ | ⟨oe,vs,T,oT,ts,a0,fl,t1,t2,t3,t4,t5,t6,t7,t8,t9⟩
 ·subst t2
  exact wpAny_leaving_firstW hA (hfr []) hl t1 (λb o h=>BQ _ h) (AU _ (by simp)) t3 t5 t4 λh' LW=>fin [] a0 h' (by simp) LW
 ·refine ji hA (hfr [T]) hl (fl:=fl) ⟨oe,vs,T,oT,ts,t1,t2,t3,t4,AU _ (by simp),t6,t7,t8,t9⟩ (λb o h=>BQ _ h) (AU _ (by simp)) λh' LW=>fin [T] a0 h' (λT' hT'=>?_) LW
  rw[EF.mp hT']
  exact t5
theorem gq {h':Heap} {Tl:List Addr} (I:Inv X pins σ H s) (he:H e=none) (hT:∀T∈Tl,H T=none) (k:∀b o,s.heap.get? b=some o->b≠e->b∉Tl->b∉frs X.stack->h'.get? b=some o):HOk X.prog X.w H h':=λa o ha=>by
 have ne:∀b u,H b=some u->b≠e/\b∉Tl/\b∉frs X.stack:=λb u hb=>⟨λz=>(by rw[z,he]at hb;cases hb),λz=>(by rw[hT b z]at hb;cases hb),λz=>(by rw[I.stkFree b z]at hb;cases hb)⟩
 refine(I.hok a o ha).stay (λb u hb q=>?_) (λ_ q=>q) λ_ _ q=>q
 rcases hb with rfl | hb
 ·exact k b u q (ne b _ ha).1 (ne b _ ha).2.1 (ne b _ ha).2.2
 ·exact k b u q (ne b _ hb).1 (ne b _ hb).2.1 (ne b _ hb).2.2
end
def CX1 (P:Program) (w:World):CXT:=λouter H s E e' s'=>∃e cls H',e'=Value.ref e/\s'.os=s.os/\AllBare s'.gens/\Un (frs outer) [] H H' s.heap s'.heap/\HOk P w H' s'.heap/\s.heap.get? e=none/\H' e=none/\C6 s.heap H' s'.heap e cls/\E cls none H'
def jk (X:Cx) (EX:Value->Hp->Prop):Prop:=∀(pins:List (Addr×Obj)) (σ:St) (H:Hp) (s:Shared) (e:Addr) (cls:Value),Inv X pins σ H s->Fly X.s₀.heap H s.heap e cls->EX cls H->X.xe (.ref e) s
theorem qr {P:Program} {w:World} {K:PySem.W.Frag} {mg:Str->Option Value} {base:Heap} {N:List Str} {qual:Str} {scope:Scope} {f:Addr} {cd:Value} {A:Around} {outer:List Env} {s0:Shared} {H0:Hp} {E:XK} :
  jk (d8 (CX1 P w) P w K mg base N qual scope f cd A outer s0 H0 E) λcls H'=>E cls none H':=by
 intro pins σ H s e cls I F q
 show wpAny _ _ (leaving _ (.ref e)) _ _ s
 refine qq I rfl rfl rfl F I.ok.frames λh' Tl hT k1 k2 ft=>⟨e,cls,H,rfl,I.os,I.bare,?_,gq I F.free (λT h=>(hT T h).2) k1,F.new,F.free,ft,q⟩
 have nL:∀b o,s0.heap.get? b=some o->b≠s0.heap.objs.size:=λb o h=>AS (AE h)
 have stk:∀b,b∈frs (envOfC qual scope s0.heap.objs.size f cd::outer)->b=s0.heap.objs.size\/b∈frs outer:=λb hb=>by
  unfold frs at hb
  rw[BF]at hb
  exact AJ.mp hb
 have keep:∀b o o',s0.heap.get? b=some o->b∉frs outer->s.heap.get? b=some o'->h'.get? b=some o':=λb o o' h0 hb h1=>by
  refine k1 b o' h1 (λz=>?_) (λz=>?_) λz=>?_
  ·have hn:s0.heap.get? e=none:=F.new
   rw[z,hn]at h0;cases h0
  ·have hn:s0.heap.get? b=none:=(hT b z).1
   rw[hn]at h0;cases h0
  ·rcases stk b z with z | z
   ·exact nL b o h0 z
   ·exact hb z
 have up:∀b,b∈frs outer->b∈frs (d8 (CX1 P w) P w K mg base N qual scope f cd A outer s0 H0 E).stack:=λb hb=>by
  show b∈frs (_::outer)
  unfold frs
  rw[BF]
  exact AV _ hb
 refine⟨λb o h n hb hx=>keep b o o h hb (I.base.keep b o h n hb hx),λb o h n hb hx=>?_,I.base.free,λb o h hx=>?_,I.base.tups,I.base.frzs,I.base.tbls⟩
 ·obtain⟨sl,e1⟩:=I.base.slot b o h n hb hx
  obtain⟨sl',e2⟩:=k2 b _ e1 (up b hb)
  exact⟨sl',e2⟩
 ·obtain⟨o',e1⟩:=I.base.there b o h hx
  by_cases hb:b∈frs outer
  ·obtain⟨sl',e2⟩:=k2 b _ e1 (up b hb)
   exact⟨_,e2⟩
  ·exact⟨o',keep b o o' h hb e1⟩
abbrev je:String:="ValueError.__new__"
abbrev h9:List Value:=[.type "ValueError",.type "Exception",.type "BaseException",.type "object"]
def F0 (h:Heap) (C:Addr) (N:Addr) (bm:List Value) (o:Obj):Prop :=
 ∃nm q bs hdct sn sub ab col dd k0 k1 k2 k3 k5,o=excClassObj nm q C N bs bm hdct sn sub ab col dd k0 k1 k2 k3 k5 je/\h.get? C=some o/\OwnTail h h9 bm/\∃mN,h.Ns N mN/\mN "__init__"=none
theorem wb {K:PySem.W.Frag} {h:Heap} {C:Addr} (k:K.In h) (q:PySem.W.excIn K C h9 je=true):∃N bm o,F0 h C N bm o:=by
 unfold PySem.W.excIn at q
 split at q
 ·next dd cd sl ho =>
  split at q
  ·next C1 bm k0 k1 k2 k3 n k5 hm hs =>
   simp![AK,beq_iff_eq,DL]at q
   obtain⟨⟨⟨⟨⟨e1,e2⟩,e3⟩,e4⟩,e5⟩,e6⟩:=q
   subst e1;subst e2
   obtain⟨l⟩:=sl
   obtain⟨nm,bs,mro,ns,qn,hd,sn,sub,ab,col,del⟩:=cd
   dsimp only at hm e3 e5 e6 hs
   subst hm;subst e3;subst hs
   exact⟨ns,bm,_,nm,qn,bs,hd,sn,sub,ab,col,dd,k0,k1,k2,k3,k5,rfl,k _ _ ho,FM k e4,_,.of_isNs (EG k e5),ER k e5 e6⟩
  ·cases q
 ·cases q
section
variable {X : Cx} {pins : List (Addr × Obj)} {σ : St} {H H' : Hp} {s : Shared} {e : Addr} {cls : Value}
theorem Inv.old (I:Inv X pins σ H s) (hx:X.ex=[]) {b:Addr} (n:s.heap.get? b=none):X.s₀.heap.get? b=none:=by
 cases e0:X.s₀.heap.get? b with
 | none=>rfl
 | some o =>
  obtain⟨o',e1⟩:=I.base.there b o e0 (by rw[hx];simp)
  rw[n]at e1;cases e1
theorem HOk.none {P:Program} {w:World} {h:Heap} {b:Addr} (k:HOk P w H h) (n:h.get? b=none):H b=none:=by
 cases e0:H b with
 | none=>rfl
 | some u =>
  obtain⟨o',e1⟩:=(k b u e0).ex
  rw[n]at e1;cases e1
theorem qt {EX:Value->Hp->Prop} {x:Str} {C:Addr} {a:Expr} {es:List Expr} {ta:TA} {np cpos pos:Pos} (W:jk X EX) (hx:X.ex=[]) (hc:X.calm=true) (hq:PySem.W.excIn X.K C h9 je=true) (hg:Gl X x) (hm:X.mg x=some (.ref C))
  (ha:PA X (a::es) ta) (hdb:(x==("__debug__":Str))=false:=by decide) (he:starEach (a::es) X.env=(false,eval a X.env)::starEach es X.env:=by rfl) (hpl:(backTo cpos (starEach es X.env)).any (·.1)=false:=by rfl) :
  PS X (.Raise (some (.Call (.Name x np) (a::es) [] cpos)) none pos) (λ_ σ H=>ta σ H λvs H1=>vs.length<=sizeLine/\EX (.ref C) H1):=by
 intro pins s σ H D I h
 obtain⟨N,bm,o,nm,q,bs,hdct,sn,sub,ab,col,dd,k0,k1,k2,k3,k5,ho,hC,T,mN,hN,hni⟩:=wb I.mod.kin hq
 subst ho
 have hpl':(backTo cpos (starEach (a::es) X.env)).any (·.1)=false:=by
  rw[he]
  show(false || (backTo cpos (starEach es X.env)).any (·.1))=false
  rw[hpl];rfl
 refine wpAny_Raise_call_subT (C:=C) (nm:=nm) (q:=q) (N:=N) (bs:=bs) (bm:=bm) (hdct:=hdct) (sn:=sn) (sub:=sub) (ab:=ab) (col:=col) (dd:=dd) (k0:=k0) (k1:=k1) (k2:=k2) (k3:=k3) (k5:=k5) AX (mN:=mN)
  (T.hasType AX.hasBase) (I.ok.hd hc) hpl' hni (bw I hg hm ⟨rfl,?_⟩ hdb)
 have ga:=ha cpos pins s σ H _ I h
 rw[he]at ga ⊢
 refine DT (thn ga λus s1 ⟨vs,H1,I1,r,hv,hE⟩=>⟨rfl,by rw[<-r.length];exact hv,I1.bk _ _ hC,hN.keeps I1.bk,T.keeps I1.bk,λh' e mk=>?_⟩)
 have I2:Inv X pins σ H1 {s1 with heap:=h'}:=I1.kept (t':=s1.toks) mk.keeps
 obtain⟨t,t1,_,_⟩:=mk.there
 exact W pins σ H1 _ e (.ref C) I2 ⟨I1.old hx mk.new,I1.hok.none mk.new,.inl ⟨_,_,_,t1,rfl,rfl,rfl,rfl⟩⟩ hE
structure Fl (X:Cx) (H0:Hp) (s0:Shared) (H':Hp) (e:Addr) (cls:Value) (s:Shared):Prop where
 os:s.os=s0.os
 bare:AllBare s.gens
 un:Un (frs X.stack) [] H0 H' s0.heap s.heap
 hok:HOk X.prog X.w H' s.heap
 new:s0.heap.get? e=none
 free:H' e=none
 fly:C6 s0.heap H' s.heap e cls
theorem C7 {E:XK} {ev:Value} {s0:Shared} (h:CX1 X.prog X.w X.stack H s0 E ev s):∃e cls H',ev=.ref e/\Fl X H s0 H' e cls s/\E cls none H':=by
 obtain⟨e,cls,H',a1,a2,a3,a4,a5,a6,a7,a8,a9⟩:=h
 exact⟨e,cls,H',a1,⟨a2,a3,a4,a5,a6,a7,a8⟩,a9⟩
section
variable {H0 : Hp} {s0 : Shared}
theorem Fl.inv (I:Inv X pins σ H0 s0) (F:Fl X H0 s0 H' e cls s):Inv X pins σ H' s:=I.call' F.os F.un F.hok F.bare (ch:=[]) (λ_ z=>absurd z (by simp))
theorem Fl.next {h':Heap} {a0:Value} {T:Addr} (I:Inv X pins σ H0 s0) (F:Fl X H0 s0 H' e cls s) (hT0:s0.heap.get? T=none) (hT1:H' T=none) (st:(PySem.W.hideAll s.heap (e::T::frs X.stack)).StaysIn h')
  (ff:h'.FunFrames (PySem.W.hideAll s.heap (e::T::frs X.stack)) X.stack) (tr:h'.TracedW (PySem.W.hideAll s.heap (e::T::frs X.stack)) e cls a0) (up:s.heap.UpToSlots h'):Fl X H0 s0 H' e cls {s with heap:=h'}:=by
 have k1:∀b o,s.heap.get? b=some o->b≠e->b∉[T]->b∉frs X.stack->h'.get? b=some o:=λb o hb h1 h2 h3=>st b o (BO _ hb (by
  simp![AJ,not_or]
  exact⟨h1,by simpa using h2,h3⟩))
 have J:=F.inv I
 have k2:∀b o,s.heap.get? b=some o->b∈frs X.stack->∃sl,h'.get? b=some {o with slots:=sl}:=λb o hb h3=>by
  obtain⟨_,o',ho',hd'⟩:=J.stack.mem h3
  rw[hb]at ho';cases ho'
  exact up b o hb hd'
 have ne:∀b o,s0.heap.get? b=some o->b≠e/\b∉[T]:=λb o hb=>⟨λz=>(by rw[z,F.new]at hb;cases hb),λz=>(by rw[EF.mp z,hT0]at hb;cases hb)⟩
 refine⟨F.os,F.bare,⟨λb o hb n hn hx=>?_,λb o hb n hn hx=>?_,F.un.free,λb o hb hx=>?_,F.un.tups,F.un.frzs,F.un.tbls⟩,?_,F.new,F.free,?_⟩
 ·exact k1 b o (F.un.keep b o hb n hn hx) (ne b o hb).1 (ne b o hb).2 hn
 ·obtain⟨sl,e1⟩:=F.un.slot b o hb n hn hx
  obtain⟨sl',e2⟩:=k2 b _ e1 hn
  exact⟨sl',e2⟩
 ·obtain⟨o',e1⟩:=F.un.there b o hb hx
  by_cases hn:b∈frs X.stack
  ·obtain⟨sl',e2⟩:=k2 b _ e1 hn
   exact⟨_,e2⟩
  ·exact⟨o',k1 b o' e1 (ne b o hb).1 (ne b o hb).2 hn⟩
 ·exact gq J F.free (λb hb=>by rw[EF.mp hb];exact hT1) k1
 ·obtain⟨oe,vs,T',oT,ts,t1,t2,t3,t4,t5,t6,t7,t8,t9⟩:=tr
  refine⟨oe,vs,T',oT,ts,a0,t1,t2,t3,t4,?_,t6,t7,t8,t9⟩
  cases es:s.heap.get? T' with
  | none =>
   refine⟨?_,F.hok.none es⟩
   cases e0:s0.heap.get? T' with
   | none=>rfl
   | some o =>
    obtain⟨o',e1⟩:=F.un.there T' o e0 (by simp)
    rw[es]at e1;cases e1
  | some o =>
   by_cases hm:T'∈e::T::frs X.stack
   ·simp![AJ]at hm
    rcases hm with z | z | z
    ·exact absurd z t6
    ·subst z;exact⟨hT0,hT1⟩
    ·obtain⟨_,o',ho',hd'⟩:=ff.mem z
     rw[t7]at ho';cases ho'
     exact absurd t8 (hd' ts)
   ·rw[BO _ es hm]at t5;cases t5
theorem Fl.frm (I:Inv X pins σ H0 s0) (F:Fl X H0 s0 H' e cls s) {T:Addr}:s.heap.FunFrames (PySem.W.hideAll s.heap (e::T::frs X.stack)) X.stack :=
 rebase (F.inv I).stack λL hL=>AU _ (by simp[hL])
theorem Fl.note {M:Model} {A:Around} {E:Value->Shared->Prop} {Q:Shared->Prop} (I:Inv X pins σ H0 s0) (F:Fl X H0 s0 H' e cls s) (hs:X.stack=X.env::X.outer) (hl:X.env.frame=some X.env.locals) (hA:A.frames=some X.stack)
  (q:∀h',Fl X H0 s0 H' e cls {s with heap:=h'}->Q {s with heap:=h'}):wpAny M A (noteFrame (.ref e) X.env) (λ_ s2=>wpAny M A (setFlight (.ref e) none) (λ_ s3=>Q s3) E s2) E s:=by
 obtain⟨oe,vs,T,oT,ts,a0,t1,t2,t3,t4,t5,t6,t7,t8,t9⟩:=F.fly
 rw[hs]at hA
 have B:=F.frm I (T:=T)
 have hn:∀b,b=e\/b=T->(PySem.W.hideAll s.heap (e::T::frs X.stack)).get? b=none:=λb z=>AU _ (by rcases z with z | z<;>simp[z])
 refine wpAny_looks_onW (base:=PySem.W.hideAll s.heap (e::T::frs X.stack)) (cls:=cls) (a0:=a0) hA hl ⟨λb o h=>BQ _ h,hn e (.inl rfl),by rw[<-hs];exact B,oe,vs,T,oT,ts,t1,t2,t3,t4,hn T (.inr rfl),t6,t7,t8,t9⟩ λh1 g1 u1=>?_
 refine wpAny_landsW g1 λh2 g2 u2=>?_
 obtain⟨f1,f2,f3,f4⟩:=g2
 rw[<-hs]at f3
 exact q h2 (F.next I t5.1 t5.2 f1 f3 f4 (u1.trans u2))
theorem Fl.set {M:Model} {A:Around} {E:Value->Shared->Prop} {Q:Shared->Prop} (I:Inv X pins σ H0 s0) (F:Fl X H0 s0 H' e cls s)
  (q:∀h',Fl X H0 s0 H' e cls {s with heap:=h'}->Q {s with heap:=h'}):wpAny M A (setFlight (.ref e) none) (λ_ s3=>Q s3) E s:=by
 obtain⟨oe,vs,T,oT,ts,a0,t1,t2,t3,t4,t5,t6,t7,t8,t9⟩:=F.fly
 have hn:∀b,b=e\/b=T->(PySem.W.hideAll s.heap (e::T::frs X.stack)).get? b=none:=λb z=>AU _ (by rcases z with z | z<;>simp[z])
 exact wpAny_setFlight_noneW (base:=PySem.W.hideAll s.heap (e::T::frs X.stack)) (l:=X.stack) (cls:=cls) (a0:=a0) (λb o h=>BQ _ h) (F.frm I) ⟨oe,vs,T,oT,ts,t1,t2,t3,t4,hn T (.inr rfl),t6,t7,t8,t9⟩
  λh' k1 k2 k3 k4=>q h' (F.next I t5.1 t5.2 k1 k2 k3 λb o hb hd=>⟨o.slots,k4 b o hb hd⟩)
def B7 (e:Addr) (cls:Value):HO:=.ext λh=>∃o vs,h.get? e=some o/\o.cls=cls/\o.data=.fields vs
theorem Fl.track (I:Inv X pins σ H0 s0) (F:Fl X H0 s0 H' e cls s):Inv X pins σ (upd H' e (B7 e cls)) s:=by
 obtain⟨oe,vs,T,oT,ts,a0,t1,t2,t3,_⟩:=F.fly
 have ne:∀b o,s0.heap.get? b=some o->b≠e:=λb o hb z=>by rw[z,F.new]at hb;cases hb
 refine I.call' F.os ⟨F.un.keep,F.un.slot,λb o hb n hx=>?_,F.un.there,λb xs hb=>?_,λb o u hb=>?_,λb ps hb=>?_⟩ (λb u hb=>?_) F.bare (ch:=[]) (λ_ z=>absurd z (by simp))
 ·rw[ah (ne b o hb)];exact F.un.free b o hb n hx
 ·rw[ah (ae (F.un.tups b xs hb) F.free)];exact F.un.tups b xs hb
 ·rw[ah (ae (F.un.frzs b o u hb) F.free)];exact F.un.frzs b o u hb
 ·obtain⟨m,hm⟩:=F.un.tbls b ps hb
  exact⟨m,by rw[ah (ae hm F.free)];exact hm⟩
 ·by_cases z:b=e
  ·subst z
   rw[bb]at hb;cases hb
   exact⟨⟨oe,vs,t1,t2.1,t3⟩,⟨oe,t1⟩,λh1 h2 ⟨o,vs,e1,r⟩ k=>⟨o,vs,k o e1,r⟩⟩
  ·rw[ah z]at hb
   exact(F.hok b u hb).stay (λc v _ q=>q) (λc q=>by rw[ah (ae q F.free)];exact q) λc xs q=>by rw[ah (ae q F.free)];exact q
end
theorem mq {M:Model} {A:Around} {E:Value->Shared->Prop} {i:Nat} {x:Str} {Q:Unit->Shared->Prop} {pos:Pos} (I:Inv X pins σ H s) (hN:X.N.Nodup) (hi:X.N[i]? = some x) (hk:X.env.scope.names.lookup x=some .local)
  (h:∀s',Inv X pins (σ.set i none) H s'->Q () s'):wpAny M A (do bindName X.env x .none;unbindBehindTheSuite X.env x pos) Q E s:=by
 obtain⟨m,hn,hl⟩:=id I.loc
 have hcls:(X.env.scope.kind==.class || (X.env.scope.kind==.module&&X.env.locals != X.env.globals))=false:=by rw[I.ok.kind];rfl
 have hiσ:i<σ.length:=by rw[I.len];exact(AI.mp hi).1
 obtain⟨oL,_,_,hoL,_⟩:=id hn
 refine wpAny_nameGoes_keeps hk hn hcls λh' v hn' hs=>?_
 have far:∀b o,X.s₀.heap.get? b=some o->b≠X.env.locals:=λb o e=>AS (AH (AE e) I.ok.above)
 refine h _ ⟨I.ok,I.os,I.bare,⟨λb o e n hb hx=>(hs.2 b (far b o e)).trans (I.base.keep b o e n hb hx),λb o e n hb hx=>?_,I.base.free,λb o e hx=>?_,I.base.tups,I.base.frzs,I.base.tbls⟩,⟨_,hn',λj y v' e1 e2 e3=>?_⟩,λy c e=>?_,I.free,I.freeC,λp hp=>?_,λb ob e=>?_,by simpa using I.len⟩
 ·obtain⟨sl,e1⟩:=I.base.slot b o e n hb hx
  exact⟨sl,(hs.2 b (far b o e)).trans e1⟩
 ·obtain⟨o',e1⟩:=I.base.there b o e hx
  exact⟨o',(hs.2 b (far b o e)).trans e1⟩
 ·by_cases hj:j=i
  ·subst hj
   rw[AT hiσ]at e2
   cases e2
  ·rw[AL (Ne.symm hj)]at e2
   obtain⟨u',r',q⟩:=hl j y v' e1 e2 e3
   refine⟨u',r',?_⟩
   rcases q with⟨k,e⟩ | ⟨k,c,e,z⟩
   ·have ny:y≠x:=λe=>hj (gi hN e1 (e ▸ hi))
    exact .inl ⟨k,by simp[ny,e]⟩
   ·exact .inr ⟨k,c,e,z.sameBut hs (I.cne y c e)⟩
 ·obtain⟨w',z⟩:=I.cell y c e
  exact⟨w',z.sameBut hs (I.cne y c e)⟩
 ·obtain⟨e,n,ne,nf,d⟩:=I.pin p hp
  exact⟨(hs.2 p.1 ne).trans e,n,ne,nf,d⟩
 ·refine(I.hok b ob e).stay (λc w' hc q=>(hs.2 c ?_).trans q) (λ_ q=>q) λ_ _ q=>q
  rintro rfl
  rcases hc with z | hc
  ·rw[<-z,I.free]at e;cases e
  ·rw[I.free]at hc;cases hc
abbrev Cx.mark (X:Cx) (e:Value):Cx:={X with A:=X.A.mark (some e),calm:=false,xe:=λ_ _=>False}
theorem Inv.mark (I:Inv X pins σ H s) (e:Value):Inv (X.mark e) pins σ H s :=
 ⟨⟨I.ok.mod,I.ok.kind,I.ok.glob,I.ok.blt,I.ok.above,I.ok.inj,I.ok.has,I.ok.cab,λz=>(by cases z),I.ok.frames,I.ok.stk,I.ok.exf,I.ok.bs,I.ok.bsz,I.ok.noex,I.ok.exfs,I.ok.funs,I.ok.frf⟩,I.os,I.bare,I.base,I.loc,I.cell,I.free,I.freeC,I.pin,I.hok,I.len⟩
theorem Inv.unmark {e:Value} (k:X.Ok) (I:Inv (X.mark e) pins σ H s):Inv X pins σ H s:=⟨k,I.os,I.bare,I.base,I.loc,I.cell,I.free,I.freeC,I.pin,I.hok,I.len⟩
section
variable {k : Nat} {f : Addr} {fd : FuncData} {ps : List Str} {sp : Sp} {E : XK} {x : Str} {a : Expr} {es : List Expr} {ta : TA} {p cpos pos : Pos}
theorem C8 {Q:VK} (F:FnOk X.prog X.w X.K X.mg X.base (CX1 X.prog X.w) k f fd ps sp) (hr:Room k X.A) (hg:Gl X x) (hm:X.mg x=some (.ref f)) (hk:PySem.W.keepIn X.K (.ref f)=true) (hb:Binds X.K fd ps [])
  (ha:PA X.nox (a::es) ta) (hdb:(x==("__debug__":Str))=false) (he:starEach (a::es) X.env=(false,eval a X.env)::starEach es X.env) (hpl:(backTo cpos (starEach es X.env)).any (·.1)=false)
  (I:Inv X pins σ H s) (h:ta σ H λvs H1=>sp vs H1 Q E) :
  wpAny (model X.prog X.w) X.A (eval (.Call (.Name x p) (a::es) [] cpos) X.env) (EP X pins σ Q) (λev s'=>∃H1 s1 e cls H',Inv X pins σ H1 s1/\ev=.ref e/\Fl X H1 s1 H' e cls s'/\E cls none H') s:=by
 refine DD (bw I hg hm ?_ hdb)
 refine EC (h₀:=X.base) I.ok.mod.kin hk (AN (ha cpos pins s σ H _ (I.wish _) h) (λus s1 ⟨vs,H1,I1,r,q⟩=>⟨I1.kIn,?_⟩) λ_ _ z=>False.elim z) he hpl
 have J:=I1.unwish
 have hl:us.length=ps.length:=by rw[<-r.length];exact F.len _ _ _ _ q
 have hb':=hb s1 us I1.kIn (by rw[CD];exact hl)
 rw[CD]at hb'
 refine FA (DZ (F.run X.A X.stack s1 H1 ⟨us,[]⟩ us vs Q E hr J.env0 hb' r q) λr s' hq=>?_)
 cases r with
 | error ev =>
  obtain⟨e,cls,H',z1,z2,z3⟩:=C7 hq
  exact⟨H1,s1,e,cls,H',J,z1,z2,z3⟩
 | ok fl =>
  cases fl with
  | ret u=>exact J.after hq
  | next=>exact False.elim hq
  | brk=>exact False.elim hq
  | cont=>exact False.elim hq
end
end
theorem wc {K:PySem.W.Frag} {h:Heap} {C:Addr} {o:Obj} {cd:ClassData} {base:Value} (k:K.In h) (e:PySem.W.subIn K (.ref C) base=some true) (hC:h.get? C=some o) (hd:o.data=.cls cd):cd.mro.contains base=true:=by
 have e:PySem.W.mroIn K C base=some true:=e
 unfold PySem.W.mroIn PySem.W.clsIn at e
 split at e
 ·next ho =>
  have z:=k _ _ ho
  rw[hC]at z
  cases z
  cases hd
  have e2:¬cd.mro=[]/\base∈cd.mro:=by simpa using e
  simpa using e2.2
 ·simp at e
def ti (K:PySem.W.Frag) (C:Addr):Bool:=match K.lookup C with
 | some ⟨.type "type",_,.cls cd,sl⟩=>(match cd.mro,sl.toList with
  | .ref C'::bm,[_,_,_,_,some (.builtin n),_]=>C'==C&&n==je&&!cd.hasDel&&PySem.W.tailIn K h9 bm
  | _,_=>false)
 | _=>false
theorem wd {K:PySem.W.Frag} {C:Addr} (q:PySem.W.excIn K C h9 je=true):ti K C=true:=by
 unfold PySem.W.excIn at q
 unfold ti
 split at q
 ·next dd cd sl ho =>
  split at q
  ·next C1 bm k0 k1 k2 k3 n k5 hm hs =>
   simp![ho,hm,hs]
   simp![AK]at q ⊢
   exact⟨⟨⟨q.1.1.1.1.1,q.1.1.1.1.2⟩,q.1.1.1.2⟩,q.1.1.2⟩
  ·cases q
 ·cases q
def C9 (h:Heap) (C:Addr) (bm:List Value) (o:Obj):Prop :=
 ∃N nm q bs hdct sn sub ab col dd k0 k1 k2 k3 k5,o=excClassObj nm q C N bs bm hdct sn sub ab col dd k0 k1 k2 k3 k5 je/\h.get? C=some o/\OwnTail h h9 bm
theorem mr {K:PySem.W.Frag} {h:Heap} {C:Addr} (k:K.In h) (q:ti K C=true):∃bm o,C9 h C bm o:=by
 unfold ti at q
 split at q
 ·next dd cd sl ho =>
  split at q
  ·next C1 bm k0 k1 k2 k3 n k5 hm hs =>
   simp![AK,beq_iff_eq,DL]at q
   obtain⟨⟨⟨e1,e2⟩,e3⟩,e4⟩:=q
   subst e1;subst e2
   obtain⟨l⟩:=sl
   obtain⟨nm,bs,mro,ns,qn,hd,sn,sub,ab,col,del⟩:=cd
   dsimp only at hm e3 hs
   subst hm;subst e3;subst hs
   exact⟨bm,_,ns,nm,qn,bs,hd,sn,sub,ab,col,dd,k0,k1,k2,k3,k5,rfl,k _ _ ho,FM k e4⟩
  ·cases q
 ·cases q
theorem mu {M:Model} {A:Around} {E:Value->Shared->Prop} {s:Shared} {e C L:Addr} {oe:Obj} {bC bL:List Value} {oC oL:Obj} {Q:Bool->Shared->Prop} (hC:C9 s.heap C bC oC) (hL:C9 s.heap L bL oL) (hm:(Value.ref C::bC).contains (.ref L)=true)
  (he:s.heap.get? e=some oe) (hcls:oe.cls=.ref C) (hq:Q true s):wpAny M A (excMatches (.ref e) (.ref L)) Q E s:=by
 obtain⟨h,g,d,t,os⟩:=s
 obtain⟨NC,nm,q,bs,hdct,sn,sub,ab,col,dd,k0,k1,k2,k3,k5,ho,hCo,_⟩:=hC
 obtain⟨NL,nm',q',bs',hdct',sn',sub',ab',col',dd',k0',k1',k2',k3',k5',ho',hLo,T⟩:=hL
 subst ho;subst ho'
 have hB:(Value.ref L::bL).contains (.type "BaseException")=true:=by rw[CB,T.hasType AX.hasBase,FC]
 have f:=tc_notTuple
 unfold excMatches
 repeat (first | (with_reducible refine AF he ?_;rw[hcls]) | with_reducible refine AF hLo ?_ | (with_reducible refine BP hLo ?_;rw[hB]) | (with_reducible refine BP hCo ?_;rw[hm]) | wp_step)
 exact hq
section
variable {X : Cx} {k : Nat} {f L : Addr} {fd : FuncData} {ps : List Str} {sp : Sp} {x y n : Str} {a : Expr} {es : List Expr} {ta : TA} {p cpos epos yp hp pos : Pos} {ni : Nat} {b0 : Stmt} {body : List Stmt} {tb : TS}
def Under (K:PySem.W.Frag) (C L:Addr):Prop:=ti K C=true/\ti K L=true/\PySem.W.subIn K (.ref C) (.ref L)=some true
theorem we (hst:X.stack=X.env::X.outer) (hfr:X.env.frame=some X.env.locals) (F:FnOk X.prog X.w X.K X.mg X.base (CX1 X.prog X.w) k f fd ps sp) (hr:Room k X.A) (hg:Gl X x) (hm:X.mg x=some (.ref f)) (hk:PySem.W.keepIn X.K (.ref f)=true) (hb:Binds X.K fd ps [])
  (ha:PA X.nox (a::es) ta) (hgy:Gl X y) (hmy:X.mg y=some (.ref L)) (hN:X.N.Nodup) (hni:X.N[ni]? = some n) (hkn:X.env.scope.names.lookup n=some .local) (hbody:∀e,PSs (X.mark e) (b0::body) tb)
  (hdb:(x==("__debug__":Str))=false:=by decide) (he:starEach (a::es) X.env=(false,eval a X.env)::starEach es X.env:=by rfl) (hpl:(backTo cpos (starEach es X.env)).any (·.1)=false:=by rfl)
  (hs:swapsWith (.Call (.Name x p) (a::es) [] cpos) none epos.line X.env=pure false:=by rfl) (hdy:(y==("__debug__":Str))=false:=by decide) :
  PS X (.Try [.Expr (.Call (.Name x p) (a::es) [] cpos) epos] [.ExceptHandler (some (.Name y yp)) (some n) (b0::body) hp] [] [] pos)
   (λD σ H=>ta σ H λvs H1=>sp vs H1 (λ_ H2=>D.nx σ H2) λcls _ H2=>(∃C,cls=.ref C/\Under X.K C L) /\
    ∀e,H2 e=none->tb {nx:=λσ' H'=>D.nx (σ'.set ni none) H',rt:=λ_ _=>False} (σ.set ni (some (.ref e))) (upd H2 e (B7 e cls))):=by
 intro pins s σ H D I h
 refine wpAny_Try_except ?_
 refine Da (wpAny_Expr_any (AN (C8 F hr hg hm hk hb ha hdb he hpl I h) (λv s1 ⟨y,H1,I1,r1,q1⟩=>CN (CN ⟨σ,H1,I1,q1⟩)) λev s' ⟨H1,s1,e,cls,H',J,z1,z2,z3⟩=>?_) I.quiet hs)
 subst z1
 obtain⟨⟨C,rfl,hC,hL,hCL⟩,q⟩:=z3
 refine z2.note J hst hfr I.ok.frames λh1 F1=>?_
 have J1:=F1.inv J
 refine wpAny_handleBy_cons (codeAny_handlers_test (bw (X:=X.mark (.ref e)) (J1.mark (.ref e)) hgy hmy ?_ hdy)) (by intro q;cases q)
 obtain⟨bC,oC,xC⟩:=mr J1.kIn hC
 obtain⟨bL,oL,xL⟩:=mr J1.kIn hL
 obtain⟨oe,vs,T,oT,ts,a0,t1,t2,_⟩:=F1.fly
 have hm2:(Value.ref C::bC).contains (.ref L)=true:=by
  obtain⟨_,nm,q,bs,hdct,sn,sub,ab,col,dd,k0,k1,k2,k3,k5,ho,hCo,_⟩:=id xC
  exact wc J1.kIn hCL hCo (by rw[ho])
 refine mu xC xL hm2 t1 t2.1 ?_
 refine codeAny_handlers_suite_as ?_
 refine F1.set J λh2 F2=>?_
 refine d0 (v:=.ref e) (F2.track J) hN hni (.inl hkn) (show RelV (.ref e) (.ref e)from rfl) (λs3 I3=>?_) (.inr hkn)
 refine AN (hbody (.ref e) pins s3 _ _ _ (I3.mark (.ref e)) (q e F2.free)) (λfl s4 z=>?_) λ_ _ z=>False.elim z
 cases fl with
 | next =>
  obtain⟨σ',H4,I4,q4⟩:=z
  exact mq (I4.unmark I.ok) hN hni hkn λs5 I5=>⟨_,_,I5,q4⟩
 | brk=>obtain⟨_,_,_,z⟩:=z;exact z.elim
 | cont=>obtain⟨_,_,_,z⟩:=z;exact z.elim
 | ret u=>obtain⟨_,_,_,_,_,z⟩:=z;exact z.elim
end
open PySem PySem.Spec PyProof.Rows PySem.W
structure XAt (K:Frag) (C:Addr):Prop where
 ga:findIn K (.ref C) "__getattribute__"=some (some (.builtin "BaseException.__getattribute__"))
 gh:findIn K (.ref C) "__getattr__"=some none
 cl:findIn K (.ref C) "__class__"=some (some (.builtin "object.__class__"))
 mo:mroIn K C (.type "object")=some true
 mb:mroIn K C (.type "BaseException")=some true
section
variable {prog : Program} {w : World} {A : Around} {E : Value -> Shared -> Prop} {h : Heap} {g : Array GenState} {d : Drawn} {t : Nat} {os : OsState} {e C : Addr} {o : Obj} {K : Frag}
theorem zk {R:Result->Shared->Prop} (X:K.In h) (k:XAt K C) (hx:h.get? e=some o) (hc:o.cls=.ref C) (hq:R (.ok (.ret (.ref C))) ⟨h,g,d,t,os⟩) :
  codeAny (model prog w) A (.call (.builtin "getset_descriptor.__get__") ⟨[.builtin "object.__class__",.ref e,.ref C],[]⟩) R ⟨h,g,d,t,os⟩:=by
 have tg:(⟨h,g,d,t,os⟩:Shared).TypeIs (.builtin "object.__class__") "getset_descriptor":=DO
 have L1:Looks (model prog w) h (isSubtype (.ref C) (.type (".".intercalate ("object.__class__".cutAt '.').dropLast))) true:=by rw[F.owner_object_class];exact looks_mroIn X k.mo
 refine CZ F.slot_gs_get.plain F.entry_gs_get (F.slot_gs_get.check _ _ _ _ _ _ _ _ tg (F.args_gs_get _ _ _) ?_)
 repeat (any_goals (first | assumption | (with_reducible refine AF hx ?_;rw[hc]) | (with_reducible refine L1.at ?_) | wp_step))
 refine⟨EH _ (by decide +kernel),codeAny_builtin F.entry_object_class ?_⟩
 repeat (any_goals (first | assumption | (with_reducible refine AF hx ?_;rw[hc]) | wp_step))
theorem qu {tk:Tok} {Q:Fin->Shared->Prop} (X:K.In h) (k:XAt K C) (hx:h.get? e=some o) (hc:o.cls=.ref C) (hq:Q (.done (.ret (.ref C))) ⟨h,g,d,t,os⟩) :
  wpAny (model prog w) A (Builtin.«object.__getattribute__» ⟨[.ref e,.str "__class__" tk],[]⟩) Q E ⟨h,g,d,t,os⟩:=by
 have tg:(⟨h,g,d,t,os⟩:Shared).TypeIs (.builtin "object.__class__") "getset_descriptor":=DO
 have f5:=DO
 have f6:=F.slot_gs_get.lookup
 have f7:=F.slot_gs_set.lookup
 have L2:=looks_findIn (M:=model prog w) X k.cl
 repeat (any_goals (first | assumption | (with_reducible refine AF hx ?_;rw[hc]) | (with_reducible refine L2.at ?_) | wp_step))
 refine zk X k hx hc ?_
 repeat (any_goals (first | assumption | wp_step))
theorem qv {M:Model} {nameV:Value} {Q:Unit->Shared->Prop} (X:K.In h) (k:XAt K C) (hx:h.get? e=some o) (hc:o.cls=.ref C) (hq:Q () ⟨h,g,d,t,os⟩) :
  wpAny M A (checkBuiltinCall "BaseException.__getattribute__" ⟨[.ref e,nameV],[]⟩) Q E ⟨h,g,d,t,os⟩:=by
 have hk:builtinKind "BaseException.__getattribute__"=some .slot:=by decide +kernel
 have hsplit:splitId "BaseException.__getattribute__"=some ("BaseException","__getattribute__"):=by decide +kernel
 have ha:=F.args_bexc_ga (.ref e) nameV
 have L1:=looks_mroIn (M:=M) X k.mb
 simp![checkBuiltinCall,hk,hsplit]
 refine AC ?_
 ·unfold isInstance
  repeat (first | (with_reducible refine AF hx ?_;rw[hc]) | (with_reducible refine L1.at ?_) | wp_step)
  exact hq
theorem wg {tk:Tok} {R:Result->Shared->Prop} (X:K.In h) (k:XAt K C) (hx:h.get? e=some o) (hc:o.cls=.ref C) (hq:R (.ok (.ret (.ref C))) ⟨h,g,d,t,os⟩) :
  codeAny (model prog w) A (.call (.builtin "BaseException.__getattribute__") ⟨[.ref e,.str "__class__" tk],[]⟩) R ⟨h,g,d,t,os⟩ :=
 CZ F.attr_ValueError.ga.plain F.entry_bexc_ga (qv X k hx hc (qu X k hx hc hq))
theorem Dc {tk:Tok} {Q:Value->Shared->Prop} (X:K.In h) (k:XAt K C) (hx:h.get? e=some o) (hc:o.cls=.ref C) (hq:Q (.ref C) ⟨h,g,d,t,os⟩):wpAny (model prog w) A (getAttrBy (.ref e) (.str "__class__" tk) false) Q E ⟨h,g,d,t,os⟩:=by
 have f3:=F.attr_ValueError.ga.bind (.ref e)
 have hx2:(Value.builtin "BaseException.__getattribute__"==Value.builtin "object.__getattribute__")=false:=by decide +kernel
 have hx1:(onTheHeap (Value.ref C)&&Value.builtin "BaseException.__getattribute__"==Value.builtin "object.__getattribute__")=false:=by rw[hx2];rfl
 have hx0:(false&&onTheHeap (Value.builtin "BaseException.__getattribute__"))=false:=rfl
 have L1:=looks_findIn (M:=model prog w) X k.ga
 have L2:=looks_findIn (M:=model prog w) X k.gh
 repeat (any_goals (first | assumption | (with_reducible refine AF hx ?_;rw[hc]) | (with_reducible refine L1.at ?_) | (with_reducible refine L2.at ?_) | wp_step))
 refine wg X k hx hc ?_
 repeat (any_goals (first | assumption | wp_step))
theorem wj {Q:Option Value->Shared->Prop} (X:K.In h) (k:XAt K C) (hx:h.get? e=some o) (hc:o.cls=.ref C) (hq:Q (some (.ref C)) ⟨h,g,d,t+1,os⟩):wpAny (model prog w) A (getAttr? (.ref e) "__class__") Q E ⟨h,g,d,t,os⟩:=by
 unfold getAttr? getAttrBy?
 repeat (any_goals (first | assumption | with_reducible apply Dc X k hx hc | wp_step))
end
theorem qw {K:Frag} {e C:Addr} (k:XAt K C):KitX K (.ref e) (.ref C) (λh=>∃o vs,h.get? e=some o/\o.cls=.ref C/\o.data=.fields vs) where
 ty:=λM h _ ⟨o,_,h1,h2,_⟩=>h2 ▸ (Looks.ld h1).andThen .now
 it:=λ_ _ X _=>by
  obtain⟨cd,hc,_⟩:=EV.mp k.mo
  unfold clsIn at hc
  split at hc
  ·next ho =>
   intro A' Q' E' s' kk q
   unfold isType loadHead
   exact AC (wpAny_loadPart (kk _ _ (X _ _ ho)) (AO q))
  ·cases hc
 ne:=λh tp dd its n sl X htp=>by
  obtain⟨cd,hc,_⟩:=EV.mp k.mo
  refine Bool.eq_false_iff.mpr λq=>?_
  have e:C=tp:=Value.ref.inj (beq_iff_eq.mp q)
  subst e
  unfold clsIn at hc
  split at hc
  ·next ho =>
   have z:=(X _ _ ho).symm.trans htp
   cases z
  ·cases hc
 ca:=λ{_ _ _ _ _ s} X ⟨o,_,h1,h2,_⟩ q=>by
  obtain⟨h,g,d,t,os⟩:=s
  exact wj X k h1 h2 q
end L2
namespace Lp
open PySem
inductive D where
 | non | bl (b:Bool) | int (i:Int) | str (x:Str)
 | tup (ds:List D) | lst (ds:List D) | loc (n:Nat)
 deriving Inhabited
def D.pureN:Nat->D->Bool
 | 0,d=>match d with | .tup _=>false | .lst _=>false | .loc _=>false | _=>true
 | k+1,d=>match d with | .tup ds=>ds.all (D.pureN k) | .lst ds=>ds.all (D.pureN k) | .loc _=>false | _=>true
abbrev D.pure (d:D):Bool:=D.pureN 8 d
inductive O where
 | l (ds:List D)
 | r (ds:List D)
 | d (kvs:List (D×D))
 | dt (kvs:List (D×D))
 | x (c:Str)
 | dead
 deriving Inhabited
abbrev Sto:=List O
abbrev Sl:=List (Option D)
inductive Res (α:Type) where
 | ok (a:α) (μ:Sto)
 | exc (c:Nat) (ds:List D) (μ:Sto)
 | stuck
namespace Res
variable {α β : Type}
def bind (x:Res α) (f:α->Sto->Res β):Res β:=match x with
 | .ok a μ=>f a μ
 | .exc c ds μ=>.exc c ds μ
 | .stuck=>.stuck
@[simp] theorem az (a:α) (μ:Sto) (f:α->Sto->Res β):(Res.ok a μ).bind f=f a μ:=rfl
@[simp] theorem B8 (c:Nat) (ds:List D) (μ:Sto) (f:α->Sto->Res β):(Res.exc c ds μ:Res α).bind f=.exc c ds μ:=rfl
@[simp] theorem yg (f:α->Sto->Res β):(Res.stuck:Res α).bind f=.stuck:=rfl
theorem bind_assoc {γ:Type} (x:Res α) (f:α->Sto->Res β) (g:β->Sto->Res γ):(x.bind f).bind g=x.bind λa μ=>(f a μ).bind g:=by
 cases x<;>rfl
end Res
inductive Mk where | z | l | r
 deriving DecidableEq,Inhabited
inductive Bt where
 | len | tuple | list | sum | min | min1 | max | all | any | sorted | sortedSet | sortedL | int | listRev | listRange | tupleRange | dictP
 deriving DecidableEq,Inhabited
inductive Mt where
 | append | pop | extend | extendT | insert | remove | reverse | clear | count | countL | get
 deriving DecidableEq,Inhabited
inductive Cl where
 | int | bool | tuple | list | str | own (c:Str)
 deriving DecidableEq,Inhabited
inductive Tg where
 | one (i:Nat) | many (is:List Nat)
 deriving DecidableEq,Inhabited
inductive Cp where
 | eq | ne | eqM | neM | lt | le | gt | ge | is | isnot | in_ | notin
 deriving DecidableEq,Inhabited
mutual
inductive Ex where
 | var (i:Nat)
 | frz (i:Nat)
 | cst (d:D)
 | bin (op:Operator) (m:Mk) (a b:Ex)
 | neg (a:Ex)
 | not (a:Ex)
 | and (a b:Ex)
 | or (a b:Ex)
 | ite (c a b:Ex)
 | cmp (a:Ex) (r:Cps)
 | call (keep:Bool) (f:Nat) (es:Exs)
 | blt (b:Bt) (m:Mk) (es:Exs)
 | isi (a:Ex) (c:Cl)
 | meth (mt:Mt) (o:Ex) (es:Exs)
 | ix (a b:Ex)
 | dix (a b:Ex)
 | sl (m:Mk) (a:Ex) (lo hi:ExO)
 | tup (es:Exs)
 | lst (m:Mk) (es:Exs)
 | dic (t:Bool) (es:Exs)
 | inT (neg:Bool) (es:Exs) (d:Ex)
 | comp (m:Mk) (cap:List Nat) (nl:Nat) (tg:Tg) (it:It) (cs:Exs) (elt:Ex)
inductive Exs where
 | nil
 | cons (e:Ex) (es:Exs)
inductive Cps where
 | nil
 | cons (op:Cp) (e:Ex) (r:Cps)
inductive ExO where
 | no
 | so (e:Ex)
inductive It where
 | seq (e:Ex)
 | rng (a:Ex)
 | rng2 (a b:Ex)
 | rng3 (a b c:Ex)
 | zip (a b:Ex)
 | enum (a:Ex)
 | rev (a:Ex)
 | vals (a:Ex)
end
mutual
inductive Sm where
 | set (i:Nat) (e:Ex)
 | unp (is:List Nat) (e:Ex)
 | setx (o i v:Ex)
 | augx (op:Operator) (o i v:Ex)
 | setxT (o:Ex) (i:Exs) (v:Ex)
 | ex (e:Ex)
 | ite (c:Ex) (a b:Sms)
 | loop (tg:Tg) (it:It) (b:Sms)
 | ret (e:Ex)
 | raise (c:Str) (es:Exs)
 | pl (s:Sm)
 | callx (f:Nat) (es:Exs)
 | tryc (f:Nat) (es:Exs) (ei:Nat) (h:Sms)
 | mapx (i:Nat) (cap:List Nat) (nl:Nat) (tg:Tg) (it:It) (f:Nat) (es:Exs)
 | tryi (i j:Nat) (e:Ex)
 | pass | brk | cont
 | never
inductive Sms where
 | nil
 | cons (s:Sm) (r:Sms)
end
@[irreducible] def lim:Nat:=2 ^ 24
theorem tj:lim=2 ^ 24:=by with_unfolding_all rfl
theorem gr:1000000<=lim:=by rw[tj];decide
def eh (μ:Sto):D->Option (List D)
 | .tup ds=>some ds
 | .lst ds=>some ds
 | .loc n=>match μ[n]? with
  | some (.l ds)=>some ds
  | some (.r ds)=>some ds
  | _=>none
 | _=>none
def listOf (μ:Sto):D->Option (List D)
 | .lst ds=>some ds
 | .loc n=>match μ[n]? with
  | some (.l ds)=>some ds
  | some (.r ds)=>some ds
  | _=>none
 | _=>none
def cg {α β:Type} (o:Option α) (k:α->Res β):Res β:=match o with
 | some a=>k a
 | none=>.stuck
@[simp] theorem c6 {α β:Type} (a:α) (k:α->Res β):cg (some a) k=k a:=rfl
@[simp] theorem wm {α β:Type} (k:α->Res β):cg none k=.stuck:=rfl
def mkL (m:Mk) (ds:List D) (μ:Sto):Res D:=match m with
 | .z=>.ok (.lst ds) μ
 | .l=>if ds.all (D.pureN 8)=true then .ok (.loc μ.length) (μ++[.l ds])else .stuck
 | .r=>.ok (.loc μ.length) (μ++[.r ds])
mutual
def deq:D->D->Bool
 | .non,.non=>true
 | .bl a,.bl b=>a==b
 | .int a,.int b=>decide (a=b)
 | .bl a,.int b=>decide ((if a then 1 else 0:Int)=b)
 | .int a,.bl b=>decide (a=(if b then 1 else 0:Int))
 | .str a,.str b=>decide (a=b)
 | .tup a,.tup b=>lx a b
 | .lst a,.lst b=>lx a b
 | _,_=>false
def lx:List D->List D->Bool
 | [],[]=>true
 | a::r,b::q=>deq a b&&lx r q
 | _,_=>false
end
def rs1 (μ:Sto):Nat->D->D
 | 0,d=>d
 | _,.loc n=>match μ[n]? with
  | some (.l ds)=>.lst ds
  | some (.r ds)=>.lst ds
  | _=>.loc n
 | k+1,.tup ds=>.tup (ds.map (rs1 μ k))
 | k+1,.lst ds=>.lst (ds.map (rs1 μ k))
 | _,d=>d
def rs (μ:Sto) (d:D):D:=rs1 μ 8 (rs1 μ 8 (rs1 μ 8 d))
def da:List D->Option (List Int)
 | []=>some []
 | .int i::r=>(da r).map (i::·)
 | _=>none
def tm:List D->Option (List Bool)
 | []=>some []
 | .bl i::r=>(tm r).map (i::·)
 | _=>none
def lexLt:List Int->List Int->Bool
 | _,[]=>false
 | [],_::_=>true
 | x::xs,y::ys=>if x=y then lexLt xs ys else decide (x<y)
def rowsOf:List D->Option (List (List Int))
 | []=>some []
 | .tup ds::r=>(da ds).bind λx=>(rowsOf r).map (x::·)
 | _=>none
def ixN (n:Nat) (i:Int):Option Nat:=if 0<=i then(if i<n then some i.toNat else none)else if -(n:Int)<=i then some (i+n).toNat else none
def sIx (n d:Nat):Option Int->Nat
 | none=>d
 | some v=>if v<0 then(v+(n:Int)).toNat else min v.toNat n
def cut (ds:List D) (lo hi:Option Int):List D:=(ds.drop (sIx ds.length 0 lo)).take (sIx ds.length ds.length hi-sIx ds.length 0 lo)
def CMul (i j:Int):Prop:=(-(2 ^ 64)<i/\i<2 ^ 64)\/(-(2 ^ 64)<j/\j<2 ^ 64)
instance (i j:Int):Decidable (CMul i j):=by unfold CMul;infer_instance
def opI (op:Operator) (i j:Int) (μ:Sto):Res D:=match op with
 | .Add=>.ok (.int (i+j)) μ
 | .Sub=>.ok (.int (i-j)) μ
 | .Mult=>if CMul i j then .ok (.int (i*j)) μ else .stuck
 | .FloorDiv=>if 0<j/\j<1073741824 then .ok (.int (i / j)) μ else .stuck
 | .Mod=>if 0<j then .ok (.int (i % j)) μ else .stuck
 | .Pow=>if 0<=j/\j<=1000000/\i.natAbs<2 ^ 64 then .ok (.int (i ^ j.toNat)) μ else .stuck
 | .RShift=>if 0<=j then .ok (.int (i / 2 ^ j.toNat)) μ else .stuck
 | _=>.stuck
def opD (op:Operator) (m:Mk) (a b:D) (μ:Sto):Res D:=match a,b with
 | .int i,.int j=>opI op i j μ
 | .tup xs,.tup ys=>match op with
  | .Add=>if xs.length+ys.length<=lim then .ok (.tup (xs++ys)) μ else .stuck
  | _=>.stuck
 | x,.int j=>match op,listOf μ x with
  | .Mult,some xs=>if xs.length*j.toNat<=lim /\ -(2 ^ 63)<=j/\j<2 ^ 63 then mkL m (List.replicate j.toNat xs).flatten μ else .stuck
  | _,_=>.stuck
 | x,y=>match op,listOf μ x,listOf μ y with
  | .Add,some xs,some ys=>if xs.length+ys.length<=lim then mkL m (xs++ys) μ else .stuck
  | _,_,_=>.stuck
def flat:D->Bool
 | .tup _=>false
 | .lst _=>false
 | .loc _=>false
 | _=>true
def cj (μ:Sto) (x:D):Option (List D×Option (Nat×O)):=match x with
 | .tup ds=>some (ds,none)
 | .lst ds=>some (ds,none)
 | .loc n=>match μ[n]? with
  | some (.l ds)=>some (ds,some (n,.l ds))
  | some (.r ds)=>some (ds,some (n,.r ds))
  | _=>none
 | _=>none
def tq:D->Bool
 | .int _=>true
 | .str _=>true
 | _=>false
def F3:D->Bool
 | .tup ds=>ds.all tq
 | _=>false
def qx (k:D):List (D×D)->Option D
 | []=>none
 | (x,v)::r=>if deq x k then some v else qx k r
def dput (k v:D) (kvs:List (D×D)):List (D×D) :=
 if(kvs.any λp=>deq p.1 k)=true then kvs.map (λp=>if deq p.1 k=true then(p.1,v)else p)else kvs++[(k,v)]
def dictAt (μ:Sto) (o k:D):Option (List (D×D)):=match o with
 | .loc n=>match μ[n]? with
  | some (.d kvs)=>if tq k=true then some kvs else none
  | _=>none
 | _=>none
def wo (μ:Sto) (o:D) (ks:List D):Option (List (D×D)):=match o with
 | .loc n=>match μ[n]? with
  | some (.dt kvs)=>if ks.all tq=true then some kvs else none
  | _=>none
 | _=>none
def ak:List (Option D)->Option (List D)
 | []=>some []
 | none::_=>none
 | some d::r=>match ak r with
  | some ds=>some (d::ds)
  | none=>none
def ag (μ:Sto):Nat->D->Option D
 | 0,d=>if flat d=true then some d else none
 | k+1,d=>match d with
  | .tup ds=>(ak (ds.map (ag μ k))).map .tup
  | .lst ds=>(ak (ds.map (ag μ k))).map .lst
  | .loc n=>match μ[n]? with
   | some (.l ds)=>(ak (ds.map (ag μ k))).map .lst
   | some (.r ds)=>(ak (ds.map (ag μ k))).map .lst
   | _=>none
  | d=>some d
def cpD (op:Cp) (a b:D) (μ:Sto):Res D:=match op with
 | .eq=>if a.pure=true/\b.pure=true then .ok (.bl (deq a b)) μ else .stuck
 | .ne=>if a.pure=true/\b.pure=true then .ok (.bl (!deq a b)) μ else .stuck
 | .eqM=>match ag μ 8 a,ag μ 8 b with
  | some x,some y=>.ok (.bl (deq x y)) μ
  | _,_=>.stuck
 | .neM=>match ag μ 8 a,ag μ 8 b with
  | some x,some y=>.ok (.bl (!deq x y)) μ
  | _,_=>.stuck
 | .lt=>match a,b with
  | .int i,.int j=>.ok (.bl (decide (i<j))) μ
  | .tup x,.tup y=>match da x,da y with
   | some xs,some ys=>.ok (.bl (lexLt xs ys)) μ
   | _,_=>.stuck
  | _,_=>.stuck
 | .le=>match a,b with
  | .int i,.int j=>.ok (.bl (decide (i<=j))) μ
  | .tup x,.tup y=>match da x,da y with
   | some xs,some ys=>.ok (.bl (!lexLt ys xs)) μ
   | _,_=>.stuck
  | _,_=>.stuck
 | .gt=>match a,b with
  | .int i,.int j=>.ok (.bl (decide (j<i))) μ
  | _,_=>.stuck
 | .ge=>match a,b with
  | .int i,.int j=>.ok (.bl (decide (j<=i))) μ
  | .tup x,.tup y=>match da x,da y with
   | some xs,some ys=>.ok (.bl (!lexLt xs ys)) μ
   | _,_=>.stuck
  | _,_=>.stuck
 | .is=>match b with
  | .non=>.ok (.bl (match a with | .non=>true | _=>false)) μ
  | .bl k=>match a with
   | .bl j=>.ok (.bl (j==k)) μ
   | .non=>.ok (.bl false) μ
   | _=>.stuck
  | _=>.stuck
 | .isnot=>match b with
  | .non=>.ok (.bl (match a with | .non=>false | _=>true)) μ
  | .bl k=>match a with
   | .bl j=>.ok (.bl (!(j==k))) μ
   | .non=>.ok (.bl true) μ
   | _=>.stuck
  | _=>.stuck
 | .in_=>match eh μ b with
  | some ds=>if flat a=true/\ds.all flat=true then .ok (.bl (ds.any λy=>deq y a)) μ else .stuck
  | none=>match dictAt μ b a with
   | some kvs=>.ok (.bl (qx a kvs).isSome) μ
   | none=>.stuck
 | .notin=>match eh μ b with
  | some ds=>if flat a=true/\ds.all flat=true then .ok (.bl (!ds.any λy=>deq y a)) μ else .stuck
  | none=>match dictAt μ b a with
   | some kvs=>.ok (.bl (!(qx a kvs).isSome)) μ
   | none=>.stuck
def insI (x:Int):List Int->List Int
 | []=>[x]
 | y::r=>if x<=y then x::y::r else y::insI x r
def sortI:List Int->List Int
 | []=>[]
 | x::r=>insI x (sortI r)
def En (x:List Int):List (List Int)->List (List Int)
 | []=>[x]
 | y::r=>if lexLt y x=true then y::En x r else x::y::r
def wq:List (List Int)->List (List Int)
 | []=>[]
 | x::r=>En x (wq r)
def Eo:Int->List Int->Int
 | x,[]=>x
 | x,y::r=>Eo (if y<x then y else x) r
def fv (f:D->Sto->Res D) (ds:List D) (μ:Sto):Res D:=match ds with
 | [x]=>f x μ
 | _=>.stuck
@[simp] theorem B9 (f:D->Sto->Res D) (x:D) (μ:Sto):fv f [x] μ=f x μ:=rfl
def seq1 (f:List D->Sto->Res D) (x:D) (μ:Sto):Res D:=match eh μ x with
 | some xs=>f xs μ
 | none=>.stuck
def Dd (f:List Int->Sto->Res D) (x:D) (μ:Sto):Res D:=match(eh μ x).bind da with
 | some ns=>f ns μ
 | none=>.stuck
def zl (f:List Bool->Sto->Res D) (x:D) (μ:Sto):Res D:=match(eh μ x).bind tm with
 | some ns=>f ns μ
 | none=>.stuck
def qy (m:Mk) (x:D) (μ:Sto):Res D:=match listOf μ x with
 | some xs=>mkL m xs.reverse μ
 | none=>.stuck
def minD (ds:List D) (μ:Sto):Res D:=match ds with
 | [.int i,.int j]=>.ok (.int (if j<i then j else i)) μ
 | _=>.stuck
def maxD (ds:List D) (μ:Sto):Res D:=match ds with
 | [.int i,.int j]=>.ok (.int (if j > i then j else i)) μ
 | _=>.stuck
def wt (m:Mk) (xs:List D) (μ:Sto):Res D:=match rowsOf xs with
 | some rs=>if rs.all (λr=>!r.isEmpty)=true then mkL m ((wq rs).map λr=>.tup (r.map .int)) μ else .stuck
 | none=>.stuck
def F4 (ns:List Int):List Int:=ns.foldl (λσ k=>if σ.any (·==k)then σ else σ++[k]) []
def zm (m:Mk):D->Sto->Res D:=Dd λns μ=>if ns.length<64 then mkL m ((sortI (F4 ns)).map .int) μ else .stuck
def zo (m:Mk) (x:D) (μ:Sto):Res D:=match listOf μ x with
 | some xs=>if xs.length<64 then wt m xs μ else .stuck
 | none=>.stuck
def zp:List D->Sto->Option (List (List Int)×Sto)
 | [],μ=>some ([],μ)
 | .loc n::r,μ=>match μ[n]? with
  | some (.l ds)=>match da ds,zp r (μ.set n .dead)with
   | some x,some p=>some (x::p.1,p.2)
   | _,_=>none
  | _=>none
 | _,_=>none
def wu (m:Mk) (x:D) (μ:Sto):Res D:=match listOf μ x with
 | some xs=>if xs.length<64 then(match zp xs μ with
  | some p=>mkL m ((wq p.1).map λr=>.lst (r.map .int)) p.2
  | none=>.stuck)else .stuck
 | none=>.stuck
def De:D->Sto->Res D:=Dd λns μ=>match ns with
 | n::r=>.ok (.int (Eo n r)) μ
 | []=>.stuck
def zq (x:D) (μ:Sto):Res D:=match x with
 | .bl b=>.ok (.int (if b then 1 else 0)) μ
 | .int i=>.ok (.int i) μ
 | _=>.stuck
def tu (f:List D->Sto->Res D) (x:D) (μ:Sto):Res D:=match x with
 | .int j=>if -(lim:Int)<=j/\j<=lim then f ((List.range j.toNat).map fun(i:Nat)=>D.int i) μ else .stuck
 | _=>.stuck
def tv:List D->Option (List (D×D))
 | []=>some []
 | .tup [k,v]::r=>if tq k=true/\v.pure=true then(tv r).map ((k,v)::·)else none
 | _=>none
def zr (x:D) (μ:Sto):Res D:=match(listOf μ x).bind tv with
 | some ps=>if ps.length<1000 then .ok (.loc μ.length) (μ++[.d (ps.foldl (λm p=>dput p.1 p.2 m) [])])else .stuck
 | none=>.stuck
def btD (b:Bt) (m:Mk) (ds:List D) (μ:Sto):Res D:=match b with
 | .len=>fv (seq1 λxs μ=>.ok (.int xs.length) μ) ds μ
 | .tuple=>fv (seq1 λxs μ=>.ok (.tup xs) μ) ds μ
 | .list=>fv (seq1 λxs μ=>mkL m xs μ) ds μ
 | .listRev=>fv (qy m) ds μ
 | .sum=>fv (Dd λns μ=>.ok (.int ns.sum) μ) ds μ
 | .min=>minD ds μ
 | .max=>maxD ds μ
 | .all=>fv (zl λbs μ=>.ok (.bl (bs.all id)) μ) ds μ
 | .any=>fv (zl λbs μ=>.ok (.bl (bs.any id)) μ) ds μ
 | .sorted=>fv (zo m) ds μ
 | .min1=>fv De ds μ
 | .sortedSet=>fv (zm m) ds μ
 | .sortedL=>fv (wu m) ds μ
 | .int=>fv zq ds μ
 | .listRange=>fv (tu λxs μ=>mkL m xs μ) ds μ
 | .tupleRange=>fv (tu λxs μ=>.ok (.tup xs) μ) ds μ
 | .dictP=>fv zr ds μ
def xpl:List Str:=["BadBook","BadTicks","NoDeed","NoRest"]
def xcls:List Str:=["BadBook","BadTicks","NoDeed","NoRest","BadRow"]
def ia (k c:Str):Bool:=decide (c=k) || decide (c="LampError") || decide (c="ValueError")
def qz (c:Cl) (d:D) (μ:Sto):Res D:=match d,c with
 | .int _,.int=>.ok (.bl true) μ
 | .bl _,.int=>.ok (.bl true) μ
 | .bl _,.bool=>.ok (.bl true) μ
 | .tup _,.tuple=>.ok (.bl true) μ
 | .lst _,.list=>.ok (.bl true) μ
 | .str _,.str=>.ok (.bl true) μ
 | .loc n,.list=>match μ[n]? with
  | some (.l _)=>.ok (.bl true) μ
  | some (.r _)=>.ok (.bl true) μ
  | _=>.stuck
 | .loc n,.own c=>match μ[n]? with
  | some (.x k)=>if xcls.contains k=true then .ok (.bl (ia k c)) μ else .stuck
  | _=>.stuck
 | .loc _,_=>.stuck
 | _,.own _=>.stuck
 | _,_=>.ok (.bl false) μ
def putL (n:Nat) (o:O) (ds:List D) (d:D) (μ:Sto):Res D:=match o with
 | .l _=>.ok d (μ.set n (.l ds))
 | .r _=>.ok d (μ.set n (.r ds))
 | _=>.stuck
def fits (o:O) (d:D):Bool:=match o with
 | .l _=>d.pure
 | .r _=>true
 | _=>false
def tw:O->Option (List D)
 | .l ds=>some ds
 | .r ds=>some ds
 | _=>none
def mtL (mt:Mt) (n:Nat) (ob:O) (xs:List D) (ds:List D) (μ:Sto):Res D:=match mt with
 | .append=>fv (λd μ=>if fits ob d=true/\xs.length<lim then putL n ob (xs++[d]) .non μ else .stuck) ds μ
 | .pop=>match ds with
  | []=>match xs.getLast? with
   | some d=>putL n ob xs.dropLast d μ
   | none=>.stuck
  | [.int i]=>if 0<=i/\i<lim then(match xs[i.toNat]? with
   | some d=>putL n ob (xs.eraseIdx i.toNat) d μ
   | none=>.stuck)else .stuck
  | _=>.stuck
 | .extend=>fv (λy μ=>match listOf μ y with
  | some ys=>if ys.all (fits ob)=true/\xs.length+ys.length<=lim then putL n ob (xs++ys) .non μ else .stuck
  | none=>.stuck) ds μ
 | .extendT=>fv (λy μ=>match y with
  | .tup ys=>if ys.all (fits ob)=true/\xs.length+ys.length<=lim then putL n ob (xs++ys) .non μ else .stuck
  | _=>.stuck) ds μ
 | .insert=>match ds with
  | [.int i,d]=>if 0<=i/\i<=(xs.length:Int)/\fits ob d=true/\xs.length<lim then putL n ob (xs.take i.toNat++d::xs.drop i.toNat) .non μ else .stuck
  | _=>.stuck
 | .remove=>fv (λd μ=>match ak (xs.map (ag μ 8)),ag μ 8 d with
  | some es,some e=>match es.findIdx? (λx=>deq x e)with
   | some j=>putL n ob (xs.eraseIdx j) .non μ
   | none=>.stuck
  | _,_=>.stuck) ds μ
 | .reverse=>match ds with
  | []=>putL n ob xs.reverse .non μ
  | _=>.stuck
 | .clear=>match ds with
  | []=>putL n ob [] .non μ
  | _=>.stuck
 | _=>.stuck
def Ep (xs ds:List D) (μ:Sto):Res D:=fv (λx μ=>if flat x=true/\xs.all flat=true then .ok (.int (xs.countP λy=>deq y x)) μ else .stuck) ds μ
def F5 (o:D) (ds:List D) (μ:Sto):Res D:=match o with
 | .tup xs=>Ep xs ds μ
 | _=>.stuck
def F6 (o:D) (ds:List D) (μ:Sto):Res D:=match listOf μ o with
 | some xs=>Ep xs ds μ
 | none=>.stuck
def tx (mt:Mt) (x:D) (μ:Sto):Bool:=match mt with
 | .get=>match x with
  | .loc n=>match μ[n]? with
   | some (.d _)=>true
   | _=>false
  | _=>false
 | .count=>match x with
  | .tup _=>true
  | _=>false
 | _=>(listOf μ x).isSome
def Dg (o:D) (ds:List D) (μ:Sto):Res D:=match ds with
 | [k,x]=>match dictAt μ o k with
  | some kvs=>.ok ((qx k kvs).getD x) μ
  | none=>.stuck
 | _=>.stuck
def Dh (mt:Mt) (o:D) (ds:List D) (μ:Sto):Res D:=match o with
 | .loc n=>match μ[n]? with
  | none=>.stuck
  | some ob=>match tw ob with
   | none=>.stuck
   | some xs=>mtL mt n ob xs ds μ
 | _=>.stuck
def mtD (mt:Mt) (o:D) (ds:List D) (μ:Sto):Res D:=match mt with
 | .count=>F5 o ds μ
 | .countL=>F6 o ds μ
 | .get=>Dg o ds μ
 | mt=>Dh mt o ds μ
def Di (a:D) (ks:List D) (v:D) (μ:Sto):Res Unit:=match a with
 | .loc n=>match μ[n]? with
  | some (.dt kvs)=>if ks.all tq=true/\v.pure=true/\kvs.length<lim then .ok () (μ.set n (.dt (dput (.tup ks) v kvs)))else .stuck
  | _=>.stuck
 | _=>.stuck
def F7 (neg:Bool) (ks:List D) (a:D) (μ:Sto):Res D:=match wo μ a ks with
 | some kvs=>.ok (.bl (neg ^^ (qx (.tup ks) kvs).isSome)) μ
 | none=>.stuck
def ixD (a b:D) (μ:Sto):Res D:=match b with
 | .int i=>match eh μ a with
  | some xs=>match ixN xs.length i with
   | some j=>match xs[j]? with
    | some d=>.ok d μ
    | none=>.stuck
   | none=>.stuck
  | none=>.stuck
 | _=>.stuck
def ixL (a b:D) (μ:Sto):Res D:=match a with
 | .loc n=>ixD (.loc n) b μ
 | _=>.stuck
def Dj (a b:D) (μ:Sto):Res D:=match dictAt μ a b with
 | some kvs=>match qx b kvs with
  | some v=>.ok v μ
  | none=>.stuck
 | none=>.stuck
def Er (op:Operator) (a b:D) (μ:Sto):Res D:=match a,b with
 | .int i,.int j=>match op with
  | .Add=>.ok (.int (i+j)) μ
  | .Sub=>.ok (.int (i-j)) μ
  | _=>.stuck
 | _,_=>.stuck
def slD (m:Mk) (a:D) (lo hi:Option Int) (μ:Sto):Res D:=match a with
 | .tup xs=>.ok (.tup (cut xs lo hi)) μ
 | x=>match listOf μ x with
  | some xs=>mkL m (cut xs lo hi) μ
  | none=>.stuck
def yh (a b v:D) (μ:Sto):Res Unit:=match a with
 | .loc n=>match μ[n]? with
  | none=>.stuck
  | some (.d kvs)=>if tq b=true/\v.pure=true/\kvs.length<lim then .ok () (μ.set n (.d (dput b v kvs)))else .stuck
  | some ob=>match tw ob,b with
   | some xs,.int i=>match ixN xs.length i with
    | some j=>if fits ob v=true then(putL n ob (xs.set j v) .non μ).bind λ_ μ=>.ok () μ else .stuck
    | none=>.stuck
   | _,_=>.stuck
 | _=>.stuck
def br (tg:Tg) (d:D) (σ:Sl):Option Sl:=match tg with
 | .one i=>some (σ.set i (some d))
 | .many is=>match d with
  | .tup ds=>if ds.length=is.length then some ((is.zip ds).foldl (λs p=>s.set p.1 (some p.2)) σ)else none
  | _=>none
abbrev Gd:=Option (Nat×O)
def gd (g:Gd) (μ:Sto):Prop:=match g with
 | none=>True
 | some (n,o)=>μ[n]? = some o
@[simp] theorem mv (μ:Sto):gd none μ=True:=rfl
open Classical in
def mapR (g:Gd) (f:D->Sto->Res (List D)):List D->Sto->Res (List D)
 | [],μ=>if gd g μ then .ok [] μ else .stuck
 | d::ds,μ=>if gd g μ then(f d μ).bind λxs μ1=>(mapR g f ds μ1).bind λys μ2=>.ok (xs++ys) μ2 else .stuck
inductive Fl where
 | nx (σ:Sl) | rt (d:D) | bk (σ:Sl) | ct (σ:Sl)
open Classical in
def de (g:Gd) (f:D->Sl->Sto->Res Fl):List D->Sl->Sto->Res Fl
 | [],σ,μ=>if gd g μ then .ok (.nx σ) μ else .stuck
 | d::ds,σ,μ=>if gd g μ then(f d σ μ).bind λfl μ1=>match fl with
  | .nx σ1=>de g f ds σ1 μ1
  | .ct σ1=>de g f ds σ1 μ1
  | .bk σ1=>.ok (.nx σ1) μ1
  | .rt v=>.ok (.rt v) μ1 else .stuck
def Es (t:Bool) (ds:List D) (μ:Sto):Res D:=match ds with
 | []=>.ok (.loc μ.length) (μ++[if t then .dt []else .d []])
 | [.int a,x]=>if t=false/\x.pure=true then .ok (.loc μ.length) (μ++[.d [(.int a,x)]])else .stuck
 | [.int a,x,.int b,y]=>if t=false/\x.pure=true/\y.pure=true then .ok (.loc μ.length) (μ++[.d (dput (.int b) y [(.int a,x)])])else .stuck
 | _=>.stuck
abbrev Phi:=Nat->List D->Sto->Res D
def D.belowN (b:Nat):Nat->D->Bool
 | 0,d=>match d with | .tup _=>false | .lst _=>false | .loc n=>decide (n<b) | _=>true
 | k+1,d=>match d with | .tup ds=>ds.all (D.belowN b k) | .lst ds=>ds.all (D.belowN b k) | .loc n=>decide (n<b) | _=>true
def bz (b:Nat):O->Bool
 | .r ds=>ds.all (D.belowN b 8)
 | _=>true
def noR:O->Bool
 | .r _=>false
 | _=>true
def eo (keep:Bool) (base:Nat) (r:Res D):Res D:=match r with
 | .ok d μ'=>if keep=true then .ok d μ' else if D.belowN base 8 d=true/\(μ'.take base).all (bz base)=true then .ok d (μ'.take base)else .stuck
 | x=>x
def wx:D->Option (Sum D Str)
 | .non=>some (.inl .non)
 | .tup [.bl true,d]=>some (.inl d)
 | .tup [.bl false,.str c]=>some (.inr c)
 | _=>none
def jl (base:Nat) (r:Res D):Res (Option Str):=match r with
 | .ok d μ'=>if(μ'.take base).all (bz base)=true then(match wx d with
  | some (.inl _)=>.ok none (μ'.take base)
  | some (.inr c)=>.ok (some c) (μ'.take base)
  | none=>.stuck)else .stuck
 | .exc c ds μ'=>.exc c ds μ'
 | .stuck=>.stuck
def kTh (σ:Sl) (r:Option Str) (μ:Sto):Res Fl:=match r with
 | none=>.ok (.nx σ) μ
 | some c=>.ok (.rt (.tup [.bl false,.str c])) μ
def kPl (fl:Fl) (μ:Sto):Res Fl:=match fl with
 | .nx σ=>.ok (.nx σ) μ
 | _=>.stuck
def kGo (ei:Nat) (fl:Fl) (μ:Sto):Res Fl:=match fl with
 | .nx σ=>.ok (.nx (σ.set ei none)) μ
 | _=>.stuck
def kTi (σ:Sl) (i j:Nat) (d:D) (μ:Sto):Res Fl:=match d with
 | .int n=>if i=j then .stuck else .ok (.nx ((σ.set j (some (.int n))).set i none)) μ
 | _=>.stuck
def Cb (σ:Sl) (ei:Nat) (h:Sl->Sto->Res Fl) (r:Option Str) (μ:Sto):Res Fl:=match r with
 | none=>.ok (.nx σ) μ
 | some c=>if xcls.contains c=true then(h (σ.set ei (some (.loc μ.length))) (μ++[.x c])).bind (kGo ei)else .stuck
def Dk (base:Nat) (r:Res D):Res (Sum D Str):=match r with
 | .ok d μ'=>if(μ'.take base).all (bz base)=true then(match wx d with
  | some (.inl d')=>if D.belowN base 8 d'=true then .ok (.inl d') (μ'.take base)else .stuck
  | some (.inr c)=>.ok (.inr c) (μ'.take base)
  | none=>.stuck)else .stuck
 | .exc c ds μ'=>.exc c ds μ'
 | .stuck=>.stuck
def kMd (x:D) (q:Sum (List D) Str) (μ:Sto):Res (Sum (List D) Str):=match q with
 | .inl xs=>.ok (.inl (x::xs)) μ
 | .inr c=>.ok (.inr c) μ
def kMc (rest:Sto->Res (Sum (List D) Str)) (r:Sum D Str) (μ:Sto):Res (Sum (List D) Str):=match r with
 | .inl x=>(rest μ).bind (kMd x)
 | .inr c=>.ok (.inr c) μ
open Classical in
def Et (g:Gd) (f:D->Sto->Res (Sum D Str)):List D->Sto->Res (Sum (List D) Str)
 | [],μ=>if gd g μ then .ok (.inl []) μ else .stuck
 | d::ds,μ=>if gd g μ then(f d μ).bind (kMc λμ=>Et g f ds μ)else .stuck
def kMx (σ:Sl) (i:Nat) (ys:List D) (r:Sum (List D) Str) (μ:Sto):Res Fl:=match r with
 | .inl xs=>.ok (.nx (σ.set i (some (.tup (ys++xs))))) μ
 | .inr c=>.ok (.rt (.tup [.bl false,.str c])) μ
def Eu (d:D) (μ:Sto):Res Bool:=match d with
 | .bl b=>.ok b μ
 | _=>.stuck
section
variable (φ : Phi)
mutual
def evE:Ex->Sl->Sto->Res D
 | .var i,σ,μ=>match σ[i]? with
  | some (some d)=>.ok d μ
  | _=>.stuck
 | .frz i,σ,μ=>match σ[i]? with
  | some (some (.loc n))=>match μ[n]? with
   | some (.l ds)=>.ok (.lst ds) (μ.set n .dead)
   | some (.r ds)=>.ok (.lst ds) (μ.set n .dead)
   | _=>.stuck
  | _=>.stuck
 | .cst d,_,μ=>.ok d μ
 | .bin op m a b,σ,μ=>(evE a σ μ).bind λx μ=>(evE b σ μ).bind λy μ=>opD op m x y μ
 | .neg a,σ,μ=>(evE a σ μ).bind λx μ=>match x with
  | .int i=>.ok (.int (-i)) μ
  | _=>.stuck
 | .not a,σ,μ=>(evE a σ μ).bind λx μ=>match x with
  | .bl b=>.ok (.bl (!b)) μ
  | _=>.stuck
 | .and a b,σ,μ=>(evE a σ μ).bind λx μ=>match x with
  | .bl c=>if c=true then evE b σ μ else .ok (.bl false) μ
  | _=>.stuck
 | .or a b,σ,μ=>(evE a σ μ).bind λx μ=>match x with
  | .bl c=>if c=true then .ok (.bl true) μ else evE b σ μ
  | _=>.stuck
 | .ite c a b,σ,μ=>(evE c σ μ).bind λx μ=>match x with
  | .bl c=>if c=true then evE a σ μ else evE b σ μ
  | _=>.stuck
 | .cmp a r,σ,μ=>(evE a σ μ).bind λx μ=>evC r x σ μ
 | .call keep f es,σ,μ=>(cc es σ μ).bind λds μ=>eo keep μ.length (φ f ds μ)
 | .blt b m es,σ,μ=>(cc es σ μ).bind λds μ=>btD b m ds μ
 | .isi a c,σ,μ=>(evE a σ μ).bind λx μ=>qz c x μ
 | .meth mt o es,σ,μ=>(evE o σ μ).bind λx μ=>if tx mt x μ=true then(cc es σ μ).bind λds μ=>mtD mt x ds μ else .stuck
 | .ix a b,σ,μ=>(evE a σ μ).bind λx μ=>(evE b σ μ).bind λy μ=>ixD x y μ
 | .dix a b,σ,μ=>(evE a σ μ).bind λx μ=>(evE b σ μ).bind λy μ=>Dj x y μ
 | .sl m a lo hi,σ,μ=>(evE a σ μ).bind λx μ=>(evO lo σ μ).bind λl μ=>(evO hi σ μ).bind λh μ=>slD m x l h μ
 | .tup es,σ,μ=>(cc es σ μ).bind λds μ=>.ok (.tup ds) μ
 | .lst m es,σ,μ=>(cc es σ μ).bind λds μ=>mkL m ds μ
 | .dic t es,σ,μ=>(cc es σ μ).bind λds μ=>Es t ds μ
 | .inT neg es d,σ,μ=>(cc es σ μ).bind λds μ=>(evE d σ μ).bind λx μ=>F7 neg ds x μ
 | .comp m cap nl tg it cs elt,σ,μ=>(evI it σ μ).bind λds μ =>
   (mapR ds.2 (λd μ=>cg (br tg d (cap.map (λi=>(σ[i]?).getD none)++List.replicate nl none)) λσ' =>
    (mw cs σ' μ).bind λb μ=>if b=true then(evE elt σ' μ).bind λx μ=>.ok [x] μ else .ok [] μ) ds.1 μ).bind λxs μ=>mkL m xs μ
def cc:Exs->Sl->Sto->Res (List D)
 | .nil,_,μ=>.ok [] μ
 | .cons e es,σ,μ=>(evE e σ μ).bind λd μ=>(cc es σ μ).bind λds μ=>.ok (d::ds) μ
def evC:Cps->D->Sl->Sto->Res D
 | .nil,_,_,_=>.stuck
 | .cons op e r,x,σ,μ=>(evE e σ μ).bind λy μ=>(cpD op x y μ).bind λz μ=>match r with
  | .nil=>.ok z μ
  | r=>match z with
   | .bl b=>if b=true then evC r y σ μ else .ok (.bl false) μ
   | _=>.stuck
def evO:ExO->Sl->Sto->Res (Option Int)
 | .no,_,μ=>.ok none μ
 | .so e,σ,μ=>(evE e σ μ).bind λx μ=>match x with
  | .int i=>.ok (some i) μ
  | _=>.stuck
def mw:Exs->Sl->Sto->Res Bool
 | .nil,_,μ=>.ok true μ
 | .cons e es,σ,μ=>(evE e σ μ).bind λx μ=>match x with
  | .bl b=>if b=true then mw es σ μ else .ok false μ
  | _=>.stuck
def evI:It->Sl->Sto->Res (List D×Gd)
 | .seq e,σ,μ=>(evE e σ μ).bind λx μ=>match cj μ x with
  | some w=>.ok w μ
  | none=>.stuck
 | .rng a,σ,μ=>(evE a σ μ).bind λx μ=>match x with
  | .int j=>if -(lim:Int)<=j/\j<=lim then .ok ((List.range j.toNat).map fun(i:Nat)=>D.int i,none) μ else .stuck
  | _=>.stuck
 | .rng2 a b,σ,μ=>(evE a σ μ).bind λx μ=>(evE b σ μ).bind λy μ=>match x,y with
  | .int i,.int j=>if -(lim:Int)<=i/\i<=lim/\j<=lim /\ -(lim:Int)<=j/\(j-i)<=lim then .ok ((List.range (j-i).toNat).map fun(k:Nat)=>D.int (i+k),none) μ else .stuck
  | _,_=>.stuck
 | .rng3 a b c,σ,μ=>(evE a σ μ).bind λx μ=>(evE b σ μ).bind λy μ=>(evE c σ μ).bind λz μ=>match x,y,z with
  | .int i,.int j,.int k=>if 0<=i/\i<=lim/\j<=lim/\0<=j/\1<=k/\k<=1000 then .ok ((List.range (if i<j then((j-i-1) / k+1).toNat else 0)).map fun(n:Nat)=>D.int (i+n*k),none) μ else .stuck
  | _,_,_=>.stuck
 | .zip a b,σ,μ=>(evE a σ μ).bind λx μ=>(evE b σ μ).bind λy μ=>match cj μ x,eh [] y with
  | some w,some ys=>.ok ((w.1.zip ys).map λp=>.tup [p.1,p.2],w.2) μ
  | _,_=>.stuck
 | .enum a,σ,μ=>(evE a σ μ).bind λx μ=>match cj μ x with
  | some w=>.ok ((List.range w.1.length |>.zip w.1).map fun(p:Nat×D)=>.tup [.int p.1,p.2],w.2) μ
  | none=>.stuck
 | .rev _,_,_=>.stuck
 | .vals a,σ,μ=>(evE a σ μ).bind λx μ=>match x with
  | .loc n=>match μ[n]? with
   | some (.d kvs)=>.ok (kvs.map (·.2),none) (μ.set n .dead)
   | _=>.stuck
  | _=>.stuck
end
mutual
def evS:Sm->Sl->Sto->Res Fl
 | .set i e,σ,μ=>(evE φ e σ μ).bind λd μ=>.ok (.nx (σ.set i (some d))) μ
 | .unp is e,σ,μ=>(evE φ e σ μ).bind λd μ=>match br (.many is) d σ with
  | some σ'=>.ok (.nx σ') μ
  | none=>.stuck
 | .setx o i v,σ,μ=>(evE φ v σ μ).bind λd μ=>(evE φ o σ μ).bind λx μ=>(evE φ i σ μ).bind λy μ=>(yh x y d μ).bind λ_ μ=>.ok (.nx σ) μ
 | .augx op o i v,σ,μ=>(evE φ o σ μ).bind λx μ=>(evE φ i σ μ).bind λy μ=>(ixL x y μ).bind λold μ=>(evE φ v σ μ).bind λd μ=>(Er op old d μ).bind λz μ=>(yh x y z μ).bind λ_ μ=>.ok (.nx σ) μ
 | .setxT o i v,σ,μ=>(evE φ v σ μ).bind λd μ=>(evE φ o σ μ).bind λx μ=>(cc φ i σ μ).bind λy μ=>(Di x y d μ).bind λ_ μ=>.ok (.nx σ) μ
 | .ex e,σ,μ=>(evE φ e σ μ).bind λ_ μ=>.ok (.nx σ) μ
 | .ite c a b,σ,μ=>(evE φ c σ μ).bind λx μ=>match x with
  | .bl k=>if k=true then b8 a σ μ else b8 b σ μ
  | _=>.stuck
 | .loop tg it b,σ,μ=>(evI φ it σ μ).bind λds μ=>de ds.2 (λd σ μ=>cg (br tg d σ) λσ'=>b8 b σ' μ) ds.1 σ μ
 | .ret e,σ,μ=>(evE φ e σ μ).bind λd μ=>.ok (.rt d) μ
 | .raise c es,σ,μ=>(cc φ es σ μ).bind λ_ μ=>.ok (.rt (.tup [.bl false,.str c])) μ
 | .pl s,σ,μ=>(evS s σ μ).bind kPl
 | .callx f es,σ,μ=>(cc φ es σ μ).bind λds μ=>(jl μ.length (φ f ds μ)).bind (kTh σ)
 | .mapx i cap nl tg it f es,σ,μ=>(evI φ it σ μ).bind λds μ =>
   (Et ds.2 (λd μ=>cg (br tg d (cap.map (λi=>(σ[i]?).getD none)++List.replicate nl none)) λσ'=>(cc φ es σ' μ).bind λas μ=>Dk μ.length (φ f as μ)) ds.1 μ).bind (kMx σ i [])
 | .tryi i j e,σ,μ=>(evE φ e σ μ).bind (kTi σ i j)
 | .tryc f es ei h,σ,μ=>(cc φ es σ μ).bind λds μ=>(jl μ.length (φ f ds μ)).bind (Cb σ ei λσ μ=>b8 h σ μ)
 | .pass,σ,μ=>.ok (.nx σ) μ
 | .brk,σ,μ=>.ok (.bk σ) μ
 | .cont,σ,μ=>.ok (.ct σ) μ
 | .never,_,_=>.stuck
def b8:Sms->Sl->Sto->Res Fl
 | .nil,σ,μ=>.ok (.nx σ) μ
 | .cons s r,σ,μ=>(evS s σ μ).bind λfl μ=>match fl with
  | .nx σ'=>b8 r σ' μ
  | fl=>.ok fl μ
end
end
structure Df where
 np:Nat
 nn:Nat
 body:Sms
def qg (φ:Phi) (f:Df) (ds:List D) (μ:Sto):Res D :=
 if ds.length=f.np then(b8 φ f.body (ds.map some++List.replicate (f.nn-f.np) none) μ).bind λfl μ=>match fl with
  | .nx _=>.ok .non μ
  | .rt d=>.ok d μ
  | _=>.stuck
 else .stuck
def ai (T:List Df):Nat->Phi
 | 0=>λ_ _ _=>.stuck
 | n+1=>λf ds μ=>match T[f]? with
  | some d=>qg (ai T n) d ds μ
  | none=>.stuck
open PySem PySem.Spec PyProof.Rows L2
abbrev St:=L2.St
theorem _root_.L2.FzL.sq {K:PySem.W.Frag} {H:Hp} {a:Addr} {xs:List V} (h:FzL K H a xs):SqL K H a xs:=by
 rcases h with⟨o,h⟩ | ⟨its,n,h,hz,hv⟩
 ·exact .inl (.inr ⟨o,h⟩)
 ·exact .inr ⟨_,its.toArray,n,h,rfl,rfl,rfl,by rw[AM,<-hv.length];exact hz,by simpa using hv⟩
def LsL (K:PySem.W.Frag) (H:Hp) (a:Addr) (xs:List V):Prop:=H a=some (.lst xs)\/FzL K H a xs
theorem LsL.sq {K:PySem.W.Frag} {H:Hp} {a:Addr} {xs:List V} (h:LsL K H a xs):SqL K H a xs:=by
 rcases h with h | h
 ·exact .of h
 ·exact h.sq
theorem _root_.L2.Inv.ls {X:Cx} {pins:List (Addr×Obj)} {σ:St} {H:Hp} {s:Shared} {a:Addr} {xs:List V} (I:Inv X pins σ H s) (h:LsL X.K H a xs) :
  xs.length<=sizeLine/\∃(its:List Value) (n:Nat),ax xs its/\xs.length=its.length/\s.heap.get? a=some {cls:=.type "list",data:=.seq its.toArray n}:=by
 rcases h with h | ⟨o,h⟩ | ⟨its,n,h,hz,hv⟩
 ·obtain⟨z,its,n,hv,e⟩:=I.hok a _ h
  exact⟨z,its,n,hv,hv.length,e⟩
 ·obtain⟨_,z,its,n,hv,e⟩:=I.hok a _ h
  exact⟨z,its,n,hv,hv.length,e⟩
 ·exact⟨hz,its,n,hv,hv.length,I.kIn a _ h⟩
structure Ext (H H':Hp):Prop where
 tups:∀b xs,H b=some (.tup xs)->H' b=some (.tup xs)
 frzs:∀b o u,H b=some (.frz o u)->H' b=some (.frz o u)
theorem Ext.refl (H:Hp):Ext H H:=⟨λ_ _ h=>h,λ_ _ _ h=>h⟩
theorem Ext.trans {H H1 H2:Hp} (a:Ext H H1) (b:Ext H1 H2):Ext H H2:=⟨λc xs h=>b.tups c xs (a.tups c xs h),λc o u h=>b.frzs c o u (a.frzs c o u h)⟩
theorem Ext.new {H:Hp} {p:Addr} {o:HO} (h:H p=none):Ext H (upd H p o) :=
 ⟨λb xs e=>by rw[ah (ae e h)];exact e,λb o u e=>by rw[ah (ae e h)];exact e⟩
theorem _root_.L2.SqT.ext {K:PySem.W.Frag} {H H':Hp} {a:Addr} {xs:List V} (h:SqT K H a xs) (e:Ext H H'):SqT K H' a xs:=by
 rcases h with(h | ⟨o,h⟩) | h
 ·exact .inl (.inl (e.tups _ _ h))
 ·exact .inl (.inr ⟨o,e.frzs _ _ _ h⟩)
 ·exact .inr h
theorem _root_.L2.FzL.ext {K:PySem.W.Frag} {H H':Hp} {a:Addr} {xs:List V} (h:FzL K H a xs) (e:Ext H H'):FzL K H' a xs:=by
 rcases h with⟨o,h⟩ | h
 ·exact .inl ⟨o,e.frzs _ _ _ h⟩
 ·exact .inr h
section
variable (K : PySem.W.Frag) (ι : List Addr) (H : Hp)
mutual
def IsD:D->V->Prop
 | .non,v=>v=.non
 | .bl b,v=>v=.bl b
 | .int i,v=>v=.int i
 | .str x,v=>v=.str x
 | .tup ds,v=>∃a xs,v=.ref a/\SqT K H a xs/\af ds xs
 | .lst ds,v=>∃a xs,v=.ref a/\FzL K H a xs/\af ds xs
 | .loc n,v=>∃a,v=.ref a/\ι[n]? = some a
def af:List D->List V->Prop
 | [],xs=>xs=[]
 | d::ds,xs=>∃v r,xs=v::r/\IsD d v/\af ds r
end
end
section
variable {K : PySem.W.Frag} {ι ι' : List Addr} {H H' : Hp}
mutual
theorem IsD.mono (hp:ι <+: ι') (he:Ext H H'):∀(d:D) (v:V),IsD K ι H d v->IsD K ι' H' d v
 | .non,_,h=>by simpa[IsD]using h
 | .bl b,_,h=>by simpa[IsD]using h
 | .int i,_,h=>by simpa[IsD]using h
 | .str x,_,h=>by simpa[IsD]using h
 | .tup ds,v,h=>by
  simp![IsD]at h ⊢
  obtain⟨a,xs,e,q,r⟩:=h
  exact⟨a,xs,e,q.ext he,af.mono hp he ds xs r⟩
 | .lst ds,v,h=>by
  simp![IsD]at h ⊢
  obtain⟨a,xs,e,q,r⟩:=h
  exact⟨a,xs,e,q.ext he,af.mono hp he ds xs r⟩
 | .loc n,v,h=>by
  simp![IsD]at h ⊢
  obtain⟨a,e,q⟩:=h
  obtain⟨t,rfl⟩:=hp
  exact⟨a,e,by rw[AG (AI.mp q).1];exact q⟩
theorem af.mono (hp:ι <+: ι') (he:Ext H H'):∀(ds:List D) (xs:List V),af K ι H ds xs->af K ι' H' ds xs
 | [],xs,h=>by simpa[af]using h
 | d::ds,xs,h=>by
  simp![af]at h ⊢
  obtain⟨v,r,e,q,t⟩:=h
  exact⟨v,r,e,IsD.mono hp he d v q,af.mono hp he ds r t⟩
end
theorem af.length:∀{ds:List D} {xs:List V},af K ι H ds xs->xs.length=ds.length
 | [],xs,h=>by simp![af]at h;subst h;rfl
 | d::ds,xs,h=>by
  simp![af]at h
  obtain⟨v,r,rfl,_,t⟩:=h
  simp[af.length t]
theorem af.get:∀{ds:List D} {xs:List V} {i:Nat} {d:D},af K ι H ds xs->ds[i]? = some d->∃v,xs[i]? = some v/\IsD K ι H d v
 | [],_,_,_,_,e=>by simp at e
 | d::ds,xs,0,_,h,e=>by
  simp![af]at h
  obtain⟨v,r,rfl,q,_⟩:=h
  simp at e;subst e
  exact⟨v,rfl,q⟩
 | d::ds,xs,i+1,x,h,e=>by
  simp![af]at h
  obtain⟨v,r,rfl,_,t⟩:=h
  obtain⟨w,h1,h2⟩:=af.get (i:=i) (d:=x) t (by simpa using e)
  exact⟨w,by simpa using h1,h2⟩
theorem af.append:∀{ds es:List D} {xs ys:List V},af K ι H ds xs->af K ι H es ys->af K ι H (ds++es) (xs++ys)
 | [],_,_,_,h,g=>by simp![af]at h;subst h;exact g
 | d::ds,es,xs,ys,h,g=>by
  simp![af]at h
  obtain⟨v,r,rfl,q,t⟩:=h
  simp![Db,af]
  exact⟨v,r++ys,rfl,q,af.append t g⟩
theorem af.one {d:D} {v:V} (h:IsD K ι H d v):af K ι H [d] [v]:=by
 simp![af];exact⟨v,[],rfl,h,rfl⟩
theorem af.rep {ds:List D} {xs:List V} (h:af K ι H ds xs):∀k:Nat,af K ι H (List.replicate k ds).flatten (List.replicate k xs).flatten
 | 0=>by simp[af]
 | k+1=>by
  simp![BW,CV]
  exact h.append (af.rep h k)
theorem af.ints:∀(ns:List Int),af K ι H (ns.map D.int) (ns.map V.int)
 | []=>by simp[af]
 | n::r=>by
  simp![BJ,af]
  exact⟨_,_,rfl,by simp[IsD],af.ints r⟩
theorem IsD.puren:∀(k:Nat) (d:D) (v:V),D.pureN k d=true->IsD K ι H d v->IsD K ι' H d v:=by
 have list:∀(k:Nat),(∀(d:D) (v:V),D.pureN k d=true->IsD K ι H d v->IsD K ι' H d v) ->
   ∀(ds:List D) (xs:List V),ds.all (D.pureN k)=true->af K ι H ds xs->af K ι' H ds xs:=by
  intro k ih ds
  induction ds with
  | nil=>intro xs _ h;simpa[af]using h
  | cons d ds ihd =>
   intro xs hp h
   simp![af]at h ⊢
   simp![BK,AK]at hp
   obtain⟨v,r,e,q,t⟩:=h
   exact⟨v,r,e,ih d v hp.1 q,ihd r hp.2 t⟩
 intro k
 induction k with
 | zero =>
  intro d v hp h
  cases d<;>simp_all[D.pureN,IsD]
 | succ k ih =>
  intro d v hp h
  cases d with
  | tup ds =>
   simp![D.pureN]at hp
   simp![IsD]at h ⊢
   obtain⟨a,xs,e,q,r⟩:=h
   exact⟨a,xs,e,q,list k ih ds xs hp r⟩
  | lst ds =>
   simp![D.pureN]at hp
   simp![IsD]at h ⊢
   obtain⟨a,xs,e,q,r⟩:=h
   exact⟨a,xs,e,q,list k ih ds xs hp r⟩
  | loc n=>simp[D.pureN]at hp
  | _=>simpa[IsD]using h
theorem IsD.pur {d:D} {v:V} (hp:d.pure=true) (h:IsD K ι H d v):IsD K ι' H d v:=IsD.puren 8 d v hp h
theorem af.pur {ds:List D} {xs:List V} (hp:ds.all (D.pureN 8)=true) (h:af K ι H ds xs):af K ι' H ds xs:=by
 induction ds generalizing xs with
 | nil=>simpa[af]using h
 | cons d ds ih =>
  simp![af]at h ⊢
  simp![BK,AK]at hp
  obtain⟨v,r,e,q,t⟩:=h
  exact⟨v,r,e,IsD.pur hp.1 q,ih hp.2 t⟩
end
section
variable (K : PySem.W.Frag) (ι : List Addr) (H : Hp)
def Dl (kvs:List (D×D)) (xs:List (Key×V)):Prop :=
 Paired (fun(p:D×D) (q:Key×V)=>IsD K [] H p.1 (kV q.1)/\IsD K [] H p.2 q.2) kvs xs
def F8 (kvs:List (D×D)) (xs:List (List Key×V)):Prop :=
 Paired (fun(p:D×D) (q:List Key×V)=>(∃ds,p.1=.tup ds/\af K [] H ds (q.1.map kV))/\IsD K [] H p.2 q.2) kvs xs
def OIs (a:Addr):O->Prop
 | .l ds=>∃xs,H a=some (.lst xs)/\af K [] H ds xs
 | .r ds=>∃xs,H a=some (.lst xs)/\af K ι H ds xs
 | .d kvs=>∃xs,H a=some (.dK xs)/\Dl K H kvs xs
 | .dt kvs=>∃xs,H a=some (.dT xs)/\F8 K H kvs xs
 | .x c=>∃cls,PySem.W.nsIn K mainGlobals c=some (some cls)/\H a=some (B7 a cls)
 | .dead=>∃u,H a=some u
structure Sim (μ:Sto):Prop where
 len:ι.length=μ.length
 nd:ι.Nodup
 obj:∀(n:Nat) a o,ι[n]? = some a->μ[n]? = some o->OIs K ι H a o
def c8 (σ:Sl) (σv:St):Prop:=∀(i:Nat) d,σ[i]? = some (some d)->∃v,σv[i]? = some (some v)/\IsD K ι H d v
end
section
variable {K : PySem.W.Frag} {ι ι' : List Addr} {H H' : Hp} {μ : Sto} {σ : Sl} {σv : St}
theorem c8.mono (h:c8 K ι H σ σv) (hp:ι <+: ι') (he:Ext H H'):c8 K ι' H' σ σv:=λi d e=>by
 obtain⟨v,q,r⟩:=h i d e
 exact⟨v,q,IsD.mono hp he d v r⟩
theorem c8.set (h:c8 K ι H σ σv) (hl:σ.length=σv.length) {i:Nat} {d:D} {v:V} (hd:IsD K ι H d v):c8 K ι H (σ.set i (some d)) (σv.set i (some v)):=λj e q=>by
 by_cases hj:i=j
 ·subst hj
  by_cases hi:i<σ.length
  ·rw[AT hi]at q
   cases q
   exact⟨v,by rw[AT (by lia)],hd⟩
  ·rw[CQ (by simp;lia)]at q;cases q
 ·rw[AL hj]at q
  obtain⟨w,q1,q2⟩:=h j e q
  exact⟨w,by rw[AL hj];exact q1,q2⟩
theorem OIs.ne (h:OIs K ι H a o):∃u,H a=some u:=by
 cases o with
 | l ds=>obtain⟨xs,e,_⟩:=h;exact⟨_,e⟩
 | r ds=>obtain⟨xs,e,_⟩:=h;exact⟨_,e⟩
 | d kvs=>obtain⟨xs,e,_⟩:=h;exact⟨_,e⟩
 | dt kvs=>obtain⟨xs,e,_⟩:=h;exact⟨_,e⟩
 | x c=>obtain⟨_,_,e⟩:=h;exact⟨_,e⟩
 | dead=>exact h
theorem OIs.mono {a:Addr} {o:O} (h:OIs K ι H a o) (hp:ι <+: ι') (he:Ext H H') (ha:H' a=H a):OIs K ι' H' a o:=by
 cases o with
 | l ds=>obtain⟨xs,e,q⟩:=h;exact⟨xs,ha.trans e,af.mono (AD _) he ds xs q⟩
 | r ds=>obtain⟨xs,e,q⟩:=h;exact⟨xs,ha.trans e,af.mono hp he ds xs q⟩
 | d kvs =>
  obtain⟨xs,e,q⟩:=h
  exact⟨xs,ha.trans e,Paired.mapP q λp r z=>⟨IsD.mono (AD _) he _ _ z.1,IsD.mono (AD _) he _ _ z.2⟩⟩
 | dt kvs =>
  obtain⟨xs,e,q⟩:=h
  exact⟨xs,ha.trans e,Paired.mapP q λp r z=>⟨let ⟨ds,e,t⟩:=z.1;⟨ds,e,af.mono (AD _) he _ _ t⟩,IsD.mono (AD _) he _ _ z.2⟩⟩
 | x c=>obtain⟨k,q,e⟩:=h;exact⟨k,q,ha.trans e⟩
 | dead=>obtain⟨u,e⟩:=h;exact⟨u,ha.trans e⟩
theorem Sim.at (h:Sim K ι H μ) {n:Nat} {o:O} (e:μ[n]? = some o):∃a,ι[n]? = some a/\OIs K ι H a o:=by
 have hn:n<ι.length:=by rw[h.len];exact(AI.mp e).1
 exact⟨ι[n],AA hn,h.obj n _ o (AA hn) e⟩
theorem Sim.used (h:Sim K ι H μ) {n:Nat} {a:Addr} (e:ι[n]? = some a):∃u,H a=some u:=by
 have hn:n<μ.length:=by rw[<-h.len];exact(AI.mp e).1
 exact(h.obj n a _ e (AA hn)).ne
theorem Sim.new (h:Sim K ι H μ) {p:Addr} {o:HO} (hp:H p=none):Sim K ι (upd H p o) μ :=
 ⟨h.len,h.nd,λn a ob e1 e2=>by
  obtain⟨u,hu⟩:=h.used e1
  exact(h.obj n a ob e1 e2).mono (AD _) (.new hp) (ah (ae hu hp))⟩
theorem Sim.push (h:Sim K ι H μ) {p:Addr} {u:HO} {o:O} (hp:H p=none) (ho:OIs K (ι++[p]) (upd H p u) p o):Sim K (ι++[p]) (upd H p u) (μ++[o]):=by
 have hne:∀a∈ι,a≠p:=λa ha z=>by
  obtain⟨n,hn,e⟩:=List.mem_iff_getElem.mp ha
  obtain⟨u,hu⟩:=h.used (n:=n) (by rw[AA hn,e])
  rw[z,hp]at hu;cases hu
 refine⟨by simp[h.len],?_,λn a ob e1 e2=>?_⟩
 ·refine List.nodup_append.mpr ⟨h.nd,by simp,?_⟩
  intro a ha b hb
  have:b=p:=by simpa using hb
  subst this
  exact hne a ha
 ·by_cases hn:n<ι.length
  ·rw[AG hn]at e1
   rw[AG (by rw[<-h.len];exact hn)]at e2
   exact(h.obj n a ob e1 e2).mono ⟨[p],rfl⟩ (.new hp) (ah (hne a (DS e1)))
  ·have hm:n=ι.length:=by
    have:=(AI.mp e1).1
    simp at this;lia
   subst hm
   simp at e1
   rw[h.len]at e2
   simp at e2
   subst e1;subst e2
   exact ho
end
def cy {α β:Type} (K:PySem.W.Frag) (R:List Addr->Hp->α->β->Prop) (ι:List Addr) (H:Hp) (r:Res α) (Q:β->Hp->Prop):Prop:=match r with
 | .ok d μ'=>∀ι' v H',ι <+: ι'->Ext H H'->Sim K ι' H' μ'->R ι' H' d v->Q v H'
 | .exc _ _ _=>False
 | .stuck=>False
abbrev RD (K:PySem.W.Frag):List Addr->Hp->D->V->Prop:=λι H d v=>IsD K ι H d v
abbrev RDs (K:PySem.W.Frag):List Addr->Hp->List D->List V->Prop:=λι H d v=>af K ι H d v
abbrev RB:List Addr->Hp->Bool->Bool->Prop:=λ_ _ d v=>d=v
section
variable {α β γ δ : Type} {K : PySem.W.Frag} {R : List Addr -> Hp -> α -> β -> Prop} {S : List Addr -> Hp -> γ -> δ -> Prop} {ι ι' : List Addr} {H H' : Hp}
theorem cy.mono {r:Res α} {Q:β->Hp->Prop} (h:cy K R ι H r Q) (hp:ι <+: ι') (he:Ext H H'):cy K R ι' H' r Q:=by
 cases r with
 | ok d μ=>exact λι2 v H2 p e s q=>h ι2 v H2 (hp.trans p) (he.trans e) s q
 | exc _ _ _=>exact h
 | stuck=>exact h
theorem cy.imp {r:Res α} {Q Q':β->Hp->Prop} (h:cy K R ι H r Q) (hq:∀v H',Q v H'->Q' v H'):cy K R ι H r Q':=by
 cases r with
 | ok d μ=>exact λι2 v H2 p e s q=>hq _ _ (h ι2 v H2 p e s q)
 | exc _ _ _=>exact h
 | stuck=>exact h
theorem cy.ok {d:α} {μ:Sto} {v:β} {Q:β->Hp->Prop} (h:cy K R ι H (.ok d μ) Q) (hs:Sim K ι H μ) (hr:R ι H d v):Q v H:=h ι v H (AD _) (.refl _) hs hr
theorem cy.bind {x:Res α} {f:α->Sto->Res γ} {Q:δ->Hp->Prop} (h:cy K S ι H (x.bind f) Q) :
  ∃d μ1,x=.ok d μ1/\cy K S ι H (f d μ1) Q:=by
 cases x with
 | ok d μ=>exact⟨d,μ,rfl,h⟩
 | exc _ _ _=>exact h.elim
 | stuck=>exact h.elim
end
def tE (K:PySem.W.Frag) (φ:Phi) (x:Ex):TE:=λσv H Q=>∃ι σ μ,Sim K ι H μ/\c8 K ι H σ σv/\cy K (RD K) ι H (evE φ x σ μ) Q
def tEs (K:PySem.W.Frag) (φ:Phi) (x:Exs):TA:=λσv H Q=>∃ι σ μ,Sim K ι H μ/\c8 K ι H σ σv/\cy K (RDs K) ι H (cc φ x σ μ) Q
def tT (K:PySem.W.Frag) (φ:Phi) (x:Ex):TT:=λσv H Q=>∃ι σ μ,Sim K ι H μ/\c8 K ι H σ σv/\cy K RB ι H ((evE φ x σ μ).bind λd μ=>Eu d μ) Q
theorem PE.imp {X:Cx} {e:Expr} {t t':TE} (h:PE X e t) (i:∀σ H Q,t' σ H Q->t σ H Q):PE X e t':=λpins s σ H Q I q=>h pins s σ H Q I (i σ H Q q)
theorem PA.imp {X:Cx} {e:List Expr} {t t':TA} (h:PA X e t) (i:∀σ H Q,t' σ H Q->t σ H Q):PA X e t':=λpos pins s σ H Q I q=>h pos pins s σ H Q I (i σ H Q q)
theorem PT.imp {X:Cx} {e:Expr} {t t':TT} (h:PT X e t) (i:∀σ H Q,t' σ H Q->t σ H Q):PT X e t':=λpins s σ H Q I q=>h pins s σ H Q I (i σ H Q q)
theorem PW.imp {X:Cx} {e:Expr} {t t':TT} (h:PW X e t) (i:∀σ H Q,t' σ H Q->t σ H Q):PW X e t':=λwh pins s σ H Q I q=>h wh pins s σ H Q I (i σ H Q q)
section
variable {X : Cx} {φ : Phi} {a b c : Expr} {xa xb xc : Ex} {pos : Pos}
theorem Dm {i:Nat} {x:Str} (hN:X.N[i]? = some x) (hv:Vis X.env.scope x) (hd:(x==("__debug__":Str))=false) (hcd:(x==("__classdict__":Str))=false):PE X (.Name x pos) (tE X.K φ (.var i)) :=
 PE.imp (sy hN hv hd hcd) λσv H Q ⟨ι,σ,μ,hS,hL,h⟩=>by
  simp![evE]at h
  split at h
  ·rename_i d e
   obtain⟨v,e1,e2⟩:=hL i d e
   exact⟨v,e1,h.ok hS e2⟩
  ·exact h.elim
theorem Dn {i:Int} {j:Nat}:PE X (.Constant (.int i) j pos) (tE X.K φ (.cst (.int i))) :=
 PE.imp yo λσv H Q ⟨ι,σ,μ,hS,hL,h⟩=>by simp![evE]at h;exact h.ok hS (by simp[IsD])
theorem F9 {i:Bool} {j:Nat}:PE X (.Constant (.bool i) j pos) (tE X.K φ (.cst (.bl i))) :=
 PE.imp Co λσv H Q ⟨ι,σ,μ,hS,hL,h⟩=>by simp![evE]at h;exact h.ok hS (by simp[IsD])
theorem Dp {j:Nat}:PE X (.Constant .none j pos) (tE X.K φ (.cst .non)) :=
 PE.imp yq λσv H Q ⟨ι,σ,μ,hS,hL,h⟩=>by simp![evE]at h;exact h.ok hS (by simp[IsD])
theorem Dq {i:Str} {j:Nat}:PE X (.Constant (.str i) j pos) (tE X.K φ (.cst (.str i))) :=
 PE.imp yr λσv H Q ⟨ι,σ,μ,hS,hL,h⟩=>by simp![evE]at h;exact h.ok hS (by simp[IsD])
theorem two {σv:St} {H:Hp} {ι:List Addr} {σ:Sl} {μ:Sto} {f:D->D->Sto->Res D} {Q:VK} {R:V->V->Hp->Prop} (hS:Sim X.K ι H μ) (hL:c8 X.K ι H σ σv)
  (h:cy X.K (RD X.K) ι H ((evE φ xa σ μ).bind λx μ=>(evE φ xb σ μ).bind λy μ=>f x y μ) Q)
  (k:∀ι' H' d e x y μ',Sim X.K ι' H' μ'->IsD X.K ι' H' d x->IsD X.K ι' H' e y->cy X.K (RD X.K) ι' H' (f d e μ') Q->R x y H') :
  tE X.K φ xa σv H λx H1=>tE X.K φ xb σv H1 λy H2=>R x y H2:=by
 obtain⟨d,μ1,e1,h⟩:=h.bind
 refine⟨ι,σ,μ,hS,hL,?_⟩
 rw[e1]
 intro ι1 x H1 p1 x1 s1 d1
 obtain⟨e,μ2,e2,h⟩:=h.bind
 refine⟨ι1,σ,μ1,s1,hL.mono p1 x1,?_⟩
 rw[e2]
 intro ι2 y H2 p2 x2 s2 d2
 exact k ι2 H2 d e x y μ2 s2 (IsD.mono p2 x2 d x d1) d2 (h.mono (p1.trans p2) (x1.trans x2))
def rOp (K:PySem.W.Frag) (f:D->D->Sto->Res D):R2:=λx y H Q=>∃ι d e μ,Sim K ι H μ/\IsD K ι H d x/\IsD K ι H e y/\cy K (RD K) ι H (f d e μ) Q
theorem Dr {op:Operator} {m:Mk} (ho:OpR X (binaryOp op) (rOp X.K (opD op m))) (ha:PE X a (tE X.K φ xa)) (hb:PE X b (tE X.K φ xb)):PE X (.BinOp a op b pos) (tE X.K φ (.bin op m xa xb)) :=
 PE.imp (Cv ho ha hb) λσv H Q ⟨ι,σ,μ,hS,hL,h⟩=>by
  simp![evE]at h
  exact two hS hL h λι' H' d e x y μ' s d1 d2 p=>⟨ι',d,e,μ',s,d1,d2,p⟩
theorem zt:PA X [] (tEs X.K φ .nil) :=
 PA.imp j0 λσv H Q ⟨ι,σ,μ,hS,hL,h⟩=>by simp![cc]at h;exact h.ok hS (by simp[af])
theorem ua {es:List Expr} {xs:Exs} (ha:PE X a (tE X.K φ xa)) (hb:PA X es (tEs X.K φ xs)) (hs:starEach (a::es) X.env=(false,eval a X.env)::starEach es X.env):PA X (a::es) (tEs X.K φ (.cons xa xs)) :=
 PA.imp (cz ha hb hs) λσv H Q ⟨ι,σ,μ,hS,hL,h⟩=>by
  simp![cc]at h
  obtain⟨d,μ1,e1,h⟩:=h.bind
  refine⟨ι,σ,μ,hS,hL,?_⟩
  rw[e1]
  intro ι1 x H1 p1 x1 s1 d1
  obtain⟨e,μ2,e2,h⟩:=h.bind
  refine⟨ι1,σ,μ1,s1,hL.mono p1 x1,?_⟩
  rw[e2]
  intro ι2 y H2 p2 x2 s2 d2
  refine h ι2 (x::y) H2 (p1.trans p2) (x1.trans x2) s2 ?_
  show af _ _ _ _ _
  simp![af]
  exact⟨x,y,rfl,IsD.mono p2 x2 d x d1,d2⟩
theorem Ds {x:Ex} {σv:St} {H:Hp} {Q:Bool->Hp->Prop} (h:tT X.K φ x σv H Q):tE X.K φ x σv H λv H'=>∃k,v=.bl k/\Q k H':=by
 obtain⟨ι,σ,μ,hS,hL,h⟩:=h
 obtain⟨d,μ1,e1,h⟩:=h.bind
 refine⟨ι,σ,μ,hS,hL,?_⟩
 rw[e1]
 intro ι1 x H1 p1 x1 s1 d1
 cases d with
 | bl k=>exact⟨k,by simpa[IsD]using d1,h ι1 k H1 p1 x1 s1 rfl⟩
 | _=>exact h.elim
theorem wy {x:Ex} (ha:PE X a (tE X.K φ x)) (he:∀whole,isTrue a X.env whole=(do let v <-whole;standAt a.pos;holding [v] (truthy v))):PT X a (tT X.K φ x) :=
 PT.imp (qk ha he) λσv H Q h=>by
  have q:=Ds h
  obtain⟨ι,σ,μ,hS,hL,q⟩:=q
  exact⟨ι,σ,μ,hS,hL,q.imp λv H' ⟨k,e,z⟩=>⟨k,by subst e;exact rfl,z⟩⟩
theorem zu (ha:PT X a (tT X.K φ xa)):PT X (.UnaryOp .Not a pos) (tT X.K φ (.not xa)) :=
 PT.imp (yu ha) λσv H Q ⟨ι,σ,μ,hS,hL,h⟩=>by
  simp![evE]at h
  rw[Res.bind_assoc]at h
  obtain⟨d,μ1,e1,h⟩:=h.bind
  refine⟨ι,σ,μ,hS,hL,?_⟩
  rw[e1]
  cases d with
  | bl k=>exact λι1 x H1 p1 x1 s1 d1=>h ι1 (!x) H1 p1 x1 s1 (by cases d1;rfl)
  | _=>exact h.elim
theorem zv (ha:PE X a (tE X.K φ xa)):PE X (.UnaryOp .Not a pos) (tE X.K φ (.not xa)) :=
 PE.imp (yx ha) λσv H Q ⟨ι,σ,μ,hS,hL,h⟩=>by
  simp![evE]at h
  obtain⟨d,μ1,e1,h⟩:=h.bind
  refine⟨ι,σ,μ,hS,hL,?_⟩
  rw[e1]
  intro ι1 x H1 p1 x1 s1 d1
  cases d with
  | bl k=>exact⟨k,by simpa[IsD]using d1,h ι1 (.bl !k) H1 p1 x1 s1 (by simp[IsD])⟩
  | _=>exact h.elim
theorem zw {rest:List Expr} (ha:PE X a (tE X.K φ xa)) (hb:PE X (.BoolOp .And (b::rest) pos) (tE X.K φ xb)):PE X (.BoolOp .And (a::b::rest) pos) (tE X.K φ (.and xa xb)) :=
 PE.imp (yw ha hb) λσv H Q ⟨ι,σ,μ,hS,hL,h⟩=>by
  simp![evE]at h
  obtain⟨d,μ1,e1,h⟩:=h.bind
  refine⟨ι,σ,μ,hS,hL,?_⟩
  rw[e1]
  intro ι1 x H1 p1 x1 s1 d1
  cases d with
  | bl k =>
   refine⟨k,by simpa[IsD]using d1,?_⟩
   cases k with
   | true=>exact⟨ι1,σ,μ1,s1,hL.mono p1 x1,(show cy _ _ _ _ (evE φ xb σ μ1) _ from h).mono p1 x1⟩
   | false=>exact h ι1 (.bl false) H1 p1 x1 s1 (by simp[IsD])
  | _=>exact h.elim
theorem Dt {rest:List Expr} (ha:PT X a (tT X.K φ xa)) (hb:PW X (.BoolOp .Or (b::rest) pos) (tT X.K φ xb)):PW X (.BoolOp .Or (a::b::rest) pos) (tT X.K φ (.or xa xb)) :=
 PW.imp (Cq ha hb) λσv H Q ⟨ι,σ,μ,hS,hL,h⟩=>by
  simp![evE]at h
  rw[Res.bind_assoc]at h
  obtain⟨d,μ1,e1,h⟩:=h.bind
  refine⟨ι,σ,μ,hS,hL,?_⟩
  rw[e1]
  cases d with
  | bl k =>
   intro ι1 x H1 p1 x1 s1 d1
   cases d1
   cases k with
   | true=>exact h ι1 true H1 p1 x1 s1 rfl
   | false=>exact⟨ι1,σ,μ1,s1,hL.mono p1 x1,(show cy _ _ _ _ ((evE φ xb σ μ1).bind _) _ from h).mono p1 x1⟩
  | _=>exact h.elim
end
def b9 (K:PySem.W.Frag) (ι:List Addr) (H:Hp) (r:Res Fl) (E:Ends):Prop:=match r with
 | .ok (.nx σ') μ'=>∀ι' σv H',ι <+: ι'->Ext H H'->Sim K ι' H' μ'->c8 K ι' H' σ' σv->σ'.length=σv.length->E.nx σv H'
 | .ok (.bk σ') μ'=>∀ι' σv H',ι <+: ι'->Ext H H'->Sim K ι' H' μ'->c8 K ι' H' σ' σv->σ'.length=σv.length->E.bk σv H'
 | .ok (.ct σ') μ'=>∀ι' σv H',ι <+: ι'->Ext H H'->Sim K ι' H' μ'->c8 K ι' H' σ' σv->σ'.length=σv.length->E.ct σv H'
 | .ok (.rt d) μ'=>∀ι' v H',ι <+: ι'->Ext H H'->Sim K ι' H' μ'->IsD K ι' H' d v->E.rt v H'
 | .exc _ _ _=>False
 | .stuck=>False
theorem b9.mono {K:PySem.W.Frag} {ι ι':List Addr} {H H':Hp} {r:Res Fl} {E:Ends} (h:b9 K ι H r E) (hp:ι <+: ι') (he:Ext H H'):b9 K ι' H' r E:=by
 cases r with
 | ok f μ=>cases f<;>exact λι2 v H2 p e=>h ι2 v H2 (hp.trans p) (he.trans e)
 | exc _ _ _=>exact h
 | stuck=>exact h
theorem b9.bind {α:Type} {K:PySem.W.Frag} {ι:List Addr} {H:Hp} {E:Ends} {x:Res α} {f:α->Sto->Res Fl} (h:b9 K ι H (x.bind f) E):∃d μ1,x=.ok d μ1/\b9 K ι H (f d μ1) E:=by
 cases x with
 | ok d μ=>exact⟨d,μ,rfl,h⟩
 | exc _ _ _=>exact h.elim
 | stuck=>exact h.elim
def tS (K:PySem.W.Frag) (φ:Phi) (x:Sm):TS:=λE σv H=>∃ι σ μ,Sim K ι H μ/\c8 K ι H σ σv/\σ.length=σv.length/\b9 K ι H (evS φ x σ μ) E
def tSs (K:PySem.W.Frag) (φ:Phi) (x:Sms):TS:=λE σv H=>∃ι σ μ,Sim K ι H μ/\c8 K ι H σ σv/\σ.length=σv.length/\b9 K ι H (b8 φ x σ μ) E
theorem PS.imp {X:Cx} {e:Stmt} {t t':TS} (h:PS X e t) (i:∀E σ H,t' E σ H->t E σ H):PS X e t':=λpins s σ H E I q=>h pins s σ H E I (i E σ H q)
theorem PSs.imp {X:Cx} {e:List Stmt} {t t':TS} (h:PSs X e t) (i:∀E σ H,t' E σ H->t E σ H):PSs X e t':=λpins s σ H E I q=>h pins s σ H E I (i E σ H q)
section
variable {X : Cx} {φ : Phi} {e : Expr} {x : Ex} {pos : Pos} {s : Stmt} {ss : List Stmt} {xs : Sm} {xss : Sms}
theorem Du:PSs X [] (tSs X.K φ .nil) :=
 PSs.imp l9 λE σv H ⟨ι,σ,μ,hS,hL,hl,h⟩=>by
  simp![b8]at h
  exact h ι σv H (AD _) (.refl _) hS hL hl
theorem zx (h1:PS X s (tS X.K φ xs)) (h2:PSs X ss (tSs X.K φ xss)):PSs X (s::ss) (tSs X.K φ (.cons xs xss)) :=
 PSs.imp (jz h1 h2) λE σv H ⟨ι,σ,μ,hS,hL,hl,h⟩=>by
  simp![b8]at h
  refine⟨ι,σ,μ,hS,hL,hl,?_⟩
  obtain⟨f,μ1,e1,h⟩:=h.bind
  rw[e1]
  cases f with
  | nx σ'=>exact λι1 σ1 H1 p1 x1 s1 l1 z1=>⟨ι1,σ',μ1,s1,l1,z1,(show b9 _ _ _ (b8 φ xss σ' μ1) _ from h).mono p1 x1⟩
  | rt d=>exact h
  | bk σ'=>exact h
  | ct σ'=>exact h
theorem Dw (he:PE X e (tE X.K φ x)):PS X (.Return (some e) pos) (tS X.K φ (.ret x)) :=
 PS.imp (yy he) λE σv H ⟨ι,σ,μ,hS,hL,hl,h⟩=>by
  simp![evS]at h
  obtain⟨d,μ1,e1,h⟩:=h.bind
  refine⟨ι,σ,μ,hS,hL,?_⟩
  rw[e1]
  exact h
theorem Ga {c:Expr} {xc:Ex} {a b:List Stmt} {xa xb:Sms} (hc:PT X c (tT X.K φ xc)) (ha:PSs X a (tSs X.K φ xa)) (hb:PSs X b (tSs X.K φ xb)):PS X (.If c a b pos) (tS X.K φ (.ite xc xa xb)) :=
 PS.imp (yz hc ha hb) λE σv H ⟨ι,σ,μ,hS,hL,hl,h⟩=>by
  simp![evS]at h
  obtain⟨d,μ1,e1,h⟩:=h.bind
  refine⟨ι,σ,μ,hS,hL,?_⟩
  rw[e1]
  cases d with
  | bl k =>
   intro ι1 x H1 p1 x1 s1 d1
   cases d1
   cases k with
   | true=>exact⟨ι1,σ,μ1,s1,hL.mono p1 x1,hl,(show b9 _ _ _ (b8 φ xa σ μ1) _ from h).mono p1 x1⟩
   | false=>exact⟨ι1,σ,μ1,s1,hL.mono p1 x1,hl,(show b9 _ _ _ (b8 φ xb σ μ1) _ from h).mono p1 x1⟩
  | _=>exact h.elim
def slots:Tg->List Nat
 | .one i=>[i]
 | .many is=>is
def tG (K:PySem.W.Frag) (tg:Tg):TG:=λv σv H Q=>∃ι σ d σ',c8 K ι H σ σv/\σ.length=σv.length/\IsD K ι H d v/\br tg d σ=some σ' /\
 ∀σv',c8 K ι H σ' σv'->σ'.length=σv'.length->σv'.length=σv.length->(∀j,j∉slots tg->σv'[j]? = σv[j]?)->Q σv' H
theorem PG.imp {e:Expr} {t t':TG} (h:PG X e t) (i:∀v σ H Q,t' v σ H Q->t v σ H Q):PG X e t':=by
 intro pins s σ H x u Q I r q
 exact h pins s σ H x u Q I r (i _ _ _ _ q)
theorem zy {i:Nat} {y:Str} (hN:X.N.Nodup) (hi:X.N[i]? = some y) (hx:Loc X.env.scope y) (hf:X.fn y=true\/X.env.scope.names.lookup y=some .local):PG X (.Name y pos) (tG X.K (.one i)) :=
 PG.imp (vv hN hi hx hf) λv σv H Q ⟨ι,σ,d,σ',hL,hl,hd,hb,q⟩=>by
  simp![br,BI]at hb
  subst hb
  exact q _ (hL.set hl hd) (by simp[hl]) (by simp) λj hj=>AL (λz=>hj (by simp[slots,z]))
theorem Dx {i:Nat} {y:Str} {pos':Pos} (hN:X.N.Nodup) (hi:X.N[i]? = some y) (hx:Loc X.env.scope y) (hf:X.fn y=true\/X.env.scope.names.lookup y=some .local) (he:PE X e (tE X.K φ x)) (hs:swapsWith e (some (.Name y pos')) pos.line X.env=pure false) :
  PS X (.Assign [.Name y pos'] e pos) (tS X.K φ (.set i x)) :=
 PS.imp (y3 hN hi hx he hs hf) λE σv H ⟨ι,σ,μ,hS,hL,hl,h⟩=>by
  simp![evS]at h
  obtain⟨d,μ1,e1,h⟩:=h.bind
  refine⟨ι,σ,μ,hS,hL,?_⟩
  rw[e1]
  exact λι1 v H1 p1 x1 s1 d1=>h ι1 _ H1 p1 x1 s1 ((hL.mono p1 x1).set hl d1) (by simp[hl])
structure Walk (K:PySem.W.Frag) (ι0:List Addr) (H0:Hp) (J:L2.It) (ds:List D) (g:Gd):Prop where
 len:ds.length<=sizeLine
 go:∀(i:Nat) ι H μ,ι0 <+: ι->Ext H0 H->Sim K ι H μ->gd g μ->i<ds.length->J.go i H
 yld:∀(i:Nat) ι H μ x H',ι0 <+: ι->Ext H0 H->Sim K ι H μ->gd g μ->i<ds.length->J.yld i H x H'->Ext H H'/\Sim K ι H' μ/\∃d,ds[i]? = some d/\IsD K ι H' d x
 stop:∀ι H μ,ι0 <+: ι->Ext H0 H->Sim K ι H μ->gd g μ->J.stop ds.length H
def tI (K:PySem.W.Frag) (φ:Phi) (it:It):TI:=λσv H R=>∃ι σ μ,Sim K ι H μ/\c8 K ι H σ σv /\
 match evI φ it σ μ with
 | .ok (ds,g) μ'=>∀ι' H' J,ι <+: ι'->Ext H H'->Sim K ι' H' μ'->Walk K ι' H' J ds g->R J H'
 | _=>False
theorem PI.imp {tg it:Expr} {t t':TI} (h:PI X tg it t) (i:∀σ H R,t' σ H R->t σ H R):PI X tg it t':=λpins s σ H R I q=>h pins s σ H R I (i _ _ _ q)
theorem Dy {tg it:Expr} {body:List Stmt} {xt:Tg} {xi:It} {xb:Sms} (hp:PassesOwn (model X.prog X.w) X.A X.env X.xe) (hc:X.calm=true) (hi:PI X tg it (tI X.K φ xi)) (hg:PG X tg (tG X.K xt)) (hb:PSs X body (tSs X.K φ xb))
  (hs:∀x,foldedSetIterable it X.env x=pure x):PS X (.For tg it body [] pos) (tS X.K φ (.loop xt xi xb)) :=
 PS.imp (y4 hp hc hi hg hb hs) λE σv H ⟨ι,σ,μ,hS,hL,hl,h⟩=>by
  simp![evS]at h
  obtain⟨⟨ds,g⟩,μ1,e1,h⟩:=h.bind
  refine⟨ι,σ,μ,hS,hL,?_⟩
  rw[e1]
  intro ι1 H1 J p1 x1 s1 wk
  refine⟨λi m σv' H'=>m=ds.length-i/\i<=ds.length/\∃ι' σ' μ',ι1 <+: ι'/\Ext H1 H'/\Sim X.K ι' H' μ'/\c8 X.K ι' H' σ' σv'/\σ'.length=σv'.length /\
   b9 X.K ι' H' (de g (λd σ μ=>cg (br xt d σ) λσ'=>b8 φ xb σ' μ) (ds.drop i) σ' μ') E,⟨ds.length,by simp,Nat.zero_le _,ι1,σ,μ1,AD _,.refl _,s1,hL.mono p1 x1,hl,?_⟩,?_⟩
  ·simpa using(show b9 _ _ _ (de g _ ds σ μ1) _ from h).mono p1 x1
  ·rintro i m σv' H' ⟨rfl,hi,ι',σ',μ',p',x',s',l',z',h'⟩
   by_cases hlt:i<ds.length
   ·obtain⟨d,ed⟩:∃d,ds[i]? = some d:=⟨ds[i],AA hlt⟩
    have edrop:ds.drop i=d::ds.drop (i+1):=by
     rw[EJ hlt]
     rw[AA hlt]at ed
     cases ed;rfl
    rw[edrop]at h'
    simp![de]at h'
    split at h'
    ·rename_i hgd
     right
     refine⟨wk.go i ι' H' μ' p' x' s' hgd hlt,?_⟩
     obtain⟨fl,μ2,e2,h2⟩:=h'.bind
     refine⟨λσ2 H2=>ds.length-(i+1)<ds.length-i/\∃ι2 σs,ι1 <+: ι2/\Ext H1 H2/\Sim X.K ι2 H2 μ2/\c8 X.K ι2 H2 σs σ2/\σs.length=σ2.length /\
      b9 X.K ι2 H2 (de g (λd σ μ=>cg (br xt d σ) λσ'=>b8 φ xb σ' μ) (ds.drop (i+1)) σs μ2) E,?_,?_⟩
     ·rintro σ2 H2 ⟨_,ι2,σs,q1,q2,q3,q4,q5,q6⟩
      exact⟨ds.length-(i+1),by lia,rfl,hlt,ι2,σs,μ2,q1,q2,q3,q4,q5,q6⟩
     ·intro v H2 hy
      obtain⟨x2,s2,d',ed',hd'⟩:=wk.yld i ι' H' μ' v H2 p' x' s' hgd hlt hy
      rw[ed]at ed';cases ed'
      cases eb:br xt d σ' with
      | none=>rw[eb]at e2;cases e2
      | some σb =>
       rw[eb]at e2
       refine⟨ι',σ',d,σb,l'.mono (AD _) x2,z',hd',eb,λσv2 l2 z2 _ _=>⟨ι',σb,μ',s2,l2,z2,?_⟩⟩
       have e2':b8 φ xb σb μ'=.ok fl μ2:=e2
       rw[e2']
       cases fl with
       | nx σ3=>exact λι3 σv3 H3 p3 x3 s3 l3 z3=>⟨by lia,ι3,σ3,p'.trans p3,(x'.trans x2).trans x3,s3,l3,z3,(show b9 _ _ _ (de g _ (ds.drop (i+1)) σ3 μ2) _ from h2).mono p3 (x2.trans x3)⟩
       | ct σ3=>exact λι3 σv3 H3 p3 x3 s3 l3 z3=>⟨by lia,ι3,σ3,p'.trans p3,(x'.trans x2).trans x3,s3,l3,z3,(show b9 _ _ _ (de g _ (ds.drop (i+1)) σ3 μ2) _ from h2).mono p3 (x2.trans x3)⟩
       | bk σ3=>exact(show b9 _ _ _ (.ok (.nx σ3) μ2) _ from h2).mono (AD _) x2
       | rt w=>exact(show b9 _ _ _ (.ok (.rt w) μ2) _ from h2).mono (AD _) x2
    ·exact h'.elim
   ·have ei:i=ds.length:=by lia
    subst ei
    simp![List.drop_length,de]at h'
    split at h'
    ·rename_i hgd
     exact .inl ⟨wk.stop ι' H' μ' p' x' s' hgd,h' ι' σv' H' (AD _) (.refl _) s' l' z'⟩
    ·exact h'.elim
end
theorem d5:lim=sizeLine:=by rw[tj];rfl
section
variable {X : Cx} {pins : List (Addr × Obj)} {σ : St} {H : Hp} {s : Shared} {φ : Phi}
theorem _root_.L2.Inv.freeze {p:Addr} {xs:List V} (I:Inv X pins σ H s) (h:H p=some (.lst xs)):∃o,Inv X pins σ (upd H p (.frz o (.lst xs))) s:=by
 have hp:=I.hok p _ h
 obtain⟨hz,its,n,hv,hget⟩:=id hp
 refine⟨{cls:=.type "list",data:=.seq its.toArray n},I.ok,I.os,I.bare,⟨I.base.keep,I.base.slot,λb o e hn hx=>?_,I.base.there,λb ys e=>?_,λb o u e=>?_,λb ps e=>?_⟩,I.loc,I.cell,?_,λx c e=>?_,λq hq=>?_,λb u e=>?_,I.len⟩
 ·have q:=I.base.free b o e hn hx
  rw[ah (λz=>by subst z;rw[h]at q;cases q)]
  exact q
 ·have q:=I.base.tups b ys e
  rw[ah (l5 q h (by intro z;cases z))];exact q
 ·have q:=I.base.frzs b o u e
  rw[ah (l5 q h (by intro z;cases z))];exact q
 ·obtain⟨more,q⟩:=I.base.tbls b ps e
  exact⟨more,by rw[ah (l5 q h (by intro z;cases z))];exact q⟩
 ·rw[ah (λz=>by rw[<-z,I.free]at h;cases h)];exact I.free
 ·rw[ah (λz=>by rw[<-z,I.freeC x c e]at h;cases h)];exact I.freeC x c e
 ·obtain⟨e1,e2,e3⟩:=I.pin q hq
  refine⟨e1,?_,e3⟩
  rw[ah (λz=>by rw[<-z,e2]at h;cases h)];exact e2
 ·by_cases hb:b=p
  ·subst hb
   rw[bb]at e;cases e
   exact⟨hget,hz,its,n,hv,hget⟩
  ·rw[ah hb]at e
   refine(I.hok b u e).stay (λc v _ q=>q) (λc q=>?_) (λc ys q=>?_)
   ·rw[ah (l5 q h (by intro z;cases z))];exact q
   ·rw[ah (l5 q h (by intro z;cases z))];exact q
def FQ (Q:VK):VK:=λv H=>Q v H\/∃p xs,v=.ref p/\H p=some (.lst xs)/\∀o,Q v (upd H p (.frz o (.lst xs)))
theorem zz {Q:VK} {u:Value} (h:EP X pins σ (FQ Q) u s):EP X pins σ Q u s:=by
 obtain⟨v,H',I,r,q⟩:=h
 rcases q with q | ⟨p,xs,rfl,e,q⟩
 ·exact⟨v,H',I,r,q⟩
 ·obtain⟨o,I'⟩:=L2.Inv.freeze I e
  exact⟨_,_,I',r,q o⟩
theorem ub {A:Around} {E:Value->Shared->Prop} {M:Model} {t:Sem Value} {Q:VK} (h:wpAny M A t (EP X pins σ (FQ Q)) E s):wpAny M A t (EP X pins σ Q) E s:=thn h λ_ _ z=>zz z
theorem PE.fq {e:Expr} {t:TE} (h:PE X e t):PE X e (λσ H Q=>t σ H (FQ Q)):=λpins s σ H Q I q=>thn (h pins s σ H _ I q) λ_ _ z=>zz z
theorem gs {K:PySem.W.Frag} {ι:List Addr} {μ:Sto} {ds:List D} {xs:List V} {m:Mk} {Q:VK} {p:Addr} (hS:Sim K ι H μ) (hd:af K ι H ds xs) (h:cy K (RD K) ι H (mkL m ds μ) Q) (hp:H p=none) :
  FQ Q (.ref p) (upd H p (.lst xs)):=by
 cases m with
 | z =>
  refine .inr ⟨p,xs,rfl,bb,λo=>?_⟩
  rw[vq]
  refine h ι (.ref p) _ (AD _) (.new hp) (hS.new hp) ?_
  show IsD _ _ _ _ _
  simp![IsD]
  exact⟨p,xs,rfl,.inl ⟨o,bb⟩,af.mono (AD _) (.new hp) ds xs hd⟩
 | l =>
  simp![mkL]at h
  split at h
  ·rename_i hpure
   refine .inl (h (ι++[p]) (.ref p) _ ⟨[p],rfl⟩ (.new hp) (hS.push hp ⟨xs,bb,af.pur hpure (af.mono (AD _) (.new hp) ds xs hd)⟩) ?_)
   show IsD _ _ _ _ _
   simp![IsD]
   exact⟨p,rfl,by rw[<-hS.len];simp⟩
  ·exact h.elim
 | r =>
  simp![mkL]at h
  refine .inl (h (ι++[p]) (.ref p) _ ⟨[p],rfl⟩ (.new hp) (hS.push hp ⟨xs,bb,af.mono ⟨[p],rfl⟩ (.new hp) ds xs hd⟩) ?_)
  show IsD _ _ _ _ _
  simp![IsD]
  exact⟨p,rfl,by rw[<-hS.len];simp⟩
theorem D0 {es:List Expr} {xs:Exs} {m:Mk} {pos:Pos} (h:PA X es (tEs X.K φ xs)) (hl:∀σ μ ds μ',cc φ xs σ μ=.ok ds μ'->ds.length<=sizeLine):PE X (.List es pos) (tE X.K φ (.lst m xs)) :=
 PE.imp (PE.fq (za h)) λσv H Q ⟨ι,σ,μ,hS,hL,h⟩=>by
  simp![evE]at h
  obtain⟨ds,μ1,e1,h⟩:=h.bind
  refine⟨ι,σ,μ,hS,hL,?_⟩
  rw[e1]
  intro ι1 vs H1 p1 x1 s1 d1
  have hd:af X.K ι1 H1 ds vs:=d1
  exact⟨by rw[hd.length];exact hl σ μ ds μ1 e1,λp hp=>gs s1 hd (h.mono p1 x1) hp⟩
theorem uc {K:PySem.W.Frag} {ι:List Addr} {μ:Sto} {d:D} {v:V} {ds:List D} (hS:Sim K ι H μ) (hd:IsD K ι H d v) (h:eh μ d=some ds) :
  ∃a xs,v=.ref a/\(LsL K H a xs\/SqT K H a xs)/\af K ι H ds xs:=by
 cases d with
 | tup es =>
  cases h
  simp![IsD]at hd
  obtain⟨a,xs,e,q,r⟩:=hd
  exact⟨a,xs,e,.inr q,r⟩
 | lst es =>
  cases h
  simp![IsD]at hd
  obtain⟨a,xs,e,q,r⟩:=hd
  exact⟨a,xs,e,.inl (.inr q),r⟩
 | loc n =>
  simp![IsD]at hd
  obtain⟨a,e,q⟩:=hd
  simp![eh]at h
  split at h
  ·rename_i es em
   cases h
   obtain⟨a',q',ho⟩:=hS.at em
   rw[q]at q';cases q'
   obtain⟨xs,e1,e2⟩:=ho
   exact⟨a,xs,e,.inl (.inl e1),af.mono (DC) (.refl _) _ _ e2⟩
  ·rename_i es em
   cases h
   obtain⟨a',q',ho⟩:=hS.at em
   rw[q]at q';cases q'
   obtain⟨xs,e1,e2⟩:=ho
   exact⟨a,xs,e,.inl (.inl e1),e2⟩
  ·cases h
 | _=>simp[eh]at h
theorem et {K:PySem.W.Frag} {ι:List Addr} {μ:Sto} {d:D} {v:V} {ds:List D} (hS:Sim K ι H μ) (hd:IsD K ι H d v) (h:listOf μ d=some ds) :
  ∃a xs,v=.ref a/\LsL K H a xs/\af K ι H ds xs:=by
 cases d with
 | lst es =>
  cases h
  simp![IsD]at hd
  obtain⟨a,xs,e,q,r⟩:=hd
  exact⟨a,xs,e,.inr q,r⟩
 | loc n =>
  simp![IsD]at hd
  obtain⟨a,e,q⟩:=hd
  simp![listOf]at h
  split at h
  ·rename_i es em
   cases h
   obtain⟨a',q',ho⟩:=hS.at em
   rw[q]at q';cases q'
   obtain⟨xs,e1,e2⟩:=ho
   exact⟨a,xs,e,.inl e1,af.mono (DC) (.refl _) _ _ e2⟩
  ·rename_i es em
   cases h
   obtain⟨a',q',ho⟩:=hS.at em
   rw[q]at q';cases q'
   obtain⟨xs,e1,e2⟩:=ho
   exact⟨a,xs,e,.inl e1,e2⟩
  ·cases h
 | _=>simp[listOf]at h
theorem OpR.imp {f:Value->Value->Sem Value} {r r':R2} (h:OpR X f r) (i:∀x y H Q,r' x y H Q->r x y H Q):OpR X f r':=λpins s σ H x y v u Q I rx ry q=>h pins s σ H x y v u Q I rx ry (i _ _ _ _ q)
theorem dz.imp {f:Value} {r r':List V->Hp->VK->Prop} (h:dz X f r) (i:∀xs H Q,r' xs H Q->r xs H Q):dz X f r':=λpins s σ H xs us Q I rx q=>h pins s σ H xs us Q I rx (i _ _ _ q)
end
def ly (env:Env):List (Str×NameKind)->List (Str×Addr)->List (Str×Addr)
 | [],acc=>acc
 | (n,k)::r,acc=>ly env r (if k==.free then(n,(env.cells.lookup n).getD 0)::acc else acc)
def dw (env:Env) (x:Str×NameKind) (cs:List (Str×Addr)):Sem (ForInStep (List (Str×Addr))):=match x with
 | (name,kind)=>if kind==.free then(do let a <-cellOf env name;pure (ForInStep.yield ((name,a)::cs)))else pure (ForInStep.yield cs)
theorem dm {env:Env}:∀(names:List (Str×NameKind)) (acc:List (Str×Addr)),(∀n,(n,NameKind.free)∈names->∃c,env.cells.lookup n=some c) ->
  forIn names acc (dw env)=pure (ly env names acc)
 | [],acc,_=>rfl
 | (n,k)::r,acc,h=>by
  rw[List.forIn_cons]
  by_cases hk:k=.free
  ·subst hk
   obtain⟨c,hc⟩:=h n AY
   have e:dw env (n,.free) acc=pure (ForInStep.yield ((n,c)::acc)):=by
    simp![dw,cellOf,hc,beq_self_eq_true,if_true]
    rfl
   rw[e]
   refine Eq.trans (b:=forIn r ((n,c)::acc) (dw env)) rfl ?_
   rw[dm r ((n,c)::acc) λm hm=>h m (AV _ hm)]
   simp[ly,hc]
  ·have hb:(k==NameKind.free)=false:=by simpa using hk
   have e:dw env (n,k) acc=pure (ForInStep.yield acc):=by
    unfold dw
    simp![hb,CC,if_false]
   rw[e]
   refine Eq.trans (b:=forIn r acc (dw env)) rfl ?_
   rw[dm r acc λm hm=>h m (AV _ hm)]
   simp[ly,hb]
theorem k7 {env:Env} {scope:Scope} (h:∀n,(n,NameKind.free)∈scope.names->∃c,env.cells.lookup n=some c):closureFor scope env=pure (ly env scope.names []):=by
 have e:=dm (env:=env) scope.names [] h
 have e2:closureFor scope env=(forIn scope.names [] (dw env)>>=λcs=>pure cs):=rfl
 rw[e2,e]
 rfl
theorem d6 {env:Env}:∀(names:List (Str×NameKind)) (acc:List (Str×Addr)) (x:Str) (c:Addr),(∀n,(n,NameKind.free)∈names->∃c,env.cells.lookup n=some c)->(ly env names acc).lookup x=some c->acc.lookup x=some c\/env.cells.lookup x=some c
 | [],acc,x,c,_,h=>.inl h
 | (n,k)::r,acc,x,c,hh,h=>by
  rcases d6 r _ x c (λm hm=>hh m (AV _ hm)) h with q | q
  ·by_cases hk:k=.free
   ·subst hk
    obtain⟨c',hc⟩:=hh n AY
    simp![beq_self_eq_true,if_true,CJ]at q
    by_cases hx:x=n
    ·subst hx
     simp![beq_self_eq_true,hc,EW,BI]at q
     subst q
     exact .inr hc
    ·have hb:(x==n)=false:=beq_eq_false_iff_ne.mpr hx
     rw[hb]at q
     exact .inl q
   ·have hb:(k==NameKind.free)=false:=by simpa using hk
    simp![hb,CC,if_false]at q
    exact .inl q
  ·exact .inr q
theorem iu {env:Env}:∀(names:List (Str×NameKind)) (acc:List (Str×Addr)) (x:Str),(∃c,acc.lookup x=some c)->∃c,(ly env names acc).lookup x=some c
 | [],acc,x,h=>h
 | (n,k)::r,acc,x,h=>by
  refine iu r _ x ?_
  by_cases hk:(k==NameKind.free)=true
  ·rw[if_pos hk,CJ]
   cases hx:x==n with
   | true=>exact⟨_,rfl⟩
   | false=>exact h
  ·rw[if_neg hk];exact h
theorem gu {env:Env}:∀(names:List (Str×NameKind)) (acc:List (Str×Addr)) (x:Str),(x,NameKind.free)∈names->∃c,(ly env names acc).lookup x=some c
 | [],acc,x,h=>by cases h
 | (n,k)::r,acc,x,h=>by
  rcases AJ.mp h with e | e
  ·cases e
   refine iu r _ n ?_
   exact⟨(env.cells.lookup n).getD 0,by simp⟩
  ·exact gu r _ x e
def c7 (X:Cx) (scope:Scope) (Nb:List Str) (C:Addr) (s:Shared) (H:Hp) (fp:List Addr):Cx :=
 {X with N:=Nb,s₀:=s,H₀:=H,env:=compEnvC scope (ly X.env scope.names []) C X.env,outer:=X.stack,stack:=X.stack,ex:=fp,fn:=λ_=>false,pn:=[],xe:=λ_ _=>False}
structure CompScope (sc scope:Scope) (N Nb:List Str) (cap:List Nat) (nl:Nat):Prop where
 kind:scope.kind=.function
 nocell:∀y∈scope.names,y.2≠.cell
 uniq:∀y∈scope.names,scope.names.lookup y.1=some y.2
 free:∀n,(n,NameKind.free)∈scope.names->sc.names.lookup n=some .cell\/sc.names.lookup n=some .free
 fnames:∀n,(relabel scope {scope:=sc,locals:=0,globals:=0,cells:=[]}).names.lookup n=some .cell\/(relabel scope {scope:=sc,locals:=0,globals:=0,cells:=[]}).names.lookup n=some .free->(n,NameKind.free)∈scope.names
 nd:Nb.Nodup
 len:Nb.length=cap.length+nl
 capt:∀(j:Nat) i,cap[j]? = some i->∃x,Nb[j]? = some x/\N[i]? = some x/\(x,NameKind.free)∈scope.names
theorem k8 (scope:Scope) (env env':Env) (h:env.scope=env'.scope):relabel scope env=relabel scope env':=by
 unfold relabel Env.kindOf
 rw[h]
section
variable {X : Cx} {pins : List (Addr × Obj)} {σ : St} {H : Hp} {s : Shared} {scope : Scope} {Nb : List Str} {cap : List Nat} {nl : Nat}
def b6 (cap:List Nat) (nl:Nat) (σ:St):St:=cap.map (λi=>(σ[i]?).getD none)++List.replicate nl none
theorem mx {fp:List Addr} {h':Heap} {tk:Nat} {C:Addr} {m:Str->Option Value} {D:Addr} {n0:Nat} (I:Inv X pins σ H s) (S:CompScope X.env.scope scope X.N Nb cap nl)
  (hf:∀b∈fp,qf X pins H b) (hfp:∀b∈fp,∃o,s.heap.get? b=some o) (hk:∀b o,s.heap.get? b=some o->h'.get? b=some o) (hC:s.heap.objs.size<=C) (hD:s.heap.objs.size<=D) (hDC:D≠C)
  (hns:h'.Ns C m) (hm:∀x,m x=none) (hDo:h'.get? D=some {cls:=.type "list",data:=.seq #[] n0}) :
  Inv (c7 X scope Nb C s H fp) [(D,{cls:=.type "list",data:=.seq #[] n0})] (b6 cap nl σ) H {s with heap:=h',toks:=tk}:=by
 have hcells:∀n,(n,NameKind.free)∈scope.names->∃c,X.env.cells.lookup n=some c:=λn hn=>by
  rcases S.free n hn with e | e
  ·exact I.ok.has n (.inl e)
  ·exact I.ok.has n (.inr e)
 have sub:∀x c,(ly X.env scope.names []).lookup x=some c->X.env.cells.lookup x=some c:=λx c e=>by
  rcases d6 scope.names [] x c hcells e with q | q
  ·cases q
  ·exact q
 have hlt:∀b∈fp,b<s.heap.objs.size:=λb hb=>let ⟨o,e⟩:=hfp b hb;AE e
 have hrel:relabel scope X.env=relabel scope {scope:=X.env.scope,locals:=0,globals:=0,cells:=[]}:=k8 _ _ _ rfl
 have hcm:∀x c,X.env.cells.lookup x=some c->c<s.heap.objs.size:=λx c e=>let ⟨v,q⟩:=I.cell x c e;q.lt
 refine⟨⟨I.ok.mod,by show(relabel scope X.env).kind=_;unfold relabel;exact S.kind,I.ok.glob,I.ok.blt,hC,λx y c e1 e2=>I.ok.inj x y c (sub x c e1) (sub y c e2),λx hx=>?_,λx c hfn=>?_,I.ok.hd,I.ok.frames,.inl rfl,
  λb hb=>⟨AS (AH (hlt b hb) hC),λx c e=>(hf b hb).2.2.2.2.1 x c (sub x c e)⟩,I.bs,BS I.ok.bsz I.sz,λb o e hb=>?_,λb hb hb2=>?_,I.stack,I.stkFree⟩,
  rfl,I.bare,Un.kept hk,⟨m,hns,λi x v e1 e2 e3=>?_⟩,λx c e=>?_,I.hok.fresh hC,λx c e=>I.freeC x c (sub x c e),λp hp=>?_,I.hok.kept hk,?_⟩
 ·have hx':(relabel scope {scope:=X.env.scope,locals:=0,globals:=0,cells:=[]}).names.lookup x=some .cell\/(relabel scope {scope:=X.env.scope,locals:=0,globals:=0,cells:=[]}).names.lookup x=some .free:=by
   rw[<-hrel];exact hx
  exact gu scope.names [] x (S.fnames x hx')
 ·cases hfn
 ·rcases(hf b hb).2.2.2.1 with z | z
  ·exact I.ok.noex b o e z
  ·have:=AE e
   exact absurd (AH this (BS I.ok.bsz z)) (BN _)
 ·rcases AJ.mp (I.stkSub b hb2)with z | z
  ·exact(hf b hb).2.1 z
  ·exact(hf b hb).2.2.1 z
 ·-- a captured name
  have hi:i<cap.length:=by
   by_cases hi:i<cap.length
   ·exact hi
   ·unfold b6 at e2
    rw[BA (by simpa using hi),BM]at e2
    split at e2<;>cases e2
  unfold b6 at e2
  rw[AG (by simpa using hi),BH,AA hi]at e2
  simp![DY,BI]at e2
  obtain⟨y,q1,q2,q3⟩:=S.capt i _ (AA hi)
  have ey:y=x:=BL (q1.symm.trans e1)
  subst ey
  have e4:σ[cap[i]]? = some (some v):=by
   cases e5:σ[cap[i]]? with
   | none=>rw[e5]at e2;cases e2
   | some w=>rw[e5]at e2;simp at e2;rw[e2]
  obtain⟨m0,hn0,hl0⟩:=I.loc
  have hkind:X.env.kindOf y=some .cell\/X.env.kindOf y=some .free:=S.free y q3
  obtain⟨u,r,l⟩:=hl0 _ y v q2 e4 (by rcases hkind with z | z;exact .inr (.inl z);exact .inr (.inr z))
  refine⟨u,r,.inr ?_⟩
  rcases l with⟨z,_⟩ | ⟨_,c,ec,hc⟩
  ·rcases hkind with w | w<;>(rw[w]at z;cases z)
  ·obtain⟨c',ec'⟩:=gu (env:=X.env) scope.names [] y q3
   have:c'=c:=by have:=sub y c' ec';rw[ec]at this;cases this;rfl
   subst this
   obtain⟨o,ho,hd⟩:=hc
   refine⟨?_,c',ec',o,hk _ _ ho,hd⟩
   -- a free name is seen as a cell or as free
   have hv:(c7 X scope Nb C s H fp).env.kindOf y=some .local\/(c7 X scope Nb C s H fp).env.kindOf y=some .cell\/(c7 X scope Nb C s H fp).env.kindOf y=some .free:=e3
   rcases hv with z | z | z
   ·exfalso
    have hl:(relabel scope X.env).names.lookup y=some .local:=z
    have mem:∀(l:List (Str×NameKind)) (y:Str),(l.map fun(n,k)=>if(k==NameKind.free&&X.env.scope.kind==.function&&X.env.kindOf n==some .cell)then(n,NameKind.cell)else(n,k)).lookup y=some .local->l.lookup y=some .local:=by
     intro l
     induction l with
     | nil=>intro y h;simp at h
     | cons a r ih =>
      obtain⟨n,k⟩:=a
      intro y h
      simp![BJ]at h
      rw[CJ]
      by_cases hc:(k==NameKind.free&&X.env.scope.kind==.function&&X.env.kindOf n==some .cell)=true
      ·rw[if_pos hc,CJ]at h
       cases hy:y==n with
       | true=>rw[hy]at h;cases h
       | false=>rw[hy]at h;exact ih y h
      ·rw[if_neg hc,CJ]at h
       cases hy:y==n with
       | true=>rw[hy]at h;exact h
       | false=>rw[hy]at h;exact ih y h
    have hloc:=mem scope.names y hl
    rw[S.uniq (y,NameKind.free) q3]at hloc
    cases hloc
   ·exact .inl z
   ·exact .inr z
 ·obtain⟨v,o,ho,hd⟩:=I.cell x c (sub x c e)
  exact⟨v,o,hk _ _ ho,hd⟩
 ·have e:p=(D,{cls:=.type "list",data:=.seq #[] n0}):=by
   have:p∈([]:List (Addr×Obj))++[(D,{cls:=.type "list",data:=.seq #[] n0})]:=hp
   simpa using this
  subst e
  refine⟨hDo,I.hok.fresh hD,hDC,λz=>?_,λv z=>by cases z⟩
  have z':D∈frs X.stack:=z
  rcases AJ.mp (I.stkSub D z')with w | w
  ·exact absurd (AH I.lt hD) (by rw[w];exact BN _)
  ·exact I.nofs hD w
 ·show(b6 cap nl σ).length=Nb.length
  rw[S.len];simp[b6]
end
abbrev my (ifs:List Expr) (env:Env) (b:Bool):Sem Bool:=forIn ifs b λc r=>if r=true then do let ok <-isTrue c env (eval c env);pure (ForInStep.yield ok)else pure (ForInStep.yield r)
def PTs (X:Cx) (ifs:List Expr) (t:TT):Prop :=
 ∀(pins:List (Addr×Obj)) (s:Shared) (σ:St) (H:Hp) (Q:Bool->Hp->Prop),Inv X pins σ H s->t σ H Q->wpAny (model X.prog X.w) X.A (my ifs X.env true) (TP X pins σ Q) X.xe s
def tTsNil:TT:=λ_ H Q=>Q true H
theorem wz {X:Cx}:PTs X [] tTsNil:=λpins s σ H Q I h=>AO ⟨H,I,h⟩
def Kept (σ σ':St):Prop:=σ.length=σ'.length/\∀(i:Nat) v,σ[i]? = some (some v)->σ'[i]? = some (some v)
def z0 (wi:TI) (g:TG) (ts:TT) (te:TE) (σb:St->St):TE:=λσ H Q=>wi σ H λJ H1=>∃W:Nat->Nat->Hp->List V->Prop,(∃m,W 0 m H1 [])/\∀i m H acc,W i m H acc ->
 (J.stop i H/\acc.length<=sizeLine/\∀p,H p=none->Q (.ref p) (upd H p (.lst acc))) \/
 (J.go i H/\acc.length<sizeLine/\∀x H',J.yld i H x H'->g x (σb σ) H' λσ2 H2=>Kept (σb σ) σ2/\ts σ2 H2 λb H3=>if b=true then te σ2 H3 λv H4=>∃m',m'<m/\W (i+1) m' H4 (acc++[v])else ∃m',m'<m/\W (i+1) m' H3 acc)
section
variable {X : Cx} {scope : Scope} {Nb : List Str} {cap : List Nat} {nl : Nat}
theorem _root_.L2.HOk.track {P:Program} {w:World} {H:Hp} {h:Heap} {p:Addr} {o:HO} (x:HOk P w H h) (hp:H p=none) (new:cf P w (upd H p o) h p o):HOk P w (upd H p o) h:=λb u e=>by
 by_cases hb:b=p
 ·subst hb;rw[bb]at e;cases e;exact new
 ·rw[ah hb]at e
  exact(x b u e).stay (λc v _ q=>q) (λc q=>by rw[ah (ae q hp)];exact q) λc xs q=>by rw[ah (ae q hp)];exact q
theorem mz {prog:Program} {w:World} {A:Around} {R:Result->Shared->Prop} {s:Shared} {elt target iter:Expr} {ifs:List Expr} {pos:Pos} {it acc:Value} {env:Env} (I:Nat->Shared->Prop)
  (turn:∀n s,I n s->wpAny (model prog w) A (pyNext it) (λr s₁=>match r with
   | none=>R (.ok .next) s₁
   | some v=>wpAny (model prog w) A (letOwnedTupleGo target it v) (λ_ s₀=>wpAny (model prog w) A (assign target env v) (λ_ s₂ =>
     wpAny (model prog w) A (my ifs env true) (λok s₃ =>
      if ok=true then wpAny (model prog w) A (eval elt env) (λx s₄ =>
       wpAny (model prog w) A (call (.builtin "list.append") [acc,x]) (λ_ s₅=>∃m,m<n/\I m s₅) (λ_ _=>False) s₄) (λ_ _=>False) s₃
      else ∃m,m<n/\I m s₃) (λ_ _=>False) s₂) (λ_ _=>False) s₀) (λ_ _=>False) s₁) (λ_ _=>False) s)
  (n:Nat) (h:I n s) :
  codeAny (model prog w) A (.compLoop (.ListComp elt [⟨target,iter,ifs,0⟩] scope pos) 0 it acc env) R s:=by
 refine codeAny_loop rfl I (λn s hI=>?_) n h
 show wpAny _ A ((compTurn (.ListComp elt [⟨target,iter,ifs,0⟩] scope pos) 0 it acc env).onRaise (λx=>do noteFrame x env;theTreesLotGoes x)) _ _ s
 refine wpAny_noted ?_
 rw[compTurn_list]
 have no:∀{α:Type} {t:Sem α} {Q:α->Shared->Prop} {E:Value->Shared->Prop} {s:Shared},wpAny (model prog w) A t Q (λ_ _=>False) s->wpAny (model prog w) A t Q E s:=λh=>AN h (λ_ _ q=>q) λ_ _ q=>q.elim
 refine AC (CG (AC (AN (turn n s hI) (λr s₁ h₁=>?_) λ_ _ h'=>h'.elim)))
 cases r with
 | none=>exact AO h₁
 | some v =>
  refine AC (AN h₁ (λ_ s₀ h₀=>?_) λ_ _ h'=>h'.elim)
  refine AC (AN h₀ (λ_ s₂ h₂=>AC (AN h₂ (λok s₃ h₃=>?_) λ_ _ h'=>h'.elim)) λ_ _ h'=>h'.elim)
  cases ok with
  | false=>exact AO ⟨rfl,h₃⟩
  | true =>
   exact AC (AC (AN h₃ (λx s₄ h₄=>AC (AN h₄ (λ_ s₅ h₅=>AO (AO ⟨rfl,h₅⟩)) λ_ _ h'=>h'.elim)) λ_ _ h'=>h'.elim))
def ra (X:Cx) (scope:Scope) (Nb:List Str) (target:Expr) (ifs:List Expr) (elt:Expr) (g:TG) (ts:TT) (te:TE):Prop :=
 ∀C s H fp,PG (c7 X scope Nb C s H fp) target g/\PTs (c7 X scope Nb C s H fp) ifs ts/\PE (c7 X scope Nb C s H fp) elt te
theorem k9 {elt target iter:Expr} {ifs:List Expr} {pos:Pos} {g:TG} {ts:TT} {te:TE} {pins:List (Addr×Obj)} {σ:St} {H:Hp} {s:Shared} {it:Addr} {fp:List Addr} {tn:Nat->Heap->Prop} {J:L2.It} {Q:VK} {E:Value->Shared->Prop} {use:Option (Value->Sem Unit)} {QQ:Value->Shared->Prop}
  (S:CompScope X.env.scope scope X.N Nb cap nl) (hc:X.calm=true) (B:ra X scope Nb target ifs elt g ts te) (I:Inv X pins σ H s) (T:Turn X.prog X.w X.K target J fp it tn) (t0:tn 0 s.heap) (hf:∀b∈fp,qf X pins H b)
  (h:∃W:Nat->Nat->Hp->List V->Prop,(∃m,W 0 m H [])/\∀i m H acc,W i m H acc ->
   (J.stop i H/\acc.length<=sizeLine/\∀p,H p=none->Q (.ref p) (upd H p (.lst acc))) \/
   (J.go i H/\acc.length<sizeLine/\∀x H',J.yld i H x H'->g x (b6 cap nl σ) H' λσ2 H2=>Kept (b6 cap nl σ) σ2/\ts σ2 H2 λb H3=>if b=true then te σ2 H3 λv H4=>∃m',m'<m/\W (i+1) m' H4 (acc++[v])else ∃m',m'<m/\W (i+1) m' H3 acc))
  (hQ:∀(D C:Addr) (s':Shared) m,s.heap.objs.size<=C->(∀h',Heap.SameBut C s'.heap h'->EP X pins σ (λv H=>H C=none/\Q v H) (.ref D) {s' with heap:=h'})->s'.heap.Ns C m->compPost (model X.prog X.w) X.A E use QQ (.ref D) C (.ok .next) s') :
  wpAny (model X.prog X.w) X.A (newList []) (λacc s₃=>wpAny (model X.prog X.w) X.A (newFunctionEnv scope X.env.globals (ly X.env scope.names []) [] X.env.qual none .none (some X.env)) (λcenv s₄ =>
   codeAny (model X.prog X.w) X.A (.compStart (.ListComp elt [⟨target,iter,ifs,0⟩] scope pos) 0 (.ref it) acc {cenv with scope:=relabel scope X.env}) (compPost (model X.prog X.w) X.A E use QQ acc cenv.locals) s₄) E s₃) E s:=by
 refine wpAny_newObj_type (wpAny_newFunctionEnv S.nocell (by intro y hy;simp at hy) (λh₁ hns₁ hsb₁=>?_) S.kind)
 dsimp only at hns₁ hsb₁ ⊢
 generalize hH2:s.heap.push {cls:=.type "list",dict:=none,data:=.seq ([]:List Value).toArray}=H2 at hns₁ hsb₁ ⊢
 have hC:H2.objs.size=s.heap.objs.size+1:=by rw[<-hH2,Heap.size_push]
 have hDC:s.heap.objs.size≠H2.objs.size:=by rw[hC];exact AS (Nat.lt_succ_self _)
 have hCle:s.heap.objs.size<=H2.objs.size:=by rw[hC];exact Nat.le_succ _
 have old:∀b o,s.heap.get? b=some o->h₁.get? b=some o:=λb o e=>hsb₁.extBut b o (by rw[hC];exact AS (Nat.lt_succ_of_lt (AE e))) (AB _ (hH2 ▸ AB _ e))
 have hDo:h₁.get? s.heap.objs.size=some {cls:=.type "list",data:=.seq #[]}:=hsb₁.extBut _ _ hDC (AB _ (hH2 ▸ BD _ rfl))
 have hfp:∀b∈fp,∃o,s.heap.get? b=some o:=λb hb=>let ⟨o,e,_⟩:=T.obj 0 _ t0 b hb;⟨o,e⟩
 have hlt:∀b∈fp,b<s.heap.objs.size:=λb hb=>let ⟨o,e⟩:=hfp b hb;AE e
 obtain⟨W,⟨m0,w0⟩,turn⟩:=h
 obtain⟨BG,BT,BE⟩:=B H2.objs.size s H fp
 have I4:=mx (tk:=s.toks+([]:List (Str×Value)).length) I S hf hfp old hCle (AQ _) hDC hns₁ (λx=>by simp) hDo
 have hcells:∀n,(n,NameKind.free)∈scope.names->∃c,X.env.cells.lookup n=some c:=λn hn=>by
  rcases S.free n hn with e | e
  ·exact I.ok.has n (.inl e)
  ·exact I.ok.has n (.inr e)
 -- what the iterator's objects are to the block
 have stat:∀{H':Hp},(∀b∈fp,H' b=none)->∀b∈fp,qf (c7 X scope Nb H2.objs.size s H fp) [] H' b:=λhn b hb=>by
  refine⟨hn b hb,AS (AH (hlt b hb) hCle),λz=>?_,.inl hb,λx c e=>?_,λp hp=>absurd (show p∈([]:List (Addr×Obj))++[]from hp) (by simp)⟩
  ·rcases AJ.mp (I.stkSub b z)with z | z
   ·exact(hf b hb).2.1 z
   ·exact(hf b hb).2.2.1 z
  ·rcases d6 scope.names [] x c hcells e with q | q
   ·cases q
   ·exact(hf b hb).2.2.2.2.1 x c q
 have loop:∀s₃:Shared,s₃={s with heap:=h₁,toks:=s.toks+([]:List (Str×Value)).length} ->
   codeAny (model X.prog X.w) X.A (.compLoop (.ListComp elt [⟨target,iter,ifs,0⟩] scope pos) 0 (.ref it) (.ref s.heap.objs.size) (compEnvC scope (ly X.env scope.names []) H2.objs.size X.env))
    (compPost (model X.prog X.w) X.A E use QQ (.ref s.heap.objs.size) H2.objs.size) s₃:=by
  rintro s₃ rfl
  refine mz (λn s'=>∃i H' acc its n',Inv (c7 X scope Nb H2.objs.size s H fp) [] (b6 cap nl σ) H' s'/\tn i s'.heap/\(∀b∈fp,H' b=none)/\H' s.heap.objs.size=none /\
   s'.heap.get? s.heap.objs.size=some {cls:=.type "list",data:=.seq (its:List Value).toArray n'}/\ax acc its/\W i n H' acc) ?_ m0
   ⟨0,H,[],[],_,I4.pins_of (λp hp=>absurd hp (by simp)),T.keep _ _ _ t0 λb hb o e=>old b o e,λb hb=>(hf b hb).1,I.hok.fresh (AQ _),hDo,.nil,w0⟩
  rintro n s5 ⟨i,H5,acc,its,n5,I5,t5,f5,hD5,hget5,hv5,w5⟩
  rcases turn i n H5 acc w5 with⟨stop,hz,q⟩ | ⟨go,hz,q⟩
  ·refine thn (T.done (c7 X scope Nb H2.objs.size s H fp) rfl rfl rfl hc i [(s.heap.objs.size,{cls:=.type "list",data:=.seq its.toArray n5})] s5 _ H5 _ (I5.pins_of ?_) ?_ t5 stop) λr s6 ⟨hr,I6⟩=>?_
   ·intro p hp
    have e:p=(s.heap.objs.size,{cls:=.type "list",data:=.seq its.toArray n5}):=by simpa using hp
    subst e
    refine⟨hget5,hD5,hDC,λz=>?_,λv z=>by cases z⟩
    rcases AJ.mp (I.stkSub _ (show s.heap.objs.size∈frs X.stack from z))with w | w
    ·exact absurd I.lt (by rw[<-w];exact BN _)
    ·exact I.nofs (AQ _) w
   ·intro b hb
    obtain⟨a1,a2,a3,a4,a5,a6⟩:=stat f5 b hb
    refine⟨a1,a2,a3,a4,a5,λp hp=>?_⟩
    have e:p=(s.heap.objs.size,{cls:=.type "list",data:=.seq its.toArray n5}):=by
     have:p∈([]:List (Addr×Obj))++[(s.heap.objs.size,{cls:=.type "list",data:=.seq its.toArray n5})]:=hp
     simpa using this
    subst e
    exact λz=>absurd (hlt b hb) (by rw[<-z];exact BN _)
   ·subst hr
    have hget6:=(I6.pin (s.heap.objs.size,{cls:=.type "list",data:=.seq its.toArray n5}) (by show _∈([]:List (Addr×Obj))++_;simp)).1
    obtain⟨m6,hn6,_⟩:=I6.loc
    refine hQ _ _ s6 m6 hCle (λh' hs'=>?_) hn6
    have hk6:∀b o,b≠H2.objs.size->s6.heap.get? b=some o->h'.get? b=some o:=λb o hb e=>hs'.extBut b o hb e
    have hgetD:=hk6 _ _ hDC hget6
    have Cn:H5 H2.objs.size=none:=I6.free
    have hok':HOk X.prog X.w H5 h':=λb u e=>by
     refine(I6.hok b u e).stay (λc v hcc q=>hk6 c v ?_ q) (λ_ q=>q) λ_ _ q=>q
     rcases hcc with z | z
     ·rintro rfl;rw[<-z]at e;rw[Cn]at e;cases e
     ·rintro rfl;rw[Cn]at z;cases z
    refine⟨.ref s.heap.objs.size,upd H5 s.heap.objs.size (.lst acc),?_,rfl,by rw[ah (Ne.symm hDC)];exact Cn,q _ hD5⟩
    have hU:Un (frs X.stack) fp H H5 s.heap s6.heap:=I6.base
    have nC:∀b o,s.heap.get? b=some o->b≠H2.objs.size:=λb o e=>AS (AH (AE e) hCle)
    have nD:∀b o,s.heap.get? b=some o->b≠s.heap.objs.size:=λb o e=>AS (AE e)
    refine I.call' (s':={s6 with heap:=h'}) (ch:=fp) (by show s6.os=s.os;exact I6.os) ⟨λb o e nn hb hx=>hk6 b o (nC b o e) (hU.keep b o e nn hb hx),λb o e nn hb hx=>?_,λb o e nn hx=>?_,λb o e hx=>?_,λb xs e=>?_,λb o u e=>?_,λb ps e=>?_⟩ ?_ I6.bare ?_
    ·obtain⟨sl,e2⟩:=hU.slot b o e nn hb hx
     exact⟨sl,hk6 b _ (nC b o e) e2⟩
    ·rw[ah (nD b o e)];exact hU.free b o e nn hx
    ·obtain⟨o',e2⟩:=hU.there b o e hx
     exact⟨o',hk6 b _ (nC b o e) e2⟩
    ·have e2:=hU.tups b xs e
     rw[ah (ae e2 hD5)];exact e2
    ·have e2:=hU.frzs b o u e
     rw[ah (ae e2 hD5)];exact e2
    ·obtain⟨more,e2⟩:=hU.tbls b ps e
     exact⟨more,by rw[ah (ae e2 hD5)];exact e2⟩
    ·exact L2.HOk.track hok' hD5 ⟨hz,its,n5,hv5,hgetD⟩
    ·intro b hb
     obtain⟨a1,a2,a3,a4,a5,a6⟩:=hf b hb
     exact⟨a4,a2,a5,a6⟩
  ·-- one more turn
   have notfs:s.heap.objs.size∉frs X.stack:=λz=>by
    rcases AJ.mp (I.stkSub _ z)with w | w
    ·exact absurd I.lt (by rw[<-w];exact BN _)
    ·exact I.nofs (AQ _) w
   have I5':Inv (c7 X scope Nb H2.objs.size s H fp) [(s.heap.objs.size,{cls:=.type "list",data:=.seq its.toArray n5})] (b6 cap nl σ) H5 s5:=I5.pins_of λp hp=>by
    have e:p=(s.heap.objs.size,{cls:=.type "list",data:=.seq its.toArray n5}):=by simpa using hp
    subst e
    exact⟨hget5,hD5,hDC,notfs,λv z=>by cases z⟩
   have stat':∀{H':Hp},(∀b∈fp,H' b=none)->∀b∈fp,qf (c7 X scope Nb H2.objs.size s H fp) [(s.heap.objs.size,{cls:=.type "list",data:=.seq its.toArray n5})] H' b:=λhn b hb=>by
    obtain⟨a1,a2,a3,a4,a5,a6⟩:=stat hn b hb
    refine⟨a1,a2,a3,a4,a5,λp hp=>?_⟩
    have e:p=(s.heap.objs.size,{cls:=.type "list",data:=.seq its.toArray n5}):=by
     have:p∈([]:List (Addr×Obj))++[(s.heap.objs.size,{cls:=.type "list",data:=.seq its.toArray n5})]:=hp
     simpa using this
    subst e
    exact λz=>absurd (hlt b hb) (by rw[<-z];exact BN _)
   refine thn (T.item (c7 X scope Nb H2.objs.size s H fp) rfl rfl rfl hc i _ s5 _ H5 (λ_ _=>False) I5' (stat' f5) t5 go) λr s6 ⟨u,hr,h6⟩=>?_
   subst hr
   refine thn h6 λ_ s7 ⟨x,H7,I7,r7,y7,t7,f7⟩=>?_
   have I7':=I7.pinned (stat' f7) (T.obj _ _ t7)
   have back:∀{σ':St} {H':Hp} {s':Shared},Inv (c7 X scope Nb H2.objs.size s H fp) ([(s.heap.objs.size,{cls:=.type "list",data:=.seq its.toArray n5})]++ic fp s7.heap) σ' H' s' ->
     tn (i+1) s'.heap/\(∀b∈fp,H' b=none)/\H' s.heap.objs.size=none/\s'.heap.get? s.heap.objs.size=some {cls:=.type "list",data:=.seq its.toArray n5}:=λ{σ' H' s'} J'=>by
    have pD:=J'.pin (s.heap.objs.size,{cls:=.type "list",data:=.seq its.toArray n5}) (by show _∈([]:List (Addr×Obj))++_;simp)
    refine⟨T.keep _ _ _ t7 λb hb o e=>(J'.pin (b,o) (AR _ (AR _ (cv hb e)))).1,λb hb=>?_,pD.2.1,pD.1⟩
    obtain⟨o,e,d⟩:=T.obj _ _ t7 b hb
    exact(J'.pin (b,o) (AR _ (AR _ (cv hb e)))).2.1
   refine thn (BG _ s7 _ H7 x u _ I7' r7 (q x H7 y7)) λ_ s8 ⟨σ8,H8,I8,ks,q8⟩=>?_
   refine thn (BT _ s8 σ8 H8 _ I8 q8) λok s9 ⟨H9,I9,q9⟩=>?_
   cases ok with
   | false =>
    obtain⟨m',hm',w9⟩:∃m',m'<n/\W (i+1) m' H9 acc:=q9
    obtain⟨b1,b2,b3,b4⟩:=back I9
    exact⟨m',hm',i+1,H9,acc,its,n5,(I9.weak ks.1 ks.2).pins_of (λp hp=>absurd hp (by simp)),b1,b2,b3,b4,hv5,w9⟩
   | true =>
    refine thn (BE _ s9 σ8 H9 _ I9 q9) λxv s10 ⟨v,H10,I10,r10,m',hm',w10⟩=>?_
    obtain⟨b1,b2,b3,b4⟩:=back I10
    have hl5:=hv5.length
    refine wpAny_list_append_plain (items:=its.toArray) ⟨n5,b4⟩ (λh' hpl hs'=>?_) (by rw[AM,<-hl5];exact DH hz)
    obtain⟨n6,hg6⟩:=hpl
    have I11:Inv (c7 X scope Nb H2.objs.size s H fp) [] (b6 cap nl σ) H10 {s10 with heap:=h'}:=by
     have I10':=(I10.weak ks.1 ks.2).pins_of (pins':=[]) (λp hp=>absurd hp (by simp))
     refine I10'.turned (t':=s10.toks) (it:=s.heap.objs.size) (λb o hb e=>hs'.extBut b o hb e) b3 hDC (.inr (AQ _)) (λx c e=>?_) (λp hp=>absurd (show p∈([]:List (Addr×Obj))++[]from hp) (by simp))
     rcases d6 scope.names [] x c hcells e with q | q
     ·cases q
     ·obtain⟨v,hcc⟩:=I.cell x c q
      exact AS hcc.lt
    refine⟨m',hm',i+1,H10,acc++[v],its++[xv],n6,I11,?_,b2,b3,by rw[hg6];simp,hv5.append (.cons r10 .nil),w10⟩
    exact T.keep _ _ _ b1 λb hb o e=>hs'.extBut b o (AS (hlt b hb)) e
 exact codeAny_compStart_list (loop _ rfl) (T.self X.A 0 _ _ _ (T.keep _ _ _ t0 λb hb o e=>old b o e) (loop _ rfl))
theorem w4 {elt target iter:Expr} {ifs:List Expr} {pos:Pos} {wi:TI} {g:TG} {ts:TT} {te:TE} (S:CompScope X.env.scope scope X.N Nb cap nl) (hc:X.calm=true) (hi:PI X target iter wi) (B:ra X scope Nb target ifs elt g ts te)
  (hs:∀x,foldedSetIterable iter X.env x=pure x):PE X (.ListComp elt [⟨target,iter,ifs,0⟩] scope pos) (z0 wi g ts te (b6 cap nl)):=by
 intro pins s σ H Q I h
 rw[eval_ListComp]
 have hcells:∀n,(n,NameKind.free)∈scope.names->∃c,X.env.cells.lookup n=some c:=λn hn=>by
  rcases S.free n hn with e | e
  ·exact I.ok.has n (.inl e)
  ·exact I.ok.has n (.inr e)
 refine wpAny_comprehension_free (use:=none) rfl hs (k7 hcells) S.kind (λy hy hl=>by rw[S.uniq y hy,hl]) ?_
 refine thn (hi pins s σ H _ I h) λv s1 h1=>thn h1 λitv s2 ⟨it,fp,tn,J,H2,e,I2,T,t2,f2,hW⟩=>?_
 subst e
 exact k9 (Q:=Q) (QQ:=EP X pins σ Q) S hc B I2 T t2 f2 hW λD C s' m _ hq hn=>⟨m,hn,λh' hs'=>let ⟨v,H',I',r,q⟩:=hq h' hs';⟨v,H',I',r,q.2⟩⟩
end
def tTs (K:PySem.W.Frag) (φ:Phi) (x:Exs):TT:=λσv H Q=>∃ι σ μ,Sim K ι H μ/\c8 K ι H σ σv/\cy K RB ι H (mw φ x σ μ) Q
section
variable {X : Cx} {φ : Phi} {scope : Scope} {Nb : List Str} {cap : List Nat} {nl : Nat}
theorem PTs.imp {ifs:List Expr} {t t':TT} (h:PTs X ifs t) (i:∀σ H Q,t' σ H Q->t σ H Q):PTs X ifs t':=λpins s σ H Q I q=>h pins s σ H Q I (i σ H Q q)
theorem z5:PTs X [] (tTs X.K φ .nil):=PTs.imp wz λσv H Q ⟨ι,σ,μ,hS,hL,h⟩=>by
 simp![mw]at h
 exact h.ok hS rfl
theorem rb {K:PySem.W.Frag} {ι:List Addr} {H:Hp} {σ:Sl} {σv:St} (hL:c8 K ι H σ σv):c8 K ι H (cap.map (λi=>(σ[i]?).getD none)++List.replicate nl none) (b6 cap nl σv):=λj d e=>by
 by_cases hj:j<cap.length
 ·rw[AG (by simpa using hj),BH,AA hj]at e
  simp![DY,BI]at e
  have e4:σ[cap[j]]? = some (some d):=by
   cases e5:σ[cap[j]]? with
   | none=>rw[e5]at e;cases e
   | some w=>rw[e5]at e;simp at e;rw[e]
  obtain⟨v,q1,q2⟩:=hL _ _ e4
  refine⟨v,?_,q2⟩
  unfold b6
  rw[AG (by simpa using hj),BH,AA hj]
  simp[q1]
 ·rw[BA (by simpa using hj),BM]at e
  split at e<;>cases e
theorem rd {σv σv':St} {tg:Tg} (hs:∀j∈slots tg,cap.length<=j) (hl:σv'.length=(b6 cap nl σv).length) (h:∀j,j∉slots tg->σv'[j]? = (b6 cap nl σv)[j]?):Kept (b6 cap nl σv) σv':=by
 refine⟨hl.symm,λi v e=>?_⟩
 have hi:i<cap.length:=by
  by_cases hi:i<cap.length
  ·exact hi
  ·unfold b6 at e
   rw[BA (by simpa using hi),BM]at e
   split at e<;>cases e
 rw[h i λz=>absurd (hs i z) (by lia)]
 exact e
theorem m4 {m:Mk} {tg:Tg} {it:It} {cs:Exs} {elt:Ex} {σv:St} {H:Hp} {Q:VK} (hs:∀j∈slots tg,cap.length<=j) (h:tE X.K φ (.comp m cap nl tg it cs elt) σv H Q) :
  z0 (tI X.K φ it) (tG X.K tg) (tTs X.K φ cs) (tE X.K φ elt) (b6 cap nl) σv H (FQ Q):=by
 obtain⟨ι,σ,μ,hS,hL,h⟩:=h
 simp![evE]at h
 obtain⟨⟨ds,g⟩,μ1,e1,h⟩:=h.bind
 refine⟨ι,σ,μ,hS,hL,?_⟩
 rw[e1]
 intro ι1 H1 J p1 x1 s1 wk
 refine⟨λi k H' acc=>k=ds.length-i/\i<=ds.length/\acc.length<=i/\∃ι' μ' ys,ι1 <+: ι'/\Ext H1 H'/\Sim X.K ι' H' μ'/\af X.K ι' H' ys acc /\
  cy X.K (RD X.K) ι' H' ((mapR g (λd μ=>cg (br tg d (cap.map (λi=>(σ[i]?).getD none)++List.replicate nl none)) λσ' =>
    (mw φ cs σ' μ).bind λb μ=>if b=true then(evE φ elt σ' μ).bind λx μ=>.ok [x] μ else .ok [] μ) (ds.drop i) μ').bind λxs μ=>mkL m (ys++xs) μ) Q,
  ⟨ds.length,by simp,Nat.zero_le _,AQ _,ι1,μ1,[],AD _,.refl _,s1,by simp[af],?_⟩,?_⟩
 ·simpa using h.mono p1 x1
 ·rintro i k H' acc ⟨rfl,hi,hacc,ι',μ',ys,p',x',s',hys,h'⟩
  have wl:=wk.len
  by_cases hlt:i<ds.length
  ·obtain⟨d,ed⟩:∃d,ds[i]? = some d:=⟨ds[i],AA hlt⟩
   have edrop:ds.drop i=d::ds.drop (i+1):=by
    rw[EJ hlt]
    rw[AA hlt]at ed
    cases ed;rfl
   rw[edrop]at h'
   simp![mapR]at h'
   split at h'
   ·rename_i hgd
    right
    refine⟨wk.go i ι' H' μ' p' x' s' hgd hlt,by lia,λv H2 hy=>?_⟩
    obtain⟨x2,s2,d',ed',hd'⟩:=wk.yld i ι' H' μ' v H2 p' x' s' hgd hlt hy
    rw[ed]at ed';cases ed'
    rw[Res.bind_assoc]at h'
    cases eb:br tg d (cap.map (λi=>(σ[i]?).getD none)++List.replicate nl none)with
    | none=>rw[eb]at h';exact h'.elim
    | some σb =>
     rw[eb]at h'
     simp![c6]at h'
     have hLb:=rb (cap:=cap) (nl:=nl) ((hL.mono (p1.trans p') (x1.trans x')).mono (AD _) x2)
     refine⟨ι',_,d,σb,hLb,?_,hd',eb,λσv2 l2 z2 z3 k2=>⟨rd hs z3 k2,ι',σb,μ',s2,l2,?_⟩⟩
     ·simp[b6]
     ·rw[Res.bind_assoc]at h'
      obtain⟨b,μ2,e2,h2⟩:=h'.bind
      rw[e2]
      intro ι3 b' H3 p3 x3 s3 d3
      cases d3
      cases b with
      | false =>
       refine⟨ds.length-(i+1),by lia,rfl,hlt,by lia,ι3,μ2,ys,p'.trans p3,(x'.trans x2).trans x3,s3,af.mono p3 (x2.trans x3) _ _ hys,?_⟩
       have h3:=h2.mono p3 (x2.trans x3)
       simpa[Res.bind_assoc]using h3
      | true =>
       simp![if_true]at h2 ⊢
       rw[Res.bind_assoc]at h2
       obtain⟨y,μ3,e3,h3⟩:=h2.bind
       refine⟨ι3,σb,μ2,s3,l2.mono p3 x3,?_⟩
       rw[e3]
       intro ι4 w H4 p4 x4 s4 d4
       refine⟨ds.length-(i+1),by lia,rfl,hlt,by simp;lia,ι4,μ3,ys++[y],(p'.trans p3).trans p4,((x'.trans x2).trans x3).trans x4,s4,(af.mono (p3.trans p4) ((x2.trans x3).trans x4) _ _ hys).append (.one d4),?_⟩
       have h4:=h3.mono (p3.trans p4) ((x2.trans x3).trans x4)
       simpa[Res.bind_assoc]using h4
   ·exact h'.elim
  ·have ei:i=ds.length:=by lia
   subst ei
   simp![List.drop_length,mapR]at h'
   split at h'
   ·rename_i hgd
    refine .inl ⟨wk.stop ι' H' μ' p' x' s' hgd,by lia,λp hp=>gs s' hys (by simpa using h') hp⟩
   ·exact h'.elim
theorem z6 {e target iter:Expr} {ifs:List Expr} {pos:Pos} {m:Mk} {tg:Tg} {it:It} {cs:Exs} {elt:Ex} (S:CompScope X.env.scope scope X.N Nb cap nl) (hc:X.calm=true) (hi:PI X target iter (tI X.K φ it))
  (B:ra X scope Nb target ifs e (tG X.K tg) (tTs X.K φ cs) (tE X.K φ elt)) (hf:∀x,foldedSetIterable iter X.env x=pure x) (hs:∀j∈slots tg,cap.length<=j) :
  PE X (.ListComp e [⟨target,iter,ifs,0⟩] scope pos) (tE X.K φ (.comp m cap nl tg it cs elt)) :=
 PE.imp (PE.fq (w4 S hc hi B hf)) λσv H Q h=>m4 hs h
end
section
variable {X : Cx} {φ : Phi}
theorem bj {K:PySem.W.Frag} {ι:List Addr} {H:Hp} {ds:List D} {v:V} (h:IsD K ι H (.tup ds) v):∃a xs,v=.ref a/\SqT K H a xs/\af K ι H ds xs:=by
 simpa[IsD]using h
theorem tup_is {K:PySem.W.Frag} {ι:List Addr} {H:Hp} {ds:List D} {a:Addr} {xs:List V} (h:SqT K H a xs) (h2:af K ι H ds xs):IsD K ι H (.tup ds) (.ref a):=by
 simp![IsD]
 exact⟨a,xs,rfl,h,h2⟩
theorem ay {K:PySem.W.Frag} {ι:List Addr} {H:Hp} {i:Int} {v:V} (h:IsD K ι H (.int i) v):v=.int i:=by simpa[IsD]using h
theorem la {K:PySem.W.Frag} {ι:List Addr} {H:Hp} {i:Bool} {v:V} (h:IsD K ι H (.bl i) v):v=.bl i:=by simpa[IsD]using h
theorem rf {K:PySem.W.Frag} {ι:List Addr} {H:Hp} {μ:Sto} {ds:List D} {xs:List V} {Q:VK} {p:Addr} (hS:Sim K ι H μ) (hd:af K ι H ds xs) (h:cy K (RD K) ι H (.ok (.tup ds) μ) Q) (hp:H p=none):Q (.ref p) (upd H p (.tup xs)) :=
 h ι (.ref p) _ (AD _) (.new hp) (hS.new hp) (tup_is (.of bb) (af.mono (AD _) (.new hp) ds xs hd))
theorem m7 {pins:List (Addr×Obj)} {s:Shared} {σ:St} {H:Hp} {l b:Addr} {xs zs:List V} {Q:VK} (I:Inv X pins σ H s) (hl:LsL X.K H l xs) (hb:LsL X.K H b zs) (hz:xs.length+zs.length<=sizeLine)
  (q:∀p,H p=none->Q (.ref p) (upd H p (.lst (xs++zs)))):wpAny (model X.prog X.w) X.A (binaryOp .Add (.ref l) (.ref b)) (EP X pins σ Q) X.xe s:=by
 obtain⟨z,its,n,r,hl,e⟩:=I.ls hl
 obtain⟨z2,its2,n2,r2,hl2,e2⟩:=I.ls hb
 refine PySem.P.add_list e e2 ?_ (by rw[AM,AM];lia)
 have ea:its.toArray++its2.toArray=(its++its2).toArray:=by simp
 rw[ea]
 exact⟨.ref _,_,I.lnew (t':=s.toks) (r.append r2) (by rw[BR];lia),rfl,q _ I.fresh⟩
theorem rg {pins:List (Addr×Obj)} {s:Shared} {σ:St} {H:Hp} {l:Addr} {k:Int} {t:Tok} {xs:List V} {Q:VK} (I:Inv X pins σ H s) (hH:LsL X.K H l xs) (h1:-(2 ^ 63)<=k) (h2:k<2 ^ 63) (hz:xs.length*k.toNat<=sizeLine)
  (q:∀p,H p=none->Q (.ref p) (upd H p (.lst (List.replicate k.toNat xs).flatten))):wpAny (model X.prog X.w) X.A (binaryOp .Mult (.ref l) (.int k t)) (EP X pins σ Q) X.xe s:=by
 obtain⟨z,its,n,r,hl,e⟩:=I.ls hH
 have hlen:its.toArray.size*k.toNat<=sizeLine:=by rw[AM,<-hl];exact hz
 have hcap:¬its.toArray.size*k.toNat > (2 ^ 63-1) / 8:=by
  have:(sizeLine:Nat)<=(2 ^ 63-1) / 8:=by decide
  lia
 have hfit:¬(!Builtin.List.listFitsIndex k)=true:=by
  rw[fitsIndex_both h1 h2]
  exact AZ
 have hlong:¬Builtin.List.listTooLong (its.toArray.size*k.toNat)=true:=by
  rw[qo hlen]
  exact AZ
 have hnew:List.foldl (λx1 x2=>x1++x2) #[] (List.replicate (if its.toArray.isEmpty=true then 0 else k.toNat) its.toArray)=(List.replicate k.toNat its).flatten.toArray:=by
  have f0:∀m:Nat,List.foldl (λx1 x2=>x1++x2) #[] (List.replicate m its.toArray)=(List.replicate m its).flatten.toArray:=λm=>by
   have:=foldl_rep its m []
   rw[FE]at this
   exact this
  rw[f0]
  cases its with
  | nil=>simp
  | cons a r'=>rw[if_neg (by simp)]
 refine wpAny_binaryOp_repeat_ref (T:="list") (U:="int") (by decide) ⟨_,e,rfl⟩ (λs'=>typeIs_int s' k t) noFill_list_mul F.fills_int_mul F.slot_int_rmul repeat_list F.slot_int_index.lookup
  (call_meets F.slot_int_rmul (typeIs_int s k t) F.entry_int_rmul (F.args_int_rmul_2 _ _) (int___rmul___int_list k t l its.toArray n)
   ⟨e,rfl,⟨_,e,rfl⟩,call_meets F.slot_list_mul ⟨_,e,rfl⟩ F.entry_list_mul (F.args_list_mul_2 _ _) (AutoListH.list___mul___list_int_3 l its.toArray n k t hfit hcap hlong) ⟨e,?_⟩⟩)
 rw[hnew]
 exact⟨.ref _,_,I.lnew (t':=s.toks) (r.rep k.toNat) (by rw[len_rep,Nat.mul_comm];exact hz),rfl,q _ I.fresh⟩
theorem w6 {pins:List (Addr×Obj)} {s:Shared} {σ:St} {H:Hp} {a b:Addr} {ys:List V} {Q:VK} (I:Inv X pins σ H s) (ha:SqT X.K H a []) (hb:SqT X.K H b ys) (q:Q (.ref b) H) :
  wpAny (model X.prog X.w) X.A (binaryOp .Add (.ref a) (.ref b)) (EP X pins σ Q) X.xe s:=by
 obtain⟨its,r1,p1,_⟩:=I.tuple ha
 obtain⟨its2,r2,p2,_⟩:=I.tuple hb
 have e1:its=[]:=by cases r1;rfl
 subst e1
 obtain⟨⟨cls,dd,data,sl⟩,ho,hc,n,hd⟩:=id p1
 obtain⟨⟨cls2,dd2,data2,sl2⟩,ho2,hc2,n2,hd2⟩:=id p2
 simp only at hc hd hc2 hd2
 subst hc hd hc2 hd2
 exact concat_meets ⟨_,ho,rfl⟩ ⟨_,ho2,rfl⟩ EU seq_tuple_add DK DG (DA _ _)
   (tuple_addW0 a b ([]:List Value).toArray its2.toArray n n2 dd dd2 sl sl2 (by simp)) ⟨ho,ho2,⟨.ref b,H,I,rfl,q⟩⟩
theorem z7 {op:Operator} {m:Mk}:OpR X (binaryOp op) (rOp X.K (opD op m)):=by
 intro pins s σ H x y v u Q I rx ry ⟨ι,d,e,μ,hS,hd,he,h⟩
 unfold opD at h
 split at h
 ·rename_i i j
  cases ay hd
  cases ay he
  unfold opI at h
  split at h
  ·exact op_add pins s σ H _ _ v u Q I rx ry ⟨i,j,rfl,rfl,h.ok hS (by simp[IsD])⟩
  ·exact op_sub pins s σ H _ _ v u Q I rx ry ⟨i,j,rfl,rfl,h.ok hS (by simp[IsD])⟩
  ·split at h
   ·rename_i hc
    exact op_mul pins s σ H _ _ v u Q I rx ry ⟨i,j,rfl,rfl,hc,h.ok hS (by simp[IsD])⟩
   ·exact h.elim
  ·split at h
   ·rename_i hc
    exact vx pins s σ H _ _ v u Q I rx ry ⟨i,j,rfl,rfl,hc,h.ok hS (by simp[IsD])⟩
   ·exact h.elim
  ·split at h
   ·rename_i hc
    exact op_mod pins s σ H _ _ v u Q I rx ry ⟨i,j,rfl,rfl,hc,h.ok hS (by simp[IsD])⟩
   ·exact h.elim
  ·split at h
   ·rename_i hc
    exact op_pow pins s σ H _ _ v u Q I rx ry ⟨i,j,rfl,rfl,hc,h.ok hS (by simp[IsD])⟩
   ·exact h.elim
  ·split at h
   ·rename_i hc
    exact op_shr pins s σ H _ _ v u Q I rx ry ⟨i,j,rfl,rfl,hc,h.ok hS (by simp[IsD])⟩
   ·exact h.elim
  ·exact h.elim
 ·rename_i xs ys
  split at h
  ·split at h
   ·rename_i hz
    obtain⟨a,vs,rfl,ha,hvs⟩:=bj hd
    obtain⟨b,ws,rfl,hb,hws⟩:=bj he
    cases rx
    cases ry
    rw[d5]at hz
    by_cases hx:vs=[]
    ·subst hx
     have e1:xs=[]:=by have:=hvs.length;simpa using this.symm
     subst e1
     exact w6 I ha hb (h.ok hS he)
    ·refine v7 pins s σ H (.ref a) (.ref b) _ _ Q I rfl rfl ⟨a,b,vs,ws,rfl,rfl,ha,hb,hx,by rw[hvs.length,hws.length];exact hz,λz=>?_,λz p hp=>rf hS (hvs.append hws) h hp⟩
     subst z
     have e1:ys=[]:=by have:=hws.length;simpa using this.symm
     subst e1
     exact h.ok hS (by simpa using hd)
   ·exact h.elim
  ·exact h.elim
 ·rename_i j _
  cases ay he
  split at h
  ·rename_i es
   split at h
   ·rename_i hz
    obtain⟨a,xs,rfl,ha,hxs⟩:=et hS hd es
    cases rx
    obtain⟨t,rfl⟩:=ry
    rw[d5]at hz
    exact ub (rg I ha hz.2.1 hz.2.2 (by rw[hxs.length];exact hz.1) λp hp=>gs hS (hxs.rep _) h hp)
   ·exact h.elim
  ·exact h.elim
 ·split at h
  ·rename_i es1 es2
   split at h
   ·rename_i hz
    obtain⟨a,xs,rfl,ha,hxs⟩:=et hS hd es1
    obtain⟨b,ys,rfl,hb,hys⟩:=et hS he es2
    cases rx
    cases ry
    rw[d5]at hz
    exact ub (m7 I ha hb (by rw[hxs.length,hys.length];exact hz) λp hp=>gs hS (hxs.append hys) h hp)
   ·exact h.elim
  ·exact h.elim
end
section
variable (K : PySem.W.Frag) (H : Hp)
mutual
def IsW:D->V->Prop
 | .non,v=>v=.non
 | .bl b,v=>v=.bl b
 | .int i,v=>v=.int i
 | .str x,v=>v=.str x
 | .tup ds,v=>∃a xs,v=.ref a/\SqT K H a xs/\cb ds xs
 | .lst ds,v=>∃a xs,v=.ref a/\LsL K H a xs/\cb ds xs
 | .loc _,_=>False
def cb:List D->List V->Prop
 | [],xs=>xs=[]
 | d::ds,xs=>∃v r,xs=v::r/\IsW d v/\cb ds r
end
end
section
variable {K : PySem.W.Frag} {H : Hp}
theorem cb.length:∀{ds:List D} {xs:List V},cb K H ds xs->xs.length=ds.length
 | [],xs,h=>by simp![cb]at h;subst h;rfl
 | d::ds,xs,h=>by
  simp![cb]at h
  obtain⟨v,r,rfl,_,t⟩:=h
  simp[cb.length t]
theorem cb.get:∀{ds:List D} {xs:List V} {i:Nat} {d:D},cb K H ds xs->ds[i]? = some d->∃v,xs[i]? = some v/\IsW K H d v
 | [],_,_,_,_,e=>by simp at e
 | d::ds,xs,0,_,h,e=>by
  simp![cb]at h
  obtain⟨v,r,rfl,q,_⟩:=h
  simp at e;subst e
  exact⟨v,rfl,q⟩
 | d::ds,xs,i+1,x,h,e=>by
  simp![cb]at h
  obtain⟨v,r,rfl,_,t⟩:=h
  obtain⟨w,h1,h2⟩:=cb.get (i:=i) (d:=x) t (by simpa using e)
  exact⟨w,by simpa using h1,h2⟩
theorem ew {ds:List D} {v:V} (h:IsW K H (.tup ds) v):∃a xs,v=.ref a/\SqT K H a xs/\cb K H ds xs:=by simpa[IsW]using h
theorem m8 {ι:List Addr} {μ:Sto} (S:Sim K ι H μ) (f:D->Option D) (hf:∀d e v,f d=some e->IsD K ι H d v->IsW K H e v):∀{ds es:List D} {xs:List V},ak (ds.map f)=some es->af K ι H ds xs->cb K H es xs
 | [],es,xs,h,hd=>by
  simp![CK,ak,BI]at h
  subst h
  simpa[af,cb]using hd
 | d::ds,es,xs,h,hd=>by
  simp![BJ]at h
  cases e1:f d with
  | none=>rw[e1]at h;simp[ak]at h
  | some e =>
   rw[e1]at h
   simp![ak]at h
   cases e2:ak (ds.map f)with
   | none=>rw[e2]at h;cases h
   | some r =>
    rw[e2]at h
    cases h
    simp![af]at hd
    obtain⟨v,t,rfl,q,hd⟩:=hd
    simp![cb]
    exact⟨v,t,rfl,hf d e v e1 q,m8 S f hf e2 hd⟩
theorem iv {ι:List Addr} {μ:Sto} (S:Sim K ι H μ):∀(k:Nat) (d e:D) (v:V),ag μ k d=some e->IsD K ι H d v->IsW K H e v
 | 0,d,e,v,h,hd=>by
  cases d<;>simp_all[ag,flat,IsD,IsW]<;>(subst h;simp[IsW])
 | k+1,d,e,v,h,hd=>by
  have ih:=iv S k
  have sub:∀{ι':List Addr} {ds es:List D} {xs:List V},ι' <+: ι->ak (ds.map (ag μ k))=some es->af K ι' H ds xs->cb K H es xs:=λp h hd=>m8 S _ ih h (af.mono p (.refl _) _ _ hd)
  cases d with
  | tup ds =>
   simp![ag]at h
   cases e1:ak (ds.map (ag μ k))with
   | none=>rw[e1]at h;cases h
   | some es =>
    rw[e1]at h;cases h
    obtain⟨a,xs,rfl,hq,hds⟩:=bj hd
    simp![IsW]
    exact⟨a,xs,rfl,hq,sub (AD _) e1 hds⟩
  | lst ds =>
   simp![ag]at h
   cases e1:ak (ds.map (ag μ k))with
   | none=>rw[e1]at h;cases h
   | some es =>
    rw[e1]at h;cases h
    obtain⟨a,xs,rfl,hq,hds⟩:∃a xs,v=.ref a/\FzL K H a xs/\af K ι H ds xs:=by simpa[IsD]using hd
    simp![IsW]
    exact⟨a,xs,rfl,.inr hq,sub (AD _) e1 hds⟩
  | loc n =>
   obtain⟨a,rfl,hn⟩:∃a,v=.ref a/\ι[n]? = some a:=by simpa[IsD]using hd
   simp![ag]at h
   cases em:μ[n]? with
   | none=>rw[em]at h;cases h
   | some o =>
    obtain⟨a',q',ho⟩:=S.at em
    rw[hn]at q';cases q'
    rw[em]at h
    cases o with
    | l ds =>
     simp only at h
     obtain⟨xs,f1,f2⟩:=ho
     cases e1:ak (ds.map (ag μ k))with
     | none=>rw[e1]at h;cases h
     | some es =>
      rw[e1]at h;cases h
      simp![IsW]
      exact⟨a,xs,rfl,(.inl f1),sub DC e1 f2⟩
    | r ds =>
     simp only at h
     obtain⟨xs,f1,f2⟩:=ho
     cases e1:ak (ds.map (ag μ k))with
     | none=>rw[e1]at h;cases h
     | some es =>
      rw[e1]at h;cases h
      simp![IsW]
      exact⟨a,xs,rfl,(.inl f1),sub (AD _) e1 f2⟩
    | _=>cases h
  | _=>simp![ag]at h;cases h;simpa[IsD,IsW]using hd
mutual
theorem IsW.ofD:∀{d:D} {v:V},IsD K [] H d v->IsW K H d v
 | .non,v,h=>by simpa[IsD,IsW]using h
 | .bl _,v,h=>by simpa[IsD,IsW]using h
 | .int _,v,h=>by simpa[IsD,IsW]using h
 | .str _,v,h=>by simpa[IsD,IsW]using h
 | .tup ds,v,h=>by
  obtain⟨a,xs,rfl,hq,hds⟩:=bj h
  simp![IsW]
  exact⟨a,xs,rfl,hq,cb.ofD hds⟩
 | .lst ds,v,h=>by
  obtain⟨a,xs,rfl,hq,hds⟩:∃a xs,v=.ref a/\FzL K H a xs/\af K [] H ds xs:=by simpa[IsD]using h
  simp![IsW]
  exact⟨a,xs,rfl,.inr hq,cb.ofD hds⟩
 | .loc n,v,h=>by simp[IsD]at h
theorem cb.ofD:∀{ds:List D} {xs:List V},af K [] H ds xs->cb K H ds xs
 | [],xs,h=>by simpa[af,cb]using h
 | d::ds,xs,h=>by
  simp![af]at h
  obtain⟨v,r,rfl,q,t⟩:=h
  simp![cb]
  exact⟨v,r,rfl,IsW.ofD q,cb.ofD t⟩
end
theorem e8 {μ:Sto} {k:Nat} (ih:∀d e,ag μ k d=some e->D.pureN k e=true):∀{ds es:List D},ak (ds.map (ag μ k))=some es->es.all (D.pureN k)=true
 | [],es,h=>by simp![CK,ak,BI]at h;subst h;rfl
 | d::ds,es,h=>by
  simp![BJ]at h
  cases e1:ag μ k d with
  | none=>rw[e1]at h;simp[ak]at h
  | some e =>
   rw[e1]at h
   simp![ak]at h
   cases e2:ak (ds.map (ag μ k))with
   | none=>rw[e2]at h;cases h
   | some r =>
    rw[e2]at h;cases h
    simp![BK,ih d e e1,e8 ih e2,Bool.and_self]
theorem bt {μ:Sto}:∀(k:Nat) (d e:D),ag μ k d=some e->D.pureN k e=true
 | 0,d,e,h=>by
  cases d<;>simp_all[ag,flat]<;>(subst h;rfl)
 | k+1,d,e,h=>by
  have ih:=bt (μ:=μ) k
  have mp:∀{ds:List D} {c:List D->D},(∀es,es.all (D.pureN k)=true->D.pureN (k+1) (c es)=true)->(ak (ds.map (ag μ k))).map c=some e->D.pureN (k+1) e=true:=λ{ds c} hc h=>by
   cases e1:ak (ds.map (ag μ k))with
   | none=>rw[e1]at h;cases h
   | some es=>rw[e1]at h;cases h;exact hc es (e8 ih e1)
  cases d with
  | tup ds=>simp![ag]at h;exact mp (c:=.tup) (λes h=>h) h
  | lst ds=>simp![ag]at h;exact mp (c:=.lst) (λes h=>h) h
  | loc n =>
   simp![ag]at h
   cases em:μ[n]? with
   | none=>rw[em]at h;cases h
   | some o =>
    rw[em]at h
    cases o with
    | l ds=>exact mp (c:=.lst) (λes h=>h) h
    | r ds=>exact mp (c:=.lst) (λes h=>h) h
    | _=>cases h
  | _=>simp![ag]at h;cases h;rfl
end
open PySem.SeqAt (EqAt RcAt RcNeAt)
section
variable {X : Cx} {φ : Phi} {pins : List (Addr × Obj)} {σ : St} {H : Hp} {s : Shared}
theorem in1_units (A:Around):A.in1.units=A.units+1:=by
 first | rfl | simp[Around.in1]
theorem dq:∀(as bs:List D),as.length=bs.length->lx as bs=(List.range as.length).all λj=>deq (as.getD j .non) (bs.getD j .non)
 | [],[],_=>rfl
 | a::as,b::bs,h=>by
  rw[lx,dq as bs (by simpa using h),AW,List.range_succ_eq_map,BK,List.all_map]
  rfl
 | [],_::_,h=>by simp at h
 | _::_,[],h=>by simp at h
theorem gv:∀(as bs:List D),as.length≠bs.length->lx as bs=false
 | [],[],h=>absurd rfl h
 | a::as,b::bs,h=>by rw[lx,gv as bs (by simpa using h),Bool.and_false]
 | [],_::_,_=>rfl
 | _::_,[],_=>rfl
theorem jm:∀(k:Nat) (a b:D) (v:V),D.pureN k a=true->D.pureN k b=true->IsW X.K H a v->IsW X.K H b v->Inv X pins σ H s->deq a b=true:=by
 intro k
 have list:∀k,(∀(a b:D) (v:V),D.pureN k a=true->D.pureN k b=true->IsW X.K H a v->IsW X.K H b v->Inv X pins σ H s->deq a b=true) ->
   ∀(as bs:List D) (xs:List V),as.all (D.pureN k)=true->bs.all (D.pureN k)=true->cb X.K H as xs->cb X.K H bs xs->Inv X pins σ H s->lx as bs=true:=by
  intro k ih as
  induction as with
  | nil =>
   intro bs xs _ _ ha hb _
   have e:xs=[]:=by simpa[cb]using ha
   subst e
   have:=hb.length
   have e2:bs=[]:=by simpa using this.symm
   subst e2
   rfl
  | cons a as iha =>
   intro bs xs pa pb ha hb I
   cases bs with
   | nil =>
    have e:xs=[]:=by simpa[cb]using hb
    subst e
    have:=ha.length
    simp at this
   | cons b bs =>
    simp![cb]at ha hb
    obtain⟨v,r,e,q,t⟩:=ha
    obtain⟨v',r',e',q',t'⟩:=hb
    rw[e]at e'
    cases e'
    simp![BK,AK]at pa pb
    rw[lx,ih a b v pa.1 pb.1 q q' I,iha bs r pa.2 pb.2 t t' I]
    rfl
 have flat:∀(a b:D) (v:V),(∀ds,a≠.tup ds)->(∀ds,a≠.lst ds)->(∀n,a≠.loc n)->(∀n,b≠.loc n)->IsW X.K H a v->IsW X.K H b v->deq a b=true:=by
  intro a b v h1 h2 h3 h4 ha hb
  cases a with
  | tup ds=>exact absurd rfl (h1 ds)
  | lst ds=>exact absurd rfl (h2 ds)
  | loc n=>exact absurd rfl (h3 n)
  | _=>cases b<;>simp_all[IsW,deq]
 induction k with
 | zero =>
  intro a b v pa pb ha hb I
  refine flat a b v ?_ ?_ ?_ ?_ ha hb
  ·intro z e;subst e;simp[D.pureN]at pa
  ·intro z e;subst e;simp[D.pureN]at pa
  ·intro z e;subst e;simp[D.pureN]at pa
  ·intro z e;subst e;simp[D.pureN]at pb
 | succ k ih =>
  intro a b v pa pb ha hb I
  cases a with
  | loc n=>simp[D.pureN]at pa
  | tup as =>
   simp![IsW]at ha
   obtain⟨p,xs,rfl,hq,hds⟩:=ha
   cases b with
   | tup bs =>
    simp![IsW]at hb
    obtain⟨p',xs',e,hq',hds'⟩:=hb
    cases e
    have:=I.tuple_inj hq hq'
    subst this
    rw[deq]
    exact list k ih as bs xs (by simpa[D.pureN]using pa) (by simpa[D.pureN]using pb) hds hds' I
   | lst bs =>
    simp![IsW]at hb
    obtain⟨p',xs',e,hq',hds'⟩:=hb
    cases e
    exfalso
    obtain⟨its,_,⟨o,e1,c1,_⟩,_⟩:=I.tuple hq
    obtain⟨its',_,⟨o',n',e2,c2,_⟩,_⟩:=I.list hq'.sq
    rw[e1]at e2;cases e2
    rw[c1]at c2
    injection c2 with c3
    exact absurd c3 (by decide)
   | loc n=>simp[D.pureN]at pb
   | _=>simp[IsW]at hb
  | lst as =>
   simp![IsW]at ha
   obtain⟨p,xs,rfl,hq,hds⟩:=ha
   cases b with
   | lst bs =>
    simp![IsW]at hb
    obtain⟨p',xs',e,hq',hds'⟩:=hb
    cases e
    have:=I.list_inj hq.sq hq'.sq
    subst this
    rw[deq]
    exact list k ih as bs xs (by simpa[D.pureN]using pa) (by simpa[D.pureN]using pb) hds hds' I
   | tup bs =>
    simp![IsW]at hb
    obtain⟨p',xs',e,hq',hds'⟩:=hb
    cases e
    exfalso
    obtain⟨its,_,⟨o,e1,c1,_⟩,_⟩:=I.tuple hq'
    obtain⟨its',_,⟨o',n',e2,c2,_⟩,_⟩:=I.list hq.sq
    rw[e1]at e2;cases e2
    rw[c1]at c2
    injection c2 with c3
    exact absurd c3 (by decide)
   | loc n=>simp[D.pureN]at pb
   | _=>simp[IsW]at hb
  | _ =>
   refine flat _ b v (by intro _ z;cases z) (by intro _ z;cases z) (by intro _ z;cases z) ?_ ha hb
   intro z e;subst e;simp[D.pureN]at pb
theorem rh (I:Inv X pins σ H s) {k:Nat} {A:Around} {a b:D} {x y:V} {u v:Value} (pa:D.pureN k a=true) (pb:D.pureN k b=true) (ha:IsW X.K H a x) (hb:IsW X.K H b y) (ru:RelV x u) (rv:RelV y v) (h:RcAt A s u v (deq a b)):EqAt A s u v (deq a b):=by
 intro prog w E Q q
 have fl:∀b t,u≠.float b t:=λb t z=>by
  subst z
  cases a with
  | non=>cases(show x=.non by simpa[IsW]using ha);exact nomatch (show Value.float b t=.none from ru)
  | bl c=>cases(show x=.bl c by simpa[IsW]using ha);exact nomatch (show Value.float b t=.bool c from ru)
  | int c=>cases(show x=.int c by simpa[IsW]using ha);obtain⟨_,z⟩:=ru;cases z
  | str c=>cases(show x=.str c by simpa[IsW]using ha);obtain⟨_,z⟩:=ru;cases z
  | loc n=>simp[IsW]at ha
  | tup _=>obtain⟨c,_,rfl,_⟩:=ew ha;exact nomatch (show Value.float b t=.ref c from ru)
  | lst ds =>
        obtain⟨c,_,rfl,_⟩:∃a xs,x=.ref a/\LsL X.K H a xs/\cb X.K H ds xs:=by simpa[IsW]using ha
        exact nomatch (show Value.float b t=.ref c from ru)
 unfold eqBool
 refine ES ?_
 by_cases e:(u==v)=true
 ·rw[if_pos e]
  have e':u=v:=by simpa using e
  subst e'
  cases ru.inj rv
  rw[jm k _ _ _ pa pb ha hb I]at q
  exact AC (wpAny_rule (AO q))
 ·rw[if_neg e]
  have go:wpAny (model prog w) A (do
    let r <-richCompare .Eq u v
    truthOfDropped r) Q E s:=AC (h prog w _ _ (by exact CU q))
  cases u with
  | float b t=>exact absurd rfl (fl b t)
  | _=>exact go
theorem m9 (A:Around) (a b:D) (x y:V) (u v:Value) (pa:D.pureN 0 a=true) (pb:D.pureN 0 b=true) (ha:IsW X.K H a x) (hb:IsW X.K H b y) (ru:RelV x u) (rv:RelV y v):RcAt A s u v (deq a b)/\RcNeAt A s u v (!deq a b):=by
 have b2:∀(a b:Int),decide (a=b)=(a==b):=λa b=>(CS a b).symm
 cases a with
 | tup _=>simp[D.pureN]at pa
 | lst _=>simp[D.pureN]at pa
 | loc _=>simp[D.pureN]at pa
 | non =>
  have ex:x=.non:=by simpa[IsW]using ha
  subst ex
  cases(show u=Value.none from ru)
  cases b with
  | tup _=>simp[D.pureN]at pb
  | lst _=>simp[D.pureN]at pb
  | loc _=>simp[D.pureN]at pb
  | non=>cases(show y=.non by simpa[IsW]using hb);cases(show v=Value.none from rv);exact⟨RcAt.none_none,RcNeAt.none_none⟩
  | bl c=>cases(show y=.bl c by simpa[IsW]using hb);cases(show v=Value.bool c from rv);exact⟨RcAt.none_bool _,RcNeAt.none_bool _⟩
  | int c=>cases(show y=.int c by simpa[IsW]using hb);obtain⟨t,rfl⟩:=rv;exact⟨RcAt.none_int _ _,RcNeAt.none_int _ _⟩
  | str c=>cases(show y=.str c by simpa[IsW]using hb);obtain⟨t,rfl⟩:=rv;exact⟨RcAt.none_str _ _,RcNeAt.none_str _ _⟩
 | bl d =>
  have ex:x=.bl d:=by simpa[IsW]using ha
  subst ex
  cases(show u=Value.bool d from ru)
  cases b with
  | tup _=>simp[D.pureN]at pb
  | lst _=>simp[D.pureN]at pb
  | loc _=>simp[D.pureN]at pb
  | non=>cases(show y=.non by simpa[IsW]using hb);cases(show v=Value.none from rv);exact⟨RcAt.bool_none _,RcNeAt.bool_none _⟩
  | bl c=>cases(show y=.bl c by simpa[IsW]using hb);cases(show v=Value.bool c from rv);exact⟨RcAt.bool_bool _ _,RcNeAt.bool_bool _ _⟩
  | int c=>cases(show y=.int c by simpa[IsW]using hb);obtain⟨t,rfl⟩:=rv;rw[deq,b2];exact⟨RcAt.bool_int _ _ _,RcNeAt.bool_int _ _ _⟩
  | str c=>cases(show y=.str c by simpa[IsW]using hb);obtain⟨t,rfl⟩:=rv;exact⟨RcAt.bool_str _ _ _,RcNeAt.bool_str _ _ _⟩
 | int d =>
  have ex:x=.int d:=by simpa[IsW]using ha
  subst ex
  obtain⟨t',rfl⟩:=ru
  cases b with
  | tup _=>simp[D.pureN]at pb
  | lst _=>simp[D.pureN]at pb
  | loc _=>simp[D.pureN]at pb
  | non=>cases(show y=.non by simpa[IsW]using hb);cases(show v=Value.none from rv);exact⟨RcAt.int_none _ _,RcNeAt.int_none _ _⟩
  | bl c=>cases(show y=.bl c by simpa[IsW]using hb);cases(show v=Value.bool c from rv);rw[deq,b2];exact⟨RcAt.int_bool _ _ _,RcNeAt.int_bool _ _ _⟩
  | int c=>cases(show y=.int c by simpa[IsW]using hb);obtain⟨t,rfl⟩:=rv;rw[deq,b2];exact⟨RcAt.int_int _ _ _ _,RcNeAt.int_int _ _ _ _⟩
  | str c=>cases(show y=.str c by simpa[IsW]using hb);obtain⟨t,rfl⟩:=rv;exact⟨RcAt.int_str _ _ _ _,RcNeAt.int_str _ _ _ _⟩
 | str d =>
  have ex:x=.str d:=by simpa[IsW]using ha
  subst ex
  obtain⟨t',rfl⟩:=ru
  cases b with
  | tup _=>simp[D.pureN]at pb
  | lst _=>simp[D.pureN]at pb
  | loc _=>simp[D.pureN]at pb
  | non=>cases(show y=.non by simpa[IsW]using hb);cases(show v=Value.none from rv);exact⟨RcAt.str_none _ _,RcNeAt.str_none _ _⟩
  | bl c=>cases(show y=.bl c by simpa[IsW]using hb);cases(show v=Value.bool c from rv);exact⟨RcAt.str_bool _ _ _,RcNeAt.str_bool _ _ _⟩
  | int c=>cases(show y=.int c by simpa[IsW]using hb);obtain⟨t,rfl⟩:=rv;exact⟨RcAt.str_int _ _ _ _,RcNeAt.str_int _ _ _ _⟩
  | str c =>
   cases(show y=.str c by simpa[IsW]using hb);obtain⟨t,rfl⟩:=rv
   have e:deq (.str d) (.str c)=(d==c):=by rw[deq];exact(CS d c).symm
   rw[e];exact⟨RcAt.str_str _ _ _ _,RcNeAt.str_str _ _ _ _⟩
theorem Cc (I:Inv X pins σ H s):∀(k:Nat) (A:Around) (a b:D) (x y:V) (u v:Value),A.units+k<cLine->D.pureN k a=true->D.pureN k b=true->IsW X.K H a x->IsW X.K H b y->RelV x u->RelV y v->RcAt A s u v (deq a b)/\RcNeAt A s u v (!deq a b):=by
 intro k
 induction k with
 | zero=>exact λA a b x y u v _ pa pb ha hb ru rv=>m9 A a b x y u v pa pb ha hb ru rv
 | succ k ih =>
  intro A a b x y u v hu pa pb ha hb ru rv
  have hu0:A.units<cLine:=by lia
  have each:∀(as bs:List D) (xs ys:List V) (is js:List Value),as.all (D.pureN k)=true->bs.all (D.pureN k)=true->cb X.K H as xs->cb X.K H bs ys->ax xs is->ax ys js ->
    ∀j (h1:j<is.toArray.size) (h2:j<js.toArray.size),EqAt A.in1 s is.toArray[j] js.toArray[j] (deq (as.getD j .non) (bs.getD j .non)):=by
   intro as bs xs ys is js pas pbs has hbs hvx hvy j h1 h2
   have l1:as.length=is.length:=by rw[<-has.length,hvx.length]
   have l2:bs.length=js.length:=by rw[<-hbs.length,hvy.length]
   have j1:j<as.length:=by rw[l1];simpa using h1
   have j2:j<bs.length:=by rw[l2];simpa using h2
   obtain⟨p,e1,q1⟩:=has.get (AA j1)
   obtain⟨p',e1',q1'⟩:=hbs.get (AA j2)
   obtain⟨w,e2,q2⟩:=hvx.get e1
   obtain⟨w',e2',q2'⟩:=hvy.get e1'
   have g1:is.toArray[j]=w:=by
    have:is[j]? = some is.toArray[j]:=by simp[AA (show j<is.length by lia)]
    rw[this]at e2;exact BL e2
   have g2:js.toArray[j]=w':=by
    have:js[j]? = some js.toArray[j]:=by simp[AA (show j<js.length by lia)]
    rw[this]at e2';exact BL e2'
   rw[g1,g2,EI,EI,AA j1,AA j2]
   have pa:=BX.mp pas _ (List.getElem_mem j1)
   have pb:=BX.mp pbs _ (List.getElem_mem j2)
   exact rh I pa pb q1 q1' q2 q2' (ih A.in1 _ _ p p' w w' (by rw[in1_units];lia) pa pb q1 q1' q2 q2').1
  have flat0:∀d:D,D.pureN (k+1) d=true->(∀ds,d≠.tup ds)->(∀ds,d≠.lst ds)->D.pureN 0 d=true:=λd h h1 h2=>by
   cases d with
   | tup ds=>exact absurd rfl (h1 ds)
   | lst ds=>exact absurd rfl (h2 ds)
   | loc n=>simp[D.pureN]at h
   | _=>rfl
  cases a with
  | loc n=>simp[D.pureN]at pa
  | tup as =>
   have pas:as.all (D.pureN k)=true:=by simpa[D.pureN]using pa
   obtain⟨p,xs,rfl,hq,hds⟩:=ew ha
   cases(show u=Value.ref p from ru)
   obtain⟨its,hv,ht,hz⟩:=I.tuple hq
   have ht':s.heap.IsTuple p its.toArray:=ht
   cases b with
   | loc n=>simp[D.pureN]at pb
   | tup bs =>
    have pbs:bs.all (D.pureN k)=true:=by simpa[D.pureN]using pb
    obtain⟨p',xs',rfl,hq',hds'⟩:=ew hb
    cases(show v=Value.ref p' from rv)
    obtain⟨its',hv',ht2,hz'⟩:=I.tuple hq'
    ·skip
     have ea:=each as bs xs xs' its its' pas pbs hds hds' hv hv'
     have q:=RcAt.tuples (A:=A) ht' (show s.heap.IsTuple p' its'.toArray from ht2) hu0 ea
     have q':=RcNeAt.tuples (A:=A) ht' (show s.heap.IsTuple p' its'.toArray from ht2) hu0 ea
     have l1:as.length=its.length:=by rw[<-hds.length,hv.length]
     have l2:bs.length=its'.length:=by rw[<-hds'.length,hv'.length]
     have e:((List.range (min its.toArray.size its'.toArray.size)).all (λj=>deq (as.getD j .non) (bs.getD j .non))&&its.toArray.size==its'.toArray.size)=deq (.tup as) (.tup bs):=by
      rw[deq]
      simp![AM,<-l1,<-l2]
      by_cases hl:as.length=bs.length
      ·rw[dq as bs hl,<-hl];simp
      ·rw[gv as bs hl];simp[hl]
     rw[e]at q q'
     exact⟨q,q'⟩
   | lst bs =>
    obtain⟨p',xs',rfl,hq',hds'⟩:∃a xs,y=.ref a/\LsL X.K H a xs/\cb X.K H bs xs:=by simpa[IsW]using hb
    cases(show v=Value.ref p' from rv)
    obtain⟨z,its',n',hv',_,hg⟩:=I.ls hq'
    exact⟨RcAt.tuple_list ht' ⟨_,hg,rfl,n',rfl⟩ hu0,RcNeAt.tuple_list ht' ⟨_,hg,rfl,n',rfl⟩ hu0⟩
   | non=>cases(show y=.non by simpa[IsW]using hb);cases(show v=Value.none from rv);exact⟨RcAt.tuple_none ht' hu0,RcNeAt.tuple_none ht' hu0⟩
   | bl c=>cases(show y=.bl c by simpa[IsW]using hb);cases(show v=Value.bool c from rv);exact⟨RcAt.tuple_bool _ ht' hu0,RcNeAt.tuple_bool _ ht' hu0⟩
   | int c=>cases(show y=.int c by simpa[IsW]using hb);obtain⟨t,rfl⟩:=rv;exact⟨RcAt.tuple_int _ _ ht' hu0,RcNeAt.tuple_int _ _ ht' hu0⟩
   | str c=>cases(show y=.str c by simpa[IsW]using hb);obtain⟨t,rfl⟩:=rv;exact⟨RcAt.tuple_str _ _ ht' hu0,RcNeAt.tuple_str _ _ ht' hu0⟩
  | lst as =>
   have pas:as.all (D.pureN k)=true:=by simpa[D.pureN]using pa
   obtain⟨p,xs,rfl,hq,hds⟩:∃a xs,x=.ref a/\LsL X.K H a xs/\cb X.K H as xs:=by simpa[IsW]using ha
   cases(show u=Value.ref p from ru)
   obtain⟨z,its,n,hv,_,hg⟩:=I.ls hq
   have hl':s.heap.IsList p its.toArray:=⟨_,hg,rfl,n,rfl⟩
   cases b with
   | loc n=>simp[D.pureN]at pb
   | lst bs =>
    have pbs:bs.all (D.pureN k)=true:=by simpa[D.pureN]using pb
    obtain⟨p',xs',rfl,hq',hds'⟩:∃a xs,y=.ref a/\LsL X.K H a xs/\cb X.K H bs xs:=by simpa[IsW]using hb
    cases(show v=Value.ref p' from rv)
    obtain⟨z',its',n',hv',_,hg'⟩:=I.ls hq'
    have hl2:s.heap.IsList p' its'.toArray:=⟨_,hg',rfl,n',rfl⟩
    ·skip
     have l1:as.length=its.length:=by rw[<-hds.length,hv.length]
     have l2:bs.length=its'.length:=by rw[<-hds'.length,hv'.length]
     by_cases hl:as.length=bs.length
     ·have ea:=each as bs xs xs' its its' pas pbs hds hds' hv hv'
      have ez:its.toArray.size=its'.toArray.size:=by simp![AM];lia
      have q:=RcAt.lists (A:=A) hl' hl2 ez hu0 ea
      have q':=RcNeAt.lists (A:=A) hl' hl2 ez hu0 ea
      have e:(List.range its.toArray.size).all (λj=>deq (as.getD j .non) (bs.getD j .non))=deq (.lst as) (.lst bs):=by
       rw[deq,dq as bs hl]
       simp![AM,<-l1]
      rw[e]at q q'
      exact⟨q,q'⟩
     ·rw[deq,gv as bs hl]
      exact⟨RcAt.lists_lengths hl' hl2 (by simp![AM];simp;lia) hu0,RcNeAt.lists_lengths hl' hl2 (by simp![AM];simp;lia) hu0⟩
   | tup bs =>
    obtain⟨p',xs',rfl,hq',hds'⟩:=ew hb
    cases(show v=Value.ref p' from rv)
    obtain⟨its',hv',ht2,hz'⟩:=I.tuple hq'
    exact⟨RcAt.list_tuple hl' (show s.heap.IsTuple p' its'.toArray from ht2) hu0,RcNeAt.list_tuple hl' (show s.heap.IsTuple p' its'.toArray from ht2) hu0⟩
   | non=>cases(show y=.non by simpa[IsW]using hb);cases(show v=Value.none from rv);exact⟨RcAt.list_none hl' hu0,RcNeAt.list_none hl' hu0⟩
   | bl c=>cases(show y=.bl c by simpa[IsW]using hb);cases(show v=Value.bool c from rv);exact⟨RcAt.list_bool _ hl' hu0,RcNeAt.list_bool _ hl' hu0⟩
   | int c=>cases(show y=.int c by simpa[IsW]using hb);obtain⟨t,rfl⟩:=rv;exact⟨RcAt.list_int _ _ hl' hu0,RcNeAt.list_int _ _ hl' hu0⟩
   | str c=>cases(show y=.str c by simpa[IsW]using hb);obtain⟨t,rfl⟩:=rv;exact⟨RcAt.list_str _ _ hl' hu0,RcNeAt.list_str _ _ hl' hu0⟩
  | _ =>
   cases b with
   | loc n=>simp[D.pureN]at pb
   | tup bs =>
    obtain⟨p',xs',rfl,hq',hds'⟩:=ew hb
    cases(show v=Value.ref p' from rv)
    obtain⟨its',hv',ht2,hz'⟩:=I.tuple hq'
    have ht':s.heap.IsTuple p' its'.toArray:=ht2
    first
    | (cases(show x=.non by simpa[IsW]using ha);cases(show u=Value.none from ru);exact⟨RcAt.none_tuple ht' hu0,RcNeAt.none_tuple ht' hu0⟩)
    | (cases(show x=.bl _ by simpa[IsW]using ha);cases(show u=Value.bool _ from ru);exact⟨RcAt.bool_tuple _ ht' hu0,RcNeAt.bool_tuple _ ht' hu0⟩)
    | (cases(show x=.int _ by simpa[IsW]using ha);obtain⟨t,rfl⟩:=ru;exact⟨RcAt.int_tuple _ _ ht' hu0,RcNeAt.int_tuple _ _ ht' hu0⟩)
    | (cases(show x=.str _ by simpa[IsW]using ha);obtain⟨t,rfl⟩:=ru;exact⟨RcAt.str_tuple _ _ ht' hu0,RcNeAt.str_tuple _ _ ht' hu0⟩)
   | lst bs =>
    obtain⟨p',xs',rfl,hq',hds'⟩:∃a xs,y=.ref a/\LsL X.K H a xs/\cb X.K H bs xs:=by simpa[IsW]using hb
    cases(show v=Value.ref p' from rv)
    obtain⟨z',its',n',hv',_,hg'⟩:=I.ls hq'
    have hl':s.heap.IsList p' its'.toArray:=⟨_,hg',rfl,n',rfl⟩
    first
    | (cases(show x=.non by simpa[IsW]using ha);cases(show u=Value.none from ru);exact⟨RcAt.none_list hl' hu0,RcNeAt.none_list hl' hu0⟩)
    | (cases(show x=.bl _ by simpa[IsW]using ha);cases(show u=Value.bool _ from ru);exact⟨RcAt.bool_list _ hl' hu0,RcNeAt.bool_list _ hl' hu0⟩)
    | (cases(show x=.int _ by simpa[IsW]using ha);obtain⟨t,rfl⟩:=ru;exact⟨RcAt.int_list _ _ hl' hu0,RcNeAt.int_list _ _ hl' hu0⟩)
    | (cases(show x=.str _ by simpa[IsW]using ha);obtain⟨t,rfl⟩:=ru;exact⟨RcAt.str_list _ _ hl' hu0,RcNeAt.str_list _ _ hl' hu0⟩)
   | _=>exact m9 A _ _ x y u v rfl rfl ha hb ru rv
end
open PySem.SeqAt (EqAt RcAt)
section
variable {X : Cx} {φ : Phi} {pins : List (Addr × Obj)} {σ : St} {H : Hp} {s : Shared}
theorem z8 (hu:X.A.units+8<cLine):OpR X (compareOp .Eq) (rOp X.K (cpD .eq)):=by
 intro pins s σ H x y v u Q I rx ry ⟨ι,a,b,μ,hS,ha,hb,h⟩
 unfold cpD at h
 simp only at h
 split at h
 ·rename_i hp
  exact(Cc I 8 X.A a b x y v u hu hp.1 hp.2 (IsW.ofD (IsD.pur hp.1 ha)) (IsW.ofD (IsD.pur hp.2 hb)) rx ry).1 _ _ _ _ ⟨.bl (deq a b),H,I,rfl,h.ok hS (by simp[IsD])⟩
 ·exact h.elim
end
open PySem.SeqAt (EqAt RcNeAt)
section
variable {X : Cx} {φ : Phi} {pins : List (Addr × Obj)} {σ : St} {H : Hp} {s : Shared}
theorem z9 (hu:X.A.units+8<cLine):OpR X (compareOp .NotEq) (rOp X.K (cpD .ne)):=by
 intro pins s σ H x y v u Q I rx ry ⟨ι,a,b,μ,hS,ha,hb,h⟩
 unfold cpD at h
 simp only at h
 split at h
 ·rename_i hp
  exact(Cc I 8 X.A a b x y v u hu hp.1 hp.2 (IsW.ofD (IsD.pur hp.1 ha)) (IsW.ofD (IsD.pur hp.2 hb)) rx ry).2 _ _ _ _ ⟨.bl (!deq a b),H,I,rfl,h.ok hS (by simp[IsD])⟩
 ·exact h.elim
end
end Lp
namespace LT
open PySem PySem.Spec PyProof.Rows HT
open PySem.SeqAt
open PySem.AutoSeq1 (wpAny_loadPart')
open PySem.MeetsSeq PySem.MeetsSeq2 PySem.MeetsSeq3
theorem Gb (A:Around) (s:Shared) (a:Int) (t:Tok) (c:Int) (u:Tok) (prog:Program) (w:World) (E:Value->Shared->Prop) (Q:Value->Shared->Prop) (h:Q (.bool (decide (a<=c))) s) :
  wpAny (model prog w) A (richCompare .LtE (.int a t) (.int c u)) Q E s :=
 (PyProof.Rows.le_int h:wpAny (model prog w) A (compareOp .LtE (.int a t) (.int c u)) Q E s)
theorem ri (l b:Addr) (items items2:Array Value) (n n2:Nat) (dd dd2:Option Addr) (sl sl2:Array (Option Value)) (ns ms:List Int) (ii:IntsAre items.toList ns) (jj:IntsAre items2.toList ms) :
  Meets (Builtin.«tuple.__le__» ⟨[.ref l,.ref b],[]⟩) (λ_ R s=>s.heap.get? l=some {cls:=.type "tuple",dict:=dd,data:=.seq items n,slots:=sl}/\s.heap.get? b=some {cls:=.type "tuple",dict:=dd2,data:=.seq items2 n2,slots:=sl2}/\R (.ok (.ret (.bool (!lexLt ms ns)))) s) :=
 .of_wp λprog w A R s h=>by
  obtain⟨hh0,g,d,tk0,os0⟩:=s;obtain⟨ql,hb,h⟩:=h
  have sub0:=Do
  have n1:ns.length=items.size:=by rw[<-ii.length,BV]
  have n2e:ms.length=items2.size:=by rw[<-jj.length,BV]
  wp_walk using CO ql,CO hb,ET _ (λrest b s'=>b.1=none/\s'=⟨hh0,g,d,tk0,os0⟩/\∃(us1 us2:List Value) (ms1 ms2:List Int),rest=us1.zip us2 /\
   IntsAre us1 ms1/\IntsAre us2 ms2/\ms1.length+items2.size=ms2.length+items.size/\R (.ok (.ret (.bool (!lexLt ms2 ms1)))) ⟨hh0,g,d,tk0,os0⟩) _
  case turn =>
   rintro⟨y,x⟩ rest b s' ⟨p0,rfl,us1,us2,ms1,ms2,pz,pv,pw,pl,fin0⟩
   cases pv with
   | nil=>rw[EK]at pz;cases pz
   | cons a t pv1 =>
    cases pw with
    | nil=>rw[ED]at pz;cases pz
    | cons c u pw1 =>
     rw[BZ]at pz
     injection pz with pyx pr
     injection pyx with py px
     subst py px
     rw[bc]at fin0
     simp![AW]at pl
     obtain⟨same,eq0,eqi⟩:=gk A.in1 ⟨hh0,g,d,tk0,os0⟩ a t c u
     refine AC (eq0 prog w _ _ ?_)
     cases same with
     | true =>
      rw[if_pos (eqi.mp rfl).symm]at fin0
      wp_walk
      exact⟨rfl,rfl,_,_,_,_,pr,pv1,pw1,by lia,fin0⟩
     | false =>
      have hne:¬c=a:=λq=>absurd (eqi.mpr q.symm) AZ
      rw[if_neg hne]at fin0
      have ed:(!decide (c<a))=decide (a<=c):=by
       by_cases hc:c<a
       ·rw[decide_eq_true hc,decide_eq_false (by lia)];rfl
       ·rw[decide_eq_false hc,decide_eq_true (by lia)];rfl
      rw[ed]at fin0
      have low:=Gb A.in1 ⟨hh0,g,d,tk0,os0⟩ a t c u prog w
      wp_walk using low
      exact⟨_,rfl,by simpa using fin0⟩
  case fin =>
   rintro⟨c1,c2⟩ s' ⟨p0,rfl,us1,us2,ms1,ms2,pz,pv,pw,pl,fin0⟩
   simp only at p0
   subst p0
   have hv:(!lexLt ms2 ms1)=decide (items.size<=items2.size):=by
    cases pv with
    | nil =>
     cases pw with
     | nil =>
      simp![BB]at pl
      rw[bx,decide_eq_true (by lia)];rfl
     | cons c u hw =>
      simp![BB,AW]at pl
      rw[bp,decide_eq_true (by lia)];rfl
    | cons a t hv =>
     cases pw with
     | nil =>
      simp![BB,AW]at pl
      rw[bo,decide_eq_false (by lia)];rfl
     | cons c u hw =>
      rw[BZ]at pz
      cases pz
   rw[hv]at fin0
   wp_walk
   exact⟨_,rfl,by simpa[Builtin.Tuple.tupleCompareSizes]using fin0⟩
  case h =>
   exact⟨rfl,rfl,items.toList,items2.toList,ns,ms,rfl,ii,jj,by lia,h⟩
theorem Aa {prog:Program} {w:World} {A:Around} {E:Value->Shared->Prop} {s:Shared} {l b:Addr} {items items2:Array Value} {ns ms:List Int} {Q:Value->Shared->Prop} (hl:IsTup s.heap l items) (hb:IsTup s.heap b items2) (hi:IntsAre items.toList ns) (hj:IntsAre items2.toList ms)
  (hu:A.units<cLine) (h:Q (.bool (!lexLt ms ns)) s):wpAny (model prog w) A (compareOp .LtE (.ref l) (.ref b)) Q E s:=by
 obtain⟨⟨_,dd,_,sl⟩,ho,rfl,n,rfl⟩:=id hl
 obtain⟨⟨_,dd2,_,sl2⟩,ho2,rfl,n2,rfl⟩:=id hb
 exact DJ (op:=.LtE) ⟨_,ho,rfl⟩ ⟨_,ho2,rfl⟩ PySem.F.slot_tuple_le PySem.F.entry_tuple_le (PySem.F.args_tuple_le_2 _ _) (ri l b items items2 n n2 dd dd2 sl sl2 ns ms hi hj)
  ⟨ho,ho2,show Value.bool (!lexLt ms ns)≠Value.notImplemented/\Q (.bool (!lexLt ms ns)) s from⟨(λx=>nomatch x),h⟩⟩ hu
theorem Gc (A:Around) (s:Shared) (a:Int) (t:Tok) (c:Int) (u:Tok) (prog:Program) (w:World) (E:Value->Shared->Prop) (Q:Value->Shared->Prop) (h:Q (.bool (decide (c<=a))) s) :
  wpAny (model prog w) A (richCompare .GtE (.int a t) (.int c u)) Q E s :=
 (PyProof.Rows.ge_int h:wpAny (model prog w) A (compareOp .GtE (.int a t) (.int c u)) Q E s)
theorem rj (l b:Addr) (items items2:Array Value) (n n2:Nat) (dd dd2:Option Addr) (sl sl2:Array (Option Value)) (ns ms:List Int) (ii:IntsAre items.toList ns) (jj:IntsAre items2.toList ms) :
  Meets (Builtin.«tuple.__ge__» ⟨[.ref l,.ref b],[]⟩) (λ_ R s=>s.heap.get? l=some {cls:=.type "tuple",dict:=dd,data:=.seq items n,slots:=sl}/\s.heap.get? b=some {cls:=.type "tuple",dict:=dd2,data:=.seq items2 n2,slots:=sl2}/\R (.ok (.ret (.bool (!lexLt ns ms)))) s) :=
 .of_wp λprog w A R s h=>by
  obtain⟨hh0,g,d,tk0,os0⟩:=s;obtain⟨ql,hb,h⟩:=h
  have sub0:=Do
  have n1:ns.length=items.size:=by rw[<-ii.length,BV]
  have n2e:ms.length=items2.size:=by rw[<-jj.length,BV]
  wp_walk using CO ql,CO hb,ET _ (λrest b s'=>b.1=none/\s'=⟨hh0,g,d,tk0,os0⟩/\∃(us1 us2:List Value) (ms1 ms2:List Int),rest=us1.zip us2 /\
   IntsAre us1 ms1/\IntsAre us2 ms2/\ms1.length+items2.size=ms2.length+items.size/\R (.ok (.ret (.bool (!lexLt ms1 ms2)))) ⟨hh0,g,d,tk0,os0⟩) _
  case turn =>
   rintro⟨y,x⟩ rest b s' ⟨p0,rfl,us1,us2,ms1,ms2,pz,pv,pw,pl,fin0⟩
   cases pv with
   | nil=>rw[EK]at pz;cases pz
   | cons a t pv1 =>
    cases pw with
    | nil=>rw[ED]at pz;cases pz
    | cons c u pw1 =>
     rw[BZ]at pz
     injection pz with pyx pr
     injection pyx with py px
     subst py px
     rw[bc]at fin0
     simp![AW]at pl
     obtain⟨same,eq0,eqi⟩:=gk A.in1 ⟨hh0,g,d,tk0,os0⟩ a t c u
     refine AC (eq0 prog w _ _ ?_)
     cases same with
     | true =>
      rw[if_pos (eqi.mp rfl)]at fin0
      wp_walk
      exact⟨rfl,rfl,_,_,_,_,pr,pv1,pw1,by lia,fin0⟩
     | false =>
      have hne:¬a=c:=λq=>absurd (eqi.mpr q) AZ
      rw[if_neg hne]at fin0
      have ed:(!decide (a<c))=decide (c<=a):=by
       by_cases hc:a<c
       ·rw[decide_eq_true hc,decide_eq_false (by lia)];rfl
       ·rw[decide_eq_false hc,decide_eq_true (by lia)];rfl
      rw[ed]at fin0
      have low:=Gc A.in1 ⟨hh0,g,d,tk0,os0⟩ a t c u prog w
      wp_walk using low
      exact⟨_,rfl,by simpa using fin0⟩
  case fin =>
   rintro⟨c1,c2⟩ s' ⟨p0,rfl,us1,us2,ms1,ms2,pz,pv,pw,pl,fin0⟩
   simp only at p0
   subst p0
   have hv:(!lexLt ms1 ms2)=decide (items2.size<=items.size):=by
    cases pv with
    | nil =>
     cases pw with
     | nil =>
      simp![BB]at pl
      rw[bx,decide_eq_true (by lia)];rfl
     | cons c u hw =>
      simp![BB,AW]at pl
      rw[bo,decide_eq_false (by lia)];rfl
    | cons a t hv =>
     cases pw with
     | nil =>
      simp![BB,AW]at pl
      rw[bp,decide_eq_true (by lia)];rfl
     | cons c u hw =>
      rw[BZ]at pz
      cases pz
   rw[hv]at fin0
   wp_walk
   exact⟨_,rfl,by simpa[Builtin.Tuple.tupleCompareSizes]using fin0⟩
  case h =>
   exact⟨rfl,rfl,items.toList,items2.toList,ns,ms,rfl,ii,jj,by lia,h⟩
theorem Ab {prog:Program} {w:World} {A:Around} {E:Value->Shared->Prop} {s:Shared} {l b:Addr} {items items2:Array Value} {ns ms:List Int} {Q:Value->Shared->Prop} (hl:IsTup s.heap l items) (hb:IsTup s.heap b items2) (hi:IntsAre items.toList ns) (hj:IntsAre items2.toList ms)
  (hu:A.units<cLine) (h:Q (.bool (!lexLt ns ms)) s):wpAny (model prog w) A (compareOp .GtE (.ref l) (.ref b)) Q E s:=by
 obtain⟨⟨_,dd,_,sl⟩,ho,rfl,n,rfl⟩:=id hl
 obtain⟨⟨_,dd2,_,sl2⟩,ho2,rfl,n2,rfl⟩:=id hb
 exact DJ (op:=.GtE) ⟨_,ho,rfl⟩ ⟨_,ho2,rfl⟩ PySem.F.slot_tuple_ge PySem.F.entry_tuple_ge (PySem.F.args_tuple_ge_2 _ _) (rj l b items items2 n n2 dd dd2 sl sl2 ns ms hi hj)
  ⟨ho,ho2,show Value.bool (!lexLt ns ms)≠Value.notImplemented/\Q (.bool (!lexLt ns ms)) s from⟨(λx=>nomatch x),h⟩⟩ hu
end LT
namespace L2
open PySem PySem.Spec PyProof.Rows
variable {X : Cx}
theorem Ac (hu:X.A.units<cLine) {pins s σ H x y v u Q} (I:Inv X pins σ H s) (rx:RelV x v) (ry:RelV y u) (h:∃a b ns ms,x=.ref a/\y=.ref b/\SqT X.K H a (ns.map V.int)/\SqT X.K H b (ms.map V.int)/\Q (.bl (!HT.lexLt ms ns)) H) :
  wpAny (model X.prog X.w) X.A (compareOp .LtE v u) (EP X pins σ Q) X.xe s:=by
 obtain⟨c,d,ns,ms,rfl,rfl,hc,hd,q⟩:=h
 cases rx
 cases ry
 obtain⟨us,r1,p1,_⟩:=I.tuple hc
 obtain⟨us2,r2,p2,_⟩:=I.tuple hd
 exact LT.Aa p1 p2 (intsAre_of r1) (intsAre_of r2) hu ⟨.bl (!HT.lexLt ms ns),H,I,rfl,q⟩
theorem Ad (hu:X.A.units<cLine) {pins s σ H x y v u Q} (I:Inv X pins σ H s) (rx:RelV x v) (ry:RelV y u) (h:∃a b ns ms,x=.ref a/\y=.ref b/\SqT X.K H a (ns.map V.int)/\SqT X.K H b (ms.map V.int)/\Q (.bl (!HT.lexLt ns ms)) H) :
  wpAny (model X.prog X.w) X.A (compareOp .GtE v u) (EP X pins σ Q) X.xe s:=by
 obtain⟨c,d,ns,ms,rfl,rfl,hc,hd,q⟩:=h
 cases rx
 cases ry
 obtain⟨us,r1,p1,_⟩:=I.tuple hc
 obtain⟨us2,r2,p2,_⟩:=I.tuple hd
 exact LT.Ab p1 p2 (intsAre_of r1) (intsAre_of r2) hu ⟨.bl (!HT.lexLt ns ms),H,I,rfl,q⟩
end L2
namespace Lp
open PySem PySem.Spec PyProof.Rows L2
open PySem.SeqAt (EqAt RcAt)
def w8:Cp->CmpOp
 | .eq=>.Eq
 | .ne=>.NotEq
 | .eqM=>.Eq
 | .neM=>.NotEq
 | .lt=>.Lt
 | .le=>.LtE
 | .gt=>.Gt
 | .ge=>.GtE
 | .is=>.Is
 | .isnot=>.IsNot
 | .in_=>.In
 | .notin=>.NotIn
section
variable {X : Cx} {φ : Phi} {pins : List (Addr × Obj)} {σ : St} {H : Hp} {s : Shared}
theorem ints_of {K:PySem.W.Frag} {ι:List Addr}:∀{ds:List D} {xs:List V} {ns:List Int},af K ι H ds xs->da ds=some ns->xs=ns.map V.int
 | [],xs,ns,h,e=>by
  simp![da,BI]at e
  subst e
  simpa[af]using h
 | d::ds,xs,ns,h,e=>by
  simp![af]at h
  obtain⟨v,r,rfl,q,t⟩:=h
  cases d with
  | int i =>
   simp![da,Option.map_eq_some_iff]at e
   obtain⟨ms,e1,rfl⟩:=e
   cases ay q
   rw[ints_of t e1]
   rfl
  | _=>simp[da]at e
theorem jn {K:PySem.W.Frag} {ι:List Addr} {d:D} {v:V} (h:IsD K ι H d v) (hf:flat d=true):fu v=true:=by
 cases d with
 | tup _=>simp[flat]at hf
 | lst _=>simp[flat]at hf
 | loc _=>simp[flat]at hf
 | _=>have e:=h;simp![IsD]at e;subst e;rfl
theorem gw {K:PySem.W.Frag} {ι:List Addr}:∀{ds:List D} {xs:List V},af K ι H ds xs->ds.all flat=true->xs.all fu=true
 | [],xs,h,_=>by
  have e:xs=[]:=by simpa[af]using h
  subst e
  rfl
 | d::ds,xs,h,hf=>by
  simp![af]at h
  obtain⟨v,r,rfl,q,t⟩:=h
  simp![BK,AK]at hf ⊢
  exact⟨jn q hf.1,gw t hf.2⟩
theorem Ae {K:PySem.W.Frag} {ι:List Addr} {d e:D} {v w:V} (hd:IsD K ι H d v) (he:IsD K ι H e w) (fd:flat d=true) (fe:flat e=true):eqV v w=deq d e:=by
 have b2:∀(a b:Int),decide (a=b)=(a==b):=λa b=>(CS a b).symm
 have b3:∀(a b:Str),decide (a=b)=(a==b):=λa b=>(CS a b).symm
 cases d with
 | tup _=>simp[flat]at fd
 | lst _=>simp[flat]at fd
 | loc _=>simp[flat]at fd
 | _ =>
  cases e with
  | tup _=>simp[flat]at fe
  | lst _=>simp[flat]at fe
  | loc _=>simp[flat]at fe
  | _ =>
   simp![IsD]at hd he
   subst hd he
   simp![eqV,deq,b2,b3]
theorem nc {K:PySem.W.Frag} {ι:List Addr} {e:D} {w:V} (he:IsD K ι H e w) (fe:flat e=true):∀{ds:List D} {xs:List V},af K ι H ds xs->ds.all flat=true->inV w xs=ds.any λy=>deq y e
 | [],xs,h,_=>by
  have e:xs=[]:=by simpa[af]using h
  subst e
  rfl
 | d::ds,xs,h,hf=>by
  simp![af]at h
  obtain⟨v,r,rfl,q,t⟩:=h
  simp![BK,AK]at hf
  have ih:=nc he fe t hf.2
  unfold inV at ih ⊢
  rw[EO,EO,Ae q he hf.1 fe,ih]
theorem is_bool {u:Bool} {v:Bool} {Q:VK} (I:Inv X pins σ H s) (q:Q (.bl (u==v)) H):wpAny (model X.prog X.w) X.A (compareOp .Is (.bool u) (.bool v)) (EP X pins σ Q) X.xe s:=by
 cases u<;>cases v<;>exact AO ⟨.bl _,H,I,rfl,q⟩
theorem isnot_bool {u:Bool} {v:Bool} {Q:VK} (I:Inv X pins σ H s) (q:Q (.bl (!(u==v))) H):wpAny (model X.prog X.w) X.A (compareOp .IsNot (.bool u) (.bool v)) (EP X pins σ Q) X.xe s:=by
 cases u<;>cases v<;>exact AO ⟨.bl _,H,I,rfl,q⟩
theorem iw {v:Bool} {Q:VK} (I:Inv X pins σ H s) (q:Q (.bl false) H):wpAny (model X.prog X.w) X.A (compareOp .Is .none (.bool v)) (EP X pins σ Q) X.xe s:=by
 cases v<;>exact AO ⟨.bl _,H,I,rfl,q⟩
theorem e9 {v:Bool} {Q:VK} (I:Inv X pins σ H s) (q:Q (.bl true) H):wpAny (model X.prog X.w) X.A (compareOp .IsNot .none (.bool v)) (EP X pins σ Q) X.xe s:=by
 cases v<;>exact AO ⟨.bl _,H,I,rfl,q⟩
def kD:Key->D
 | .inl i=>.int i
 | .inr x=>.str x
theorem xg {K:PySem.W.Frag} {ι:List Addr} {d:D} {x:V} (hk:tq d=true) (h:IsD K ι H d x):∃k,d=kD k/\x=kV k:=by
 cases d with
 | int i=>exact⟨.inl i,rfl,by simpa[IsD,kV]using h⟩
 | str i=>exact⟨.inr i,rfl,by simpa[IsD,kV]using h⟩
 | _=>simp[tq]at hk
theorem xh {K:PySem.W.Frag} {ι:List Addr} {d:D} {k:Key} (h:IsD K ι H d (kV k)):d=kD k:=by
 cases k with
 | inl i=>cases d<;>simp_all[IsD,kV,kD]
 | inr i=>cases d<;>simp_all[IsD,kV,kD]
theorem ud (a b:Key):deq (kD a) (kD b)=decide (a=b):=by
 cases a<;>cases b<;>simp[kD,deq]
def OR (K:PySem.W.Frag) (H:Hp):Option D->Option V->Prop
 | some d,some v=>IsD K [] H d v
 | none,none=>True
 | _,_=>False
theorem OR.isSome {K:PySem.W.Frag} {o:Option D} {p:Option V} (h:OR K H o p):p.isSome=o.isSome:=by
 cases o<;>cases p<;>first | rfl | exact h.elim
theorem gx {K:PySem.W.Frag} {k:Key}:∀{kvs:List (D×D)} {xs:List (Key×V)},Dl K H kvs xs->OR K H (qx (kD k) kvs) (k6 xs k)
 | _,_,.nil=>True.intro
 | p::kvs,q::xs,.cons h t=>by
  obtain⟨d,e⟩:=p
  have hk:=xh h.1
  dsimp only at hk
  subst hk
  have ih:=gx (k:=k) (kvs:=kvs) (xs:=xs) t
  by_cases z:q.1=k
  ·rw[gn z,qx,ud,if_pos (by simpa using z)]
   exact h.2
  ·rw[gp z,qx,ud,if_neg (by simpa using z)]
   exact ih
theorem ng {K:PySem.W.Frag} {ι:List Addr} {μ:Sto} {o k:D} {x y:V} {kvs:List (D×D)} (hS:Sim K ι H μ) (ho:IsD K ι H o x) (hk:IsD K ι H k y) (h:dictAt μ o k=some kvs) :
  ∃p q xs,x=.ref p/\y=kV q/\k=kD q/\H p=some (.dK xs)/\Dl K H kvs xs:=by
 cases o with
 | loc n =>
  simp![dictAt]at h
  split at h
  ·rename_i kvs' em
   split at h
   ·rename_i hkey
    cases h
    obtain⟨p,rfl,hp⟩:∃p,x=.ref p/\ι[n]? = some p:=by simpa[IsD]using ho
    obtain⟨a',q',ob⟩:=hS.at em
    rw[hp]at q';cases q'
    obtain⟨xs,e1,e2⟩:=ob
    obtain⟨q,rfl,rfl⟩:=xg hkey hk
    exact⟨p,q,xs,rfl,rfl,rfl,e1,e2⟩
   ·cases h
  ·cases h
 | _=>simp[dictAt]at h
theorem ue (cp:Cp) (hu:X.A.units+8<cLine):OpR X (compareOp (w8 cp)) (rOp X.K (cpD cp)):=by
 have hu0:X.A.units<cLine:=by lia
 cases cp with
 | eq=>exact z8 hu
 | ne=>exact z9 hu
 | eqM =>
  intro pins s σ H x y v u Q I rx ry ⟨ι,a,b,μ,hS,ha,hb,h⟩
  simp![cpD]at h
  cases e1:ag μ 8 a with
  | none=>simp![e1]at h;exact h.elim
  | some a1 =>
   cases e2:ag μ 8 b with
   | none=>simp![e1,e2]at h;exact h.elim
   | some b1 =>
    simp![e1,e2]at h
    exact(Cc I 8 X.A a1 b1 x y v u hu (bt 8 _ _ e1) (bt 8 _ _ e2) (iv hS 8 _ _ _ e1 ha) (iv hS 8 _ _ _ e2 hb) rx ry).1 _ _ _ _ ⟨.bl (deq a1 b1),H,I,rfl,h.ok hS (by simp[IsD])⟩
 | neM =>
  intro pins s σ H x y v u Q I rx ry ⟨ι,a,b,μ,hS,ha,hb,h⟩
  simp![cpD]at h
  cases e1:ag μ 8 a with
  | none=>simp![e1]at h;exact h.elim
  | some a1 =>
   cases e2:ag μ 8 b with
   | none=>simp![e1,e2]at h;exact h.elim
   | some b1 =>
    simp![e1,e2]at h
    exact(Cc I 8 X.A a1 b1 x y v u hu (bt 8 _ _ e1) (bt 8 _ _ e2) (iv hS 8 _ _ _ e1 ha) (iv hS 8 _ _ _ e2 hb) rx ry).2 _ _ _ _ ⟨.bl (!deq a1 b1),H,I,rfl,h.ok hS (by simp[IsD])⟩
 | lt =>
  intro pins s σ H x y v u Q I rx ry ⟨ι,a,b,μ,hS,ha,hb,h⟩
  simp![cpD]at h
  split at h
  ·cases ay ha;cases ay hb
   exact Cw pins s σ H _ _ v u Q I rx ry ⟨_,_,rfl,rfl,h.ok hS (by simp[IsD])⟩
  ·obtain⟨p,xs,rfl,hq,hds⟩:=bj ha
   obtain⟨p',xs',rfl,hq',hds'⟩:=bj hb
   split at h
   ·rename_i ns ms e1 e2
    have:=ints_of hds e1
    subst this
    have:=ints_of hds' e2
    subst this
    refine ze hu0 pins s σ H _ _ v u Q I rx ry ⟨p,p',ns,ms,rfl,rfl,hq,hq',?_⟩
    have el:∀(a b:List Int),HT.lexLt a b=Lp.lexLt a b:=by
     intro a
     induction a with
     | nil=>intro b;cases b<;>rfl
     | cons x r ih=>intro b;cases b with
      | nil=>rfl
      | cons y q=>rw[HT.bc,Lp.lexLt,ih]
    rw[el]
    exact h.ok hS (by simp[IsD])
   ·exact h.elim
  ·exact h.elim
 | le =>
  intro pins s σ H x y v u Q I rx ry ⟨ι,a,b,μ,hS,ha,hb,h⟩
  simp![cpD]at h
  split at h
  ·cases ay ha;cases ay hb
   exact Cy pins s σ H _ _ v u Q I rx ry ⟨_,_,rfl,rfl,h.ok hS (by simp[IsD])⟩
  ·obtain⟨p,xs,rfl,hq,hds⟩:=bj ha
   obtain⟨p',xs',rfl,hq',hds'⟩:=bj hb
   split at h
   ·rename_i ns ms e1 e2
    have:=ints_of hds e1
    subst this
    have:=ints_of hds' e2
    subst this
    refine Ac hu0 I rx ry ⟨p,p',ns,ms,rfl,rfl,hq,hq',?_⟩
    have el:∀(a b:List Int),HT.lexLt a b=Lp.lexLt a b:=by
     intro a
     induction a with
     | nil=>intro b;cases b<;>rfl
     | cons x r ih=>intro b;cases b with
      | nil=>rfl
      | cons y q=>rw[HT.bc,Lp.lexLt,ih]
    rw[el]
    exact h.ok hS (by simp[IsD])
   ·exact h.elim
  ·exact h.elim
 | gt =>
  refine OpR.imp Cz λx y H Q ⟨ι,a,b,μ,hS,ha,hb,h⟩=>?_
  simp![cpD]at h
  split at h
  ·cases ay ha;cases ay hb
   exact⟨_,_,rfl,rfl,h.ok hS (by simp[IsD])⟩
  ·exact h.elim
 | ge =>
  intro pins s σ H x y v u Q I rx ry ⟨ι,a,b,μ,hS,ha,hb,h⟩
  simp![cpD]at h
  split at h
  ·cases ay ha;cases ay hb
   exact C0 pins s σ H _ _ v u Q I rx ry ⟨_,_,rfl,rfl,h.ok hS (by simp[IsD])⟩
  ·obtain⟨p,xs,rfl,hq,hds⟩:=bj ha
   obtain⟨p',xs',rfl,hq',hds'⟩:=bj hb
   split at h
   ·rename_i ns ms e1 e2
    have:=ints_of hds e1
    subst this
    have:=ints_of hds' e2
    subst this
    refine Ad hu0 I rx ry ⟨p,p',ns,ms,rfl,rfl,hq,hq',?_⟩
    have el:∀(a b:List Int),HT.lexLt a b=Lp.lexLt a b:=by
     intro a
     induction a with
     | nil=>intro b;cases b<;>rfl
     | cons x r ih=>intro b;cases b with
      | nil=>rfl
      | cons y q=>rw[HT.bc,Lp.lexLt,ih]
    rw[el]
    exact h.ok hS (by simp[IsD])
   ·exact h.elim
  ·exact h.elim
 | is =>
  intro pins s σ H x y v u Q I rx ry ⟨ι,a,b,μ,hS,ha,hb,h⟩
  simp![cpD]at h
  split at h
  ·refine y6 pins s σ H x y v u Q I rx ry ⟨by simpa[IsD]using hb,?_⟩
   cases a with
   | tup ds=>obtain⟨p,xs,rfl,_⟩:=bj ha;exact h.ok hS (by simp[IsD])
   | lst ds =>
         obtain⟨p,xs,rfl,_⟩:∃p xs,x=V.ref p/\FzL X.K H p xs/\af X.K ι H ds xs:=by simpa[IsD]using ha
         exact h.ok hS (by simp[IsD])
   | loc n =>
        obtain⟨p,rfl,_⟩:∃p,x=V.ref p/\ι[n]? = some p:=by simpa[IsD]using ha
        exact h.ok hS (by simp[IsD])
   | _=>have e:=ha;simp![IsD]at e;subst e;exact h.ok hS (by simp[IsD])
  ·cases la hb
   cases(show u=Value.bool _ from ry)
   split at h
   ·cases la ha
    cases(show v=Value.bool _ from rx)
    exact is_bool I (h.ok hS (by simp[IsD]))
   ·cases(show x=.non by simpa[IsD]using ha)
    cases(show v=Value.none from rx)
    exact iw I (h.ok hS (by simp[IsD]))
   ·exact h.elim
  ·exact h.elim
 | isnot =>
  intro pins s σ H x y v u Q I rx ry ⟨ι,a,b,μ,hS,ha,hb,h⟩
  simp![cpD]at h
  split at h
  ·refine vy pins s σ H x y v u Q I rx ry ⟨by simpa[IsD]using hb,?_⟩
   cases a with
   | tup ds=>obtain⟨p,xs,rfl,_⟩:=bj ha;exact h.ok hS (by simp[IsD])
   | lst ds =>
         obtain⟨p,xs,rfl,_⟩:∃p xs,x=V.ref p/\FzL X.K H p xs/\af X.K ι H ds xs:=by simpa[IsD]using ha
         exact h.ok hS (by simp[IsD])
   | loc n =>
        obtain⟨p,rfl,_⟩:∃p,x=V.ref p/\ι[n]? = some p:=by simpa[IsD]using ha
        exact h.ok hS (by simp[IsD])
   | _=>have e:=ha;simp![IsD]at e;subst e;exact h.ok hS (by simp[IsD])
  ·cases la hb
   cases(show u=Value.bool _ from ry)
   split at h
   ·cases la ha
    cases(show v=Value.bool _ from rx)
    exact isnot_bool I (h.ok hS (by simp[IsD]))
   ·cases(show x=.non by simpa[IsD]using ha)
    cases(show v=Value.none from rx)
    exact e9 I (h.ok hS (by simp[IsD]))
   ·exact h.elim
  ·exact h.elim
 | in_ =>
  intro pins s σ H x y v u Q I rx ry ⟨ι,a,b,μ,hS,ha,hb,h⟩
  simp![cpD]at h
  split at h
  ·rename_i ds e
   obtain⟨p,xs,rfl,hq,hds⟩:=uc hS hb e
   split at h
   ·rename_i hf
    refine mj pins s σ H _ _ v u Q I rx ry ⟨p,xs,rfl,hq.imp (·.sq) id,jn ha hf.1,gw hds hf.2,?_⟩
    simp![CC,if_false]
    rw[nc ha hf.1 hds hf.2]
    exact h.ok hS (by simp[IsD])
   ·exact h.elim
  ·split at h
   ·rename_i kvs e
    obtain⟨p,q,xs,rfl,rfl,rfl,hp,hk⟩:=ng hS hb ha e
    cases(show u=Value.ref p from ry)
    refine Fx (by lia) I (yf.k hp) rx λs' I'=>⟨.bl (k6 xs q).isSome,H,I',rfl,?_⟩
    rw[(gx hk).isSome]
    exact h.ok hS (by simp[IsD])
   ·exact h.elim
 | notin =>
  intro pins s σ H x y v u Q I rx ry ⟨ι,a,b,μ,hS,ha,hb,h⟩
  simp![cpD]at h
  split at h
  ·rename_i ds e
   obtain⟨p,xs,rfl,hq,hds⟩:=uc hS hb e
   split at h
   ·rename_i hf
    refine ip pins s σ H _ _ v u Q I rx ry ⟨p,xs,rfl,hq.imp (·.sq) id,jn ha hf.1,gw hds hf.2,?_⟩
    simp![if_true]
    rw[nc ha hf.1 hds hf.2]
    exact h.ok hS (by simp[IsD])
   ·exact h.elim
  ·split at h
   ·rename_i kvs e
    obtain⟨p,q,xs,rfl,rfl,rfl,hp,hk⟩:=ng hS hb ha e
    cases(show u=Value.ref p from ry)
    refine v9 (by lia) I (yf.k hp) rx λs' I'=>⟨.bl (!(k6 xs q).isSome),H,I',rfl,?_⟩
    rw[(gx hk).isSome]
    exact h.ok hS (by simp[IsD])
   ·exact h.elim
end
open PySem.SeqAt (EqAt RcAt)
section
variable {X : Cx} {φ : Phi} {pins : List (Addr × Obj)} {σ : St} {H : Hp} {s : Shared}
def PCh (X:Cx) (ops:List CmpOp) (es:List Expr) (t:V->TE):Prop :=
 ∀(pos:Pos) (pins:List (Addr×Obj)) (s:Shared) (σ:St) (H:Hp) (Q:VK) (x:V) (v:Value),Inv X pins σ H s->RelV x v->t x σ H Q ->
  wpAny (model X.prog X.w) X.A (compareChain pos v ops (evalEach es X.env)) (EP X pins σ Q) X.xe s
def PTh (X:Cx) (ops:List CmpOp) (es:List Expr) (t:V->TT):Prop :=
 ∀(pos:Pos) (pins:List (Addr×Obj)) (s:Shared) (σ:St) (H:Hp) (Q:Bool->Hp->Prop) (x:V) (v:Value),Inv X pins σ H s->RelV x v->t x σ H Q ->
  wpAny (model X.prog X.w) X.A (testChain pos v ops (evalEach es X.env)) (TP X pins σ Q) X.xe s
def tCh (K:PySem.W.Frag) (φ:Phi) (r:Cps):V->TE:=λx σv H Q=>∃ι σ μ d,Sim K ι H μ/\c8 K ι H σ σv/\IsD K ι H d x/\cy K (RD K) ι H (evC φ r d σ μ) Q
def tTh (K:PySem.W.Frag) (φ:Phi) (r:Cps):V->TT:=λx σv H Q=>∃ι σ μ d,Sim K ι H μ/\c8 K ι H σ σv/\IsD K ι H d x/\cy K RB ι H ((evC φ r d σ μ).bind λz μ=>Eu z μ) Q
theorem nh {op:Cp} {xe:Ex} {d:D} {σ:Sl} {μ:Sto}:evC φ (.cons op xe .nil) d σ μ=(evE φ xe σ μ).bind λy μ=>cpD op d y μ:=by
 simp![evC]
 cases evE φ xe σ μ with
 | ok y μ1 =>
  simp![Res.az]
  cases cpD op d y μ1<;>rfl
 | exc _ _ _=>rfl
 | stuck=>rfl
theorem xj {op:Cp} {e:Expr} {xe:Ex} (ho:OpR X (compareOp (w8 op)) (rOp X.K (cpD op))) (he:PE X e (tE X.K φ xe)):PCh X [w8 op] [e] (tCh X.K φ (.cons op xe .nil)):=by
 intro pos pins s σv H Q x v I rx ⟨ι,σ,μ,d,hS,hL,hd,h⟩
 rw[nh]at h
 obtain⟨y,μ1,e1,h⟩:=h.bind
 refine chain_last (thn (he pins s σv H (λw H1=>rOp X.K (cpD op) x w H1 Q) I ⟨ι,σ,μ,hS,hL,?_⟩) λu s1 ⟨w,H1,I1,r1,q1⟩=>ho pins s1 σv H1 x w v u Q I1 rx r1 q1)
 rw[e1]
 exact λι1 w H1 p1 x1 s1 d1=>⟨ι1,d,y,μ1,s1,IsD.mono p1 x1 _ _ hd,d1,h.mono p1 x1⟩
theorem xk {op:Cp} {e:Expr} {xe:Ex} (ho:OpR X (compareOp (w8 op)) (rOp X.K (cpD op))) (he:PE X e (tE X.K φ xe)):PTh X [w8 op] [e] (tTh X.K φ (.cons op xe .nil)):=by
 intro pos pins s σv H Q x v I rx ⟨ι,σ,μ,d,hS,hL,hd,h⟩
 rw[nh,Res.bind_assoc]at h
 obtain⟨y,μ1,e1,h⟩:=h.bind
 refine test_last (thn (he pins s σv H (λw H1=>rOp X.K (cpD op) x w H1 (λz H2=>∃k,z=.bl k/\Q k H2)) I ⟨ι,σ,μ,hS,hL,?_⟩) λu s1 ⟨w,H1,I1,r1,q1⟩=>thn (ho pins s1 σv H1 x w v u _ I1 rx r1 q1) λc s2 ⟨z,H2,I2,r2,k,ek,q2⟩=>?_)
 ·rw[e1]
  intro ι1 w H1 p1 x1 s1 d1
  obtain⟨z,μ2,e2,h⟩:=h.bind
  refine⟨ι1,d,y,μ1,s1,IsD.mono p1 x1 _ _ hd,d1,?_⟩
  rw[e2]
  intro ι2 z' H2 p2 x2 s2 d2
  cases z with
  | bl k=>exact⟨k,la d2,h ι2 k H2 (p1.trans p2) (x1.trans x2) s2 rfl⟩
  | _=>exact h.elim
 ·subst ek
  cases r2
  exact CU ⟨H2,I2,q2⟩
theorem D1 {a:Expr} {xa:Ex} {ops:List CmpOp} {es:List Expr} {r:Cps} {pos:Pos} (ha:PE X a (tE X.K φ xa)) (hr:PCh X ops es (tCh X.K φ r)) (hm:lastMarks ops es=false):PE X (.Compare a ops es pos) (tE X.K φ (.cmp xa r)):=by
 intro pins s σv H Q I ⟨ι,σ,μ,hS,hL,h⟩
 simp![evE]at h
 obtain⟨d,μ1,e1,h⟩:=h.bind
 show wpAny _ _ (do compareChain pos (<-eval a X.env) ops (markedEach ops es (evalEach es X.env))) _ _ _
 rw[markedEach_of_false _ _ _ hm]
 refine AC (thn (ha pins s σv H (λx H1=>tCh X.K φ r x σv H1 Q) I ⟨ι,σ,μ,hS,hL,?_⟩) λv s1 ⟨x,H1,I1,r1,q1⟩=>hr pos pins s1 σv H1 Q x v I1 r1 q1)
 rw[e1]
 exact λι1 x H1 p1 x1 s1 d1=>⟨ι1,σ,μ1,d,s1,hL.mono p1 x1,d1,h.mono p1 x1⟩
theorem Af {a:Expr} {xa:Ex} {ops:List CmpOp} {es:List Expr} {r:Cps} {pos:Pos} (ha:PE X a (tE X.K φ xa)) (hr:PTh X ops es (tTh X.K φ r)) (hm:lastMarks ops es=false):PT X (.Compare a ops es pos) (tT X.K φ (.cmp xa r)):=by
 intro pins s σv H Q I ⟨ι,σ,μ,hS,hL,h⟩
 simp![evE]at h
 rw[Res.bind_assoc]at h
 obtain⟨d,μ1,e1,h⟩:=h.bind
 show wpAny _ _ (do testChain pos (<-eval a X.env) ops (markedEach ops es (evalEach es X.env))) _ _ _
 rw[markedEach_of_false _ _ _ hm]
 refine AC (thn (ha pins s σv H (λx H1=>tTh X.K φ r x σv H1 Q) I ⟨ι,σ,μ,hS,hL,?_⟩) λv s1 ⟨x,H1,I1,r1,q1⟩=>hr pos pins s1 σv H1 Q x v I1 r1 q1)
 rw[e1]
 exact λι1 x H1 p1 x1 s1 d1=>⟨ι1,σ,μ1,d,s1,hL.mono p1 x1,d1,h.mono p1 x1⟩
theorem Ag {l:Expr} {xl:Ex} {tg:Expr} (hl:PE X l (tE X.K φ xl)):PI X tg l (tI X.K φ (.seq xl)):=by
 intro pins s σv H R I ⟨ι,σ,μ,hS,hL,h⟩
 simp![evI]at h
 cases e1:evE φ xl σ μ with
 | exc _ _ _=>rw[e1]at h;exact h.elim
 | stuck=>rw[e1]at h;exact h.elim
 | ok d μ1 =>
 rw[e1]at h
 simp![Res.az]at h
 have hq:tE X.K φ xl σv H (λv H1=>∃ι1,ι <+: ι1/\Ext H H1/\Sim X.K ι1 H1 μ1/\IsD X.K ι1 H1 d v):=⟨ι,σ,μ,hS,hL,by rw[e1];exact λι1 v H1 p1 x1 s1 d1=>⟨ι1,p1,x1,s1,d1⟩⟩
 refine thn (hl pins s σv H _ I hq) λu s1 ⟨v,H1,I1,r1,ι1,p1,x1,S1,d1⟩=>?_
 -- a list,at a,whatever its items
 have lst:∀(a:Addr) (xs:List V) (ds:List D) (g:Gd),v=.ref a->LsL X.K H1 a xs->af X.K ι1 H1 ds xs->(∀ι2 H2 μ2,ι1 <+: ι2->Ext H1 H2->Sim X.K ι2 H2 μ2->gd g μ2->∃ys,LsL X.K H2 a ys/\af X.K ι2 H2 ds ys) ->
   (∀ι' H' J,ι <+: ι'->Ext H H'->Sim X.K ι' H' μ1->Walk X.K ι' H' J ds g->R J H')->wpAny (model X.prog X.w) X.A (pyIter u) (PIE X pins σv tg R) X.xe s1:=by
  intro a xs ds g ev hls hds stay hR
  subst ev
  cases(show u=Value.ref a from r1)
  obtain⟨its,rv,p,hz⟩:=I1.list hls.sq
  refine wpAny_pyIter_list p.isList ?_
  refine⟨s1.heap.objs.size,[s1.heap.objs.size],_,_,H1,rfl,I1.kept (t':=s1.toks) λb o e=>AB _ e,ma a _,⟨_,BD _ rfl,rfl,rfl⟩,λb hb=>?_,hR ι1 H1 _ p1 x1 S1 ?_⟩
  ·have e:b=s1.heap.objs.size:=by simpa using hb
   subst e
   exact I1.fpOk (AQ _) (I1.hok.fresh (AQ _))
  ·refine⟨by rw[<-hds.length];exact hz,λi ι2 H2 μ2 q1 q2 q3 q4 hi=>?_,λi ι2 H2 μ2 w H3 q1 q2 q3 q4 hi hy=>?_,λι2 H2 μ2 q1 q2 q3 q4=>?_⟩
   ·obtain⟨ys,y1,y2⟩:=stay ι2 H2 μ2 q1 q2 q3 q4
    obtain⟨w,e,_⟩:=y2.get (AA hi)
    exact⟨ys,w,y1.sq,e⟩
   ·obtain⟨ys,y1,y2⟩:=stay ι2 H2 μ2 q1 q2 q3 q4
    obtain⟨e,hy⟩:=hy
    subst e
    obtain⟨w',e',q'⟩:=y2.get (AA hi)
    have:=hy ys y1.sq
    rw[e']at this;cases this
    exact⟨.refl _,q3,_,AA hi,q'⟩
   ·obtain⟨ys,y1,y2⟩:=stay ι2 H2 μ2 q1 q2 q3 q4
    exact⟨ys,y1.sq,by rw[y2.length];exact AQ _⟩
 cases d with
 | tup ds =>
  simp![cj]at h
  obtain⟨a,xs,rfl,hq,hds⟩:=bj d1
  cases(show u=Value.ref a from r1)
  obtain⟨its,rv,p,hz⟩:=I1.tuple hq
  refine wpAny_pyIter_tuple (show s1.heap.IsTuple a its.toArray from p) ?_
  refine⟨s1.heap.objs.size,[s1.heap.objs.size],_,_,H1,rfl,I1.kept (t':=s1.toks) λb o e=>AB _ e,kq a _,⟨_,BD _ rfl,rfl,rfl⟩,λb hb=>?_,h ι1 H1 _ p1 x1 S1 ?_⟩
  ·have e:b=s1.heap.objs.size:=by simpa using hb
   subst e
   exact I1.fpOk (AQ _) (I1.hok.fresh (AQ _))
  ·refine⟨by rw[<-hds.length];exact hz,λi ι2 H2 μ2 q1 q2 q3 q4 hi=>?_,λi ι2 H2 μ2 w H3 q1 q2 q3 q4 hi hy=>?_,λι2 H2 μ2 q1 q2 q3 q4=>?_⟩
   ·obtain⟨w,e,_⟩:=hds.get (AA hi)
    exact⟨xs,w,hq.ext q2,e⟩
   ·obtain⟨e,hy⟩:=hy
    subst e
    obtain⟨w',e',q'⟩:=hds.get (AA hi)
    have:=hy xs (hq.ext q2)
    rw[e']at this;cases this
    exact⟨.refl _,q3,_,AA hi,IsD.mono q1 q2 _ _ q'⟩
   ·exact⟨xs,hq.ext q2,by rw[hds.length];exact AQ _⟩
 | lst ds =>
  simp![cj]at h
  obtain⟨a,xs,rfl,hq,hds⟩:∃a xs,v=.ref a/\FzL X.K H1 a xs/\af X.K ι1 H1 ds xs:=by simpa[IsD]using d1
  exact lst a xs ds none rfl (.inr hq) hds (λι2 H2 μ2 q1 q2 q3 q4=>⟨xs,.inr (hq.ext q2),af.mono q1 q2 _ _ hds⟩) h
 | loc n =>
  obtain⟨a,rfl,hn⟩:∃a,v=.ref a/\ι1[n]? = some a:=by simpa[IsD]using d1
  have pre:∀{ι2:List Addr},ι1 <+: ι2->ι2[n]? = some a:=λhp=>by
   obtain⟨t,rfl⟩:=hp
   rw[AG (AI.mp hn).1];exact hn
  cases em:μ1[n]? with
  | none=>simp![cj,em]at h
  | some o =>
   simp![cj,em]at h
   cases o with
   | l ds =>
    simp only at h
    obtain⟨a',q',ho⟩:=S1.at em
    rw[hn]at q';cases q'
    obtain⟨xs,f1,f2⟩:=ho
    refine lst a xs ds (some (n,.l ds)) rfl (.inl f1) (af.mono (DC) (.refl _) _ _ f2) (λι2 H2 μ2 q1 q2 q3 q4=>?_) h
    obtain⟨a2,e2,o2⟩:=q3.at (show μ2[n]? = some (.l ds)from q4)
    rw[pre q1]at e2;cases e2
    obtain⟨ys,g1,g2⟩:=o2
    exact⟨ys,.inl g1,af.mono (DC) (.refl _) _ _ g2⟩
   | r ds =>
    simp only at h
    obtain⟨a',q',ho⟩:=S1.at em
    rw[hn]at q';cases q'
    obtain⟨xs,f1,f2⟩:=ho
    refine lst a xs ds (some (n,.r ds)) rfl (.inl f1) f2 (λι2 H2 μ2 q1 q2 q3 q4=>?_) h
    obtain⟨a2,e2,o2⟩:=q3.at (show μ2[n]? = some (.r ds)from q4)
    rw[pre q1]at e2;cases e2
    obtain⟨ys,g1,g2⟩:=o2
    exact⟨ys,.inl g1,g2⟩
   | d kvs=>simp only at h
   | dt kvs=>simp only at h
   | x _=>simp only at h
   | dead=>simp only at h
 | _=>simp![cj]at h
theorem lb {K:PySem.W.Frag} {ι:List Addr} {H:Hp} (lo:Int) (n:Nat) (hn:n<=sizeLine):Walk K ι H (Itr lo n) ((List.range n).map fun(k:Nat)=>D.int (lo+k)) none:=by
 refine⟨by simpa using hn,λi ι2 H2 μ2 q1 q2 q3 q4 hi=>by simpa[Itr]using hi,λi ι2 H2 μ2 w H3 q1 q2 q3 q4 hi hy=>?_,λι2 H2 μ2 q1 q2 q3 q4=>by simp[Itr]⟩
 obtain⟨e,hy⟩:=hy
 subst e
 have hi':i<n:=by simpa using hi
 exact⟨.refl _,q3,.int (lo+i),by simp[hi'],by simp[IsD,hy]⟩
theorem Ah {a:Expr} {xa:Ex} {tg:Expr} {p pos:Pos} (hg:Gl X "range") (hm:X.mg "range"=none) (ha:PE X a (tE X.K φ xa)) (hs:starEach [a] X.env=[(false,eval a X.env)]):PI X tg (.Call (.Name "range" p) [a] [] pos) (tI X.K φ (.rng xa)) :=
 PI.imp (md hg hm (ua ha zt hs) hs) λσv H R ⟨ι,σ,μ,hS,hL,h⟩=>by
  simp![evI]at h
  refine⟨ι,σ,μ,hS,hL,?_⟩
  simp![cc]
  cases e1:evE φ xa σ μ with
  | exc _ _ _=>rw[e1]at h;exact h.elim
  | stuck=>rw[e1]at h;exact h.elim
  | ok d μ1 =>
   rw[e1]at h
   simp![Res.az]at h ⊢
   cases d with
   | int j =>
    simp only at h
    by_cases hj:-(lim:Int)<=j/\j<=lim
    ·rw[if_pos hj]at h
     rw[d5]at hj
     have h24:sizeLine=16777216:=FH
     rw[h24]at hj
     intro ι1 vs H1 p1 x1 s1 d1
     have e:vs=[.int j]:=by
      have q:af X.K ι1 H1 [.int j] vs:=d1
      simp![af]at q
      obtain⟨v,r,rfl,q1,rfl⟩:=q
      cases ay q1
      rfl
     refine⟨j,e,by lia,by lia,h ι1 H1 _ p1 x1 s1 ?_⟩
     have w:=lb (K:=X.K) (ι:=ι1) (H:=H1) 0 j.toNat (by lia)
     simpa using w
    ·rw[if_neg hj]at h
     exact h.elim
   | _=>exact h.elim
def Ai (K:PySem.W.Frag) (f:List D->Sto->Res D):List V->Hp->VK->Prop:=λxs H Q=>∃ι ds μ,Sim K ι H μ/\af K ι H ds xs/\cy K (RD K) ι H (f ds μ) Q
theorem uf {K:PySem.W.Frag} {ι:List Addr} {d e:D} {xs:List V} (h:af K ι H [d,e] xs):∃v w,xs=[v,w]/\IsD K ι H d v/\IsD K ι H e w:=by
 simp![af]at h
 obtain⟨v,r,rfl,q,w,r2,rfl,q2,rfl⟩:=h
 exact⟨v,w,rfl,q,q2⟩
theorem bt_min {m:Mk} (hc:X.calm=true):dz X (.builtin "min") (Ai X.K (btD .min m)):=dz.imp (mh hc) λxs H Q ⟨ι,ds,μ,hS,hds,h⟩=>by
 simp![btD,minD]at h
 split at h
 ·rename_i i j
  obtain⟨v,w,rfl,hv,hw⟩:=uf hds
  cases ay hv
  cases ay hw
  exact⟨i,j,rfl,h.ok hS (by simp[IsD])⟩
 ·exact h.elim
theorem bt_max {m:Mk} (hc:X.calm=true):dz X (.builtin "max") (Ai X.K (btD .max m)):=dz.imp (mf hc) λxs H Q ⟨ι,ds,μ,hS,hds,h⟩=>by
 simp![btD,maxD]at h
 split at h
 ·rename_i i j
  obtain⟨v,w,rfl,hv,hw⟩:=uf hds
  cases ay hv
  cases ay hw
  exact⟨i,j,rfl,h.ok hS (by simp[IsD])⟩
 ·exact h.elim
def dy:Cl->String
 | .int=>"int"
 | .bool=>"bool"
 | .tuple=>"tuple"
 | .list=>"list"
 | .str=>"str"
 | .own _=>""
def gy:String->Cl->Bool
 | "bool",.int=>true
 | "bool",.bool=>true
 | "int",.int=>true
 | "str",.str=>true
 | "tuple",.tuple=>true
 | "list",.list=>true
 | _,_=>false
theorem fb (K:PySem.W.Frag) (t:String) (c:Cl) (hc:∀n,c≠.own n) (ht:t∈["NoneType","bool","int","str","tuple","list"]):PySem.W.kitOne K (.type t) (.type (dy c))=some (gy t c):=by
 simp![AJ,BY,or_false]at ht
 rcases ht with rfl | rfl | rfl | rfl | rfl | rfl<;>cases c<;>first | rfl | exact absurd rfl (hc _)
theorem Aj {c:Cl} (hc:∀n,c≠.own n):dz X (.builtin "isinstance") (λxs H Q=>∃ι d μ v,xs=[v,.ty (dy c)]/\Sim X.K ι H μ/\IsD X.K ι H d v/\cy X.K (RD X.K) ι H (qz c d μ) Q):=by
 intro pins s σ H xs us Q I r ⟨ι,d,μ,v,e,hS,hd,h⟩
 subst e
 obtain⟨u,w,rfl,ru,rw'⟩:=vals2 r
 cases(show w=Value.type (dy c)from rw')
 have key:∀(t:String),t∈["NoneType","bool","int","str","tuple","list"]->(∀tk,EP X pins σ Q (.bool (gy t c)) {s with toks:=tk})->PySem.W.kitOne X.K (.type t) (.type (dy c))=some (gy t c)/\∀tk,EP X pins σ Q (.bool (gy t c)) {s with toks:=tk}:=λt ht hq=>⟨fb X.K t c hc ht,hq⟩
 have lst:∀a xs,v=.ref a->LsL X.K H a xs->Q (.bl (gy "list" c)) H->wpAny (model X.prog X.w) X.A (call (.builtin "isinstance") [u,.type (dy c)]) (EP X pins σ Q) X.xe s:=λa xs e hq q=>by
  subst e
  cases(show u=Value.ref a from ru)
  obtain⟨z,its,n,hv,_,hg⟩:=I.ls hq
  exact CF PySem.W.kitx_list I.kIn ⟨_,hg,rfl⟩ (fb X.K "list" c hc (by decide)) (λz=>nomatch z) λtk=>⟨.bl (gy "list" c),H,I.tok tk,rfl,q⟩
 cases d with
 | non =>
  cases(show v=.non by simpa[IsD]using hd)
  cases(show u=Value.none from ru)
  refine CF PySem.W.kitx_none I.kIn True.intro (fb X.K "NoneType" c hc (by decide)) (λz=>nomatch z) λtk=>⟨.bl (gy "NoneType" c),H,I.tok tk,rfl,?_⟩
  cases c<;>first | exact absurd rfl (hc _) | exact h.ok hS (by simp[IsD,gy])
 | bl b =>
  cases la hd
  cases(show u=Value.bool b from ru)
  refine CF PySem.W.kitx_bool I.kIn True.intro (fb X.K "bool" c hc (by decide)) (λz=>nomatch z) λtk=>⟨.bl (gy "bool" c),H,I.tok tk,rfl,?_⟩
  cases c<;>first | exact absurd rfl (hc _) | exact h.ok hS (by simp[IsD,gy])
 | int i =>
  cases ay hd
  obtain⟨t,rfl⟩:=(show ∃t,u=Value.int i t from ru)
  refine CF PySem.W.kitx_int I.kIn True.intro (fb X.K "int" c hc (by decide)) (λz=>nomatch z) λtk=>⟨.bl (gy "int" c),H,I.tok tk,rfl,?_⟩
  cases c<;>first | exact absurd rfl (hc _) | exact h.ok hS (by simp[IsD,gy])
 | str x =>
  cases(show v=.str x by simpa[IsD]using hd)
  obtain⟨t,rfl⟩:=(show ∃t,u=Value.str x t from ru)
  refine CF PySem.W.kitx_str I.kIn True.intro (fb X.K "str" c hc (by decide)) (λz=>nomatch z) λtk=>⟨.bl (gy "str" c),H,I.tok tk,rfl,?_⟩
  cases c<;>first | exact absurd rfl (hc _) | exact h.ok hS (by simp[IsD,gy])
 | tup ds =>
  obtain⟨a,xs,rfl,hq,hxs⟩:=bj hd
  cases(show u=Value.ref a from ru)
  obtain⟨its,hv,⟨o,h1,h2,_⟩,hz⟩:=I.tuple hq
  refine CF PySem.W.kitx_tuple I.kIn ⟨o,h1,h2⟩ (fb X.K "tuple" c hc (by decide)) (λz=>nomatch z) λtk=>⟨.bl (gy "tuple" c),H,I.tok tk,rfl,?_⟩
  cases c<;>first | exact absurd rfl (hc _) | exact h.ok hS (by simp[IsD,gy])
 | lst ds =>
  obtain⟨a,xs,rfl,hq,hxs⟩:∃a xs,v=.ref a/\FzL X.K H a xs/\af X.K ι H ds xs:=by simpa[IsD]using hd
  refine lst a xs rfl (.inr hq) ?_
  cases c<;>first | exact absurd rfl (hc _) | exact h.ok hS (by simp[IsD,gy])
 | loc n =>
  cases c with
  | list =>
   simp![qz]at h
   split at h
   ·rename_i ds em
    obtain⟨a,xs,rfl,hq,hxs⟩:=et (ds:=ds) hS hd (by simp[listOf,em])
    exact lst a xs rfl hq (h.ok hS (by simp[IsD,gy]))
   ·rename_i ds em
    obtain⟨a,xs,rfl,hq,hxs⟩:=et (ds:=ds) hS hd (by simp[listOf,em])
    exact lst a xs rfl hq (h.ok hS (by simp[IsD,gy]))
   ·exact h.elim
  | own k=>exact absurd rfl (hc k)
  | _=>exact h.elim
theorem D2 {a:Expr} {xa:Ex} {c:Cl} {cn:Str} {p cp pos:Pos} (hc:∀n,c≠.own n) (ha:PE X a (tE X.K φ xa)) (hgi:Gl X "isinstance") (hmi:X.mg "isinstance"=none) (hgc:Gl X cn) (hmc:X.mg cn=none) (hbc:bootBuiltins cn=some (.type (dy c)))
  (hn:cn≠"__name__") (hd:(cn==("__debug__":Str))=false) (hs:starEach [a,.Name cn cp] X.env=(false,eval a X.env)::starEach [.Name cn cp] X.env) :
  PE X (.Call (.Name "isinstance" p) [a,.Name cn cp] [] pos) (tE X.K φ (.isi xa c)):=by
 have hb:PE X (.Name cn cp) (tC (.ty (dy c))):=l8 hgc hmc hbc rfl hn hd
 refine PE.imp (gj (Aj hc) hgi hmi FF (cz ha (cz hb j0) hs) (by decide) (by decide) hs) λσv H Q ⟨ι,σ,μ,hS,hL,h⟩=>?_
 simp![evE]at h
 obtain⟨d,μ1,e1,h⟩:=h.bind
 refine⟨ι,σ,μ,hS,hL,?_⟩
 rw[e1]
 exact λι1 v H1 p1 x1 s1 d1=>⟨ι1,d,μ1,v,rfl,s1,d1,h.mono p1 x1⟩
end
theorem IsD.belowN {K:PySem.W.Frag} {ι ι':List Addr} {H:Hp} (hp:ι <+: ι'):∀(k:Nat) (d:D) (v:V),D.belowN ι.length k d=true->IsD K ι' H d v->IsD K ι H d v:=by
 have list:∀(k:Nat),(∀(d:D) (v:V),D.belowN ι.length k d=true->IsD K ι' H d v->IsD K ι H d v) ->
   ∀(ds:List D) (xs:List V),ds.all (D.belowN ι.length k)=true->af K ι' H ds xs->af K ι H ds xs:=by
  intro k ih ds
  induction ds with
  | nil=>intro xs _ h;simpa[af]using h
  | cons d ds ihd =>
   intro xs hp h
   simp![af]at h ⊢
   simp![BK,AK]at hp
   obtain⟨v,r,e,q,t⟩:=h
   exact⟨v,r,e,ih d v hp.1 q,ihd r hp.2 t⟩
 have loc:∀(n:Nat) (v:V),n<ι.length->IsD K ι' H (.loc n) v->IsD K ι H (.loc n) v:=λn v hn h=>by
  simp![IsD]at h ⊢
  obtain⟨a,e,q⟩:=h
  obtain⟨t,rfl⟩:=hp
  rw[AG hn]at q
  exact⟨a,e,q⟩
 intro k
 induction k with
 | zero =>
  intro d v hb h
  cases d with
  | loc n=>exact loc n v (by simpa[D.belowN]using hb) h
  | tup ds=>simp[D.belowN]at hb
  | lst ds=>simp[D.belowN]at hb
  | _=>simpa[IsD]using h
 | succ k ih =>
  intro d v hb h
  cases d with
  | tup ds =>
   simp![D.belowN]at hb
   simp![IsD]at h ⊢
   obtain⟨a,xs,e,q,r⟩:=h
   exact⟨a,xs,e,q,list k ih ds xs hb r⟩
  | lst ds =>
   simp![D.belowN]at hb
   simp![IsD]at h ⊢
   obtain⟨a,xs,e,q,r⟩:=h
   exact⟨a,xs,e,q,list k ih ds xs hb r⟩
  | loc n=>exact loc n v (by simpa[D.belowN]using hb) h
  | _=>simpa[IsD]using h
theorem af.belowN {K:PySem.W.Frag} {ι ι':List Addr} {H:Hp} (hp:ι <+: ι') {k:Nat}:∀(ds:List D) (xs:List V),ds.all (D.belowN ι.length k)=true->af K ι' H ds xs->af K ι H ds xs
 | [],xs,_,h=>by simpa[af]using h
 | d::ds,xs,hb,h=>by
  simp![af]at h ⊢
  simp![BK,AK]at hb
  obtain⟨v,r,e,q,t⟩:=h
  exact⟨v,r,e,IsD.belowN hp k d v hb.1 q,af.belowN hp ds r hb.2 t⟩
theorem Sim.cut {K:PySem.W.Frag} {ι ι':List Addr} {H:Hp} {μ:Sto} (h:Sim K ι' H μ) (hp:ι <+: ι') (hc:(μ.take ι.length).all (bz ι.length)=true):Sim K ι H (μ.take ι.length):=by
 have hl:ι.length<=μ.length:=by rw[<-h.len];exact hp.length_le
 refine⟨by rw[DR];lia,hp.sublist.nodup h.nd,λn a o e1 e2=>?_⟩
 have hn:n<ι.length:=(AI.mp e1).1
 have e1':ι'[n]? = some a:=by
  obtain⟨t,rfl⟩:=hp
  rw[AG hn];exact e1
 have e2':μ[n]? = some o:=by
  rw[EN hn]at e2;exact e2
 have q:=h.obj n a o e1' e2'
 have c:bz ι.length o=true:=BX.mp hc o (DS e2)
 cases o with
 | l ds=>exact q
 | r ds =>
  obtain⟨xs,e,r⟩:=q
  exact⟨xs,e,af.belowN hp ds xs c r⟩
 | d kvs=>exact q
 | dt kvs=>exact q
 | x c=>exact q
 | dead=>exact q
theorem iy {K:PySem.W.Frag} {ι:List Addr} {H:Hp} {μ:Sto} {keep:Bool} {r:Res D} {Q:VK} (hS:Sim K ι H μ) (h:cy K (RD K) ι H (eo keep μ.length r) Q):cy K (RD K) ι H r Q:=by
 cases r with
 | exc c ds μ'=>exact h
 | stuck=>exact h
 | ok d μ' =>
  cases keep with
  | true=>simpa[eo]using h
  | false =>
   simp![eo,CC,if_false]at h
   split at h
   ·rename_i hc
    rw[<-hS.len]at hc h
    exact λι' v H' p e s q=>h ι v H' (AD _) e (s.cut p hc.2) (IsD.belowN p 8 d v hc.1 q)
   ·exact h.elim
def spD (K:PySem.W.Frag) (φ:Phi) (f:Nat):Sp:=λvs H Q _=>∃ι ds μ,Sim K ι H μ/\af K ι H ds vs/\cy K (RD K) ι H (φ f ds μ) Q
def Callee (P:Program) (w:World) (K:PySem.W.Frag) (mg:Str->Option Value) (base:Heap) (A:Around) (φ:Phi) (f:Nat) (x:Str):Prop :=
 ∃(k:Nat) (fa:Addr) (fd:FuncData) (ps:List Str),FnOk P w K mg base CX0 k fa fd ps (spD K φ f)/\Room k A/\mg x=some (.ref fa)/\PySem.W.keepIn K (.ref fa)=true/\Binds K fd ps []
section
variable {X : Cx} {φ : Phi} {x : Str} {p pos : Pos} {e : Expr} {es : List Expr} {xs : Exs} {f : Nat} {keep : Bool}
theorem s_call (C:Callee X.prog X.w X.K X.mg X.base X.A φ f x) (hg:Gl X x) (ha:PA X (e::es) (tEs X.K φ xs)) (hdb:(x==("__debug__":Str))=false)
  (he:starEach (e::es) X.env=(false,eval e X.env)::starEach es X.env) (hpl:(backTo pos (starEach es X.env)).any (·.1)=false):PE X (.Call (.Name x p) (e::es) [] pos) (tE X.K φ (.call keep f xs)):=by
 obtain⟨k,fa,fd,ps,F,hr,hm,hk,hb⟩:=C
 refine PE.imp (v3 F hr hg hm hk hb .nil C5 ha hdb he hpl) λσv H Q ⟨ι,σ,μ,hS,hL,h⟩=>?_
 simp![evE]at h
 obtain⟨ds,μ1,e1,h⟩:=h.bind
 refine⟨ι,σ,μ,hS,hL,?_⟩
 rw[e1]
 intro ι1 vs H1 p1 x1 s1 d1
 exact⟨ι1,ds,μ1,s1,by rw[CD];exact d1,iy s1 (h.mono p1 x1)⟩
end
theorem xm {P:Program} {w:World} {K:PySem.W.Frag} {mg:Str->Option Value} {base:Heap} {x qual:Str} {st:Stmt} {fa:Addr} {fd:FuncData} {N ps:List Str} {n f:Nat} {T:List Df} {df:Df} (F:Fun K x qual st fa fd) (S:FnScope N ps (aa st))
  (hd:T[f]? = some df) (hnp:df.np=ps.length) (hnn:df.nn=N.length)
  (hb:∀(cdv:Value) (A:Around) (outer:List Env) (s:Shared) (H:Hp) (E:XK),Room n (A.deeper (envOfC qual (aa st) s.heap.objs.size fa cdv)) ->
   PSs (d8 CX0 P w K mg base N qual (aa st) fa cdv A outer s H E).nox (au st) (tSs K (ai T n) df.body)):FnOk P w K mg base CX0 (n+1) fa fd ps (spD K (ai T (n+1)) f):=by
 have len:∀{vs:List V} {H:Hp} {ds:List D} {ι:List Addr} {μ:Sto} {Q:VK},af K ι H ds vs->cy K (RD K) ι H (ai T (n+1) f ds μ) Q->ds.length=df.np:=λ{vs H ds ι μ Q} hds h=>by
  simp![ai,hd,qg]at h
  split at h
  ·assumption
  ·exact h.elim
 refine F.ok S (λvs H Q E ⟨ι,ds,μ,hS,hds,h⟩=>?_) λcdv A outer s H vs Q E hr ⟨ι,ds,μ,hS,hds,h⟩=>⟨_,hb cdv A outer s H E hr,?_⟩
 ·rw[hds.length,len hds h,hnp]
 ·have hl:=len hds h
  refine⟨ι,ds.map some++List.replicate (df.nn-df.np) none,μ,hS,λi d e=>?_,?_,?_⟩
  ·by_cases hi:i<ds.length
   ·rw[AG (by simpa using hi),BH]at e
    cases ed:ds[i]? with
    | none=>rw[ed]at e;cases e
    | some d' =>
     rw[ed]at e
     simp![DY,BI]at e
     subst e
     obtain⟨v,ev,hv⟩:=hds.get ed
     refine⟨v,?_,hv⟩
     unfold L2.start
     rw[AG (by rw[BU,hds.length];exact hi),BH,ev]
     rfl
   ·rw[BA (by simpa using hi),BM]at e
    split at e<;>cases e
  ·unfold L2.start
   simp![BR,BU,DM,hds.length]
   lia
  ·simp![ai,hd,qg,if_pos hl]at h
   cases er:b8 (ai T n) df.body (ds.map some++List.replicate (df.nn-df.np) none) μ with
   | exc c es μ'=>rw[er]at h;exact h.elim
   | stuck=>rw[er]at h;exact h.elim
   | ok fl μ' =>
    rw[er]at h
    simp![Res.az]at h
    cases fl with
    | nx σ'=>exact λι' σv H' p e s' l z=>h ι' .non H' p e s' (by simp[IsD])
    | rt d=>exact λι' v H' p e s' q=>h ι' v H' p e s' q
    | bk σ'=>exact h.elim
    | ct σ'=>exact h.elim
theorem xn {P:Program} {w:World} {K:PySem.W.Frag} {mg:Str->Option Value} {base:Heap} {fa:Addr} {fd:FuncData} {ps:List Str} {f:Nat} {T:List Df}:FnOk P w K mg base CX0 0 fa fd ps (spD K (ai T 0) f) :=
 ⟨λvs H Q E ⟨ι,ds,μ,hS,hds,h⟩=>h.elim,λA outer s H args us vs Q E hr he hb hv ⟨ι,ds,μ,hS,hds,h⟩=>h.elim⟩
structure Ent where
 id:Nat
 name:Str
 st:Stmt
 N:List Str
 ps:List Str
 df:Df
structure ModOf (K:PySem.W.Frag) (mg:Str->Option Value) (e:Ent):Prop where
 ex:∃(fa:Addr) (fd:FuncData),mg e.name=some (.ref fa)/\Fun K e.name e.name e.st fa fd/\∀us:List Value,us.length=e.ps.length->bindArgs fd ⟨us,[]⟩=pure (e.ps.zip us)
theorem gg {K:PySem.W.Frag} {h:Heap} {mg:Str->Option Value} {e:Ent} {f:Addr} {oc:Value} {od an:Option Addr} {sl:Array (Option Value)} {kV dc pm cd ct:Value} (X:K.In h) (G:h.Ns mainGlobals mg) (a:PySem.W.nsIn K mainGlobals e.name=some (some (.ref f)))
  (l:K.lookup f=some ⟨oc,od,.func (PySem.W.fnOf e.name e.name (eg e.st) (au e.st) (aa e.st) .none kV dc pm an cd ct),sl⟩) (c:PySem.W.codeIn K cd e.name=true) (k:PySem.W.keepIn K (.ref f)=true)
  (hb:∀(kV doc pm:Value) (an:Option Addr) (cdv ct:Value) (us:List Value),us.length=e.ps.length->bindArgs (PySem.W.fnOf e.name e.name (eg e.st) (au e.st) (aa e.st) .none kV doc pm an cdv ct) ⟨us,[]⟩=pure (e.ps.zip us)):ModOf K mg e :=
 ⟨f,_,CH X G a,zj l c k,hb kV dc pm an cd ct⟩
def rk (K:PySem.W.Frag):Sp:=λvs H Q _=>∃(a:Addr) (ns:List Int),vs=[.ref a]/\FzL K H a (ns.map V.int)/\ns.length<=63/\∀H',Q (.bl true) H'
theorem rl {l:PySem.W.OpenLaw} {n:Nat} {q:Program} {loose:List Str} {XP:(Str->Option Value)->Heap->Prop} {YP:World->Heap->Prop} {d:DefRec} {K:Params->PySem.W.Frag} (hr:Room n callerA) (hn:l.most=some 63) (hdf:d.params.defaults=[])
  (hY:∀(w:World) (h:Heap),YP w h->(K w.params).In h)
  (F:∀(w:World) (mg:Str->Option Value) (fa:Addr) (h:Heap),(K w.params).In h->h.Ns mainGlobals mg->mg d.name=some (.ref fa) ->
   ∃fd:FuncData,(∀(s:Shared) (u:Value),BindsTo s fd ⟨[u],[]⟩ [("script",u)])/\∀base:Heap,(K w.params).In base->base.Ns mainGlobals mg->FnOk l.prog w (K w.params) mg base CX0 n fa fd ["script"] (rk (K w.params))) :
  PySem.W.WalkO q loose XP YP l.row.toRowW d [] (λf vs=>PySem.call f vs) :=
 L2.wa (n:=63) (k:=n) (x:="script") (CX:=λ_=>CX0) (sp:=λw=>rk (K w.params)) hn (by decide) hdf hr hY F (λ_ _ a ns hl _ hS=>⟨a,ns,rfl,hS,hl,λ_=>rfl⟩) λ_ _ _ _ _ z=>z
def Exs.len:Exs->Nat
 | .nil=>0
 | .cons _ r=>r.len+1
theorem d7 {φ:Phi}:∀{xs:Exs} {σ:Sl} {μ:Sto} {ds:List D} {μ':Sto},cc φ xs σ μ=.ok ds μ'->ds.length=xs.len
 | .nil,σ,μ,ds,μ',h=>by
  simp![cc]at h
  cases h;rfl
 | .cons e r,σ,μ,ds,μ',h=>by
  simp![cc]at h
  cases e1:evE φ e σ μ with
  | exc _ _ _=>rw[e1]at h;cases h
  | stuck=>rw[e1]at h;cases h
  | ok d μ1 =>
   rw[e1]at h
   simp![Res.az]at h
   cases e2:cc φ r σ μ1 with
   | exc _ _ _=>rw[e2]at h;cases h
   | stuck=>rw[e2]at h;cases h
   | ok es μ2 =>
    rw[e2]at h
    cases h
    simp[Exs.len,d7 e2]
def nj (sc scope:Scope) (N Nb:List Str) (cap:List Nat) (nl:Nat):Bool :=
 decide (scope.kind=.function)&&scope.names.all (λy=>decide (y.2≠.cell)&&decide (scope.names.lookup y.1=some y.2)
  && (!decide (y.2=.free) || decide (sc.names.lookup y.1=some .cell) || decide (sc.names.lookup y.1=some .free)))
 && decide Nb.Nodup&&decide (Nb.length=cap.length+nl)
 && (List.range cap.length).all (λj=>match cap[j]?,Nb[j]? with
  | some i,some x=>decide (N[i]? = some x)&&scope.names.any λy=>decide (y.1=x)&&decide (y.2=.free)
  | _,_=>false)
theorem lookup_mem {l:List (Str×NameKind)} {n:Str} {k:NameKind} (h:l.lookup n=some k):(n,k)∈l:=by
 induction l with
 | nil=>cases h
 | cons a r ih =>
  obtain⟨m,j⟩:=a
  rw[CJ]at h
  cases hb:n==m with
  | true =>
   rw[hb]at h
   cases h
   have:n=m:=by simpa using hb
   subst this
   exact AY
  | false =>
   rw[hb]at h
   exact AV _ (ih h)
theorem fc {scope:Scope} {env:Env} {n:Str} {k:NameKind} (h:(n,k)∈(relabel scope env).names):(n,k)∈scope.names\/(k=.cell/\(n,NameKind.free)∈scope.names):=by
 have h2:(n,k)∈scope.names.map (fun(n,k)=>if(k==NameKind.free&&env.scope.kind==.function&&env.kindOf n==some .cell)then(n,NameKind.cell)else(n,k)):=h
 obtain⟨⟨m,j⟩,hm,e⟩:=List.mem_map.mp h2
 dsimp only at e
 split at e
 ·rename_i hc
  cases e
  simp![AK,beq_iff_eq]at hc
  obtain⟨⟨rfl,_⟩,_⟩:=hc
  exact .inr ⟨rfl,hm⟩
 ·cases e
  exact .inl hm
theorem lg {sc scope:Scope} {N Nb:List Str} {cap:List Nat} {nl:Nat} (h:nj sc scope N Nb cap nl=true):CompScope sc scope N Nb cap nl:=by
 simp![nj,AK,BX,decide_eq_true_eq,Bool.or_eq_true,DL,decide_eq_false_iff_not]at h
 obtain⟨⟨⟨⟨h1,h2⟩,h3⟩,h4⟩,h5⟩:=h
 refine⟨h1,λy hy=>(h2 y hy).1.1,λy hy=>(h2 y hy).1.2,λn hn=>?_,λn hn=>?_,h3,h4,λj i e=>?_⟩
 ·rcases(h2 (n,.free) hn).2 with(z | z) | z
  ·exact absurd rfl z
  ·exact .inl z
  ·exact .inr z
 ·rcases hn with hn | hn
  ·rcases fc (lookup_mem hn)with z | z
   ·exact absurd rfl (h2 _ z).1.1
   ·exact z.2
  ·rcases fc (lookup_mem hn)with z | z
   ·exact z
   ·exact z.2
 ·have hj:j<cap.length:=(AI.mp e).1
  have q:=h5 j (List.mem_range.mpr hj)
  rw[e]at q
  cases ex:Nb[j]? with
  | none=>rw[ex]at q;simp at q
  | some x =>
   rw[ex]at q
   simp![AK,decide_eq_true_eq,List.any_eq_true]at q
   obtain⟨q1,⟨y,k⟩,hy,e1,e2⟩:=q
   dsimp only at e1 e2
   subst e1;subst e2
   exact⟨y,rfl,q1,hy⟩
def ndB (l:List Str):Bool:=decide l.Nodup
theorem j4 {l:List Str} (h:ndB l=true):l.Nodup:=of_decide_eq_true h
section
variable {X : Cx} {φ : Phi} {a b c e : Expr} {es : List Expr} {xa xb xc xe : Ex} {xs : Exs} {pos : Pos}
theorem aw (i:Nat) {x:Str} (hN:X.N[i]? = some x:=by rfl) (hv:Vis X.env.scope x:=by first | exact Or.inl rfl | exact Or.inr (Or.inl rfl) | exact Or.inr (Or.inr rfl)) (hd:(x==("__debug__":Str))=false:=by decide)
  (hcd:(x==("__classdict__":Str))=false:=by decide):PE X (.Name x pos) (tE X.K φ (.var i)):=Dm hN hv hd hcd
theorem fw {i:Int} {j:Nat}:PE X (.Constant (.int i) j pos) (tE X.K φ (.cst (.int i))):=Dn
theorem D3 {i:Bool} {j:Nat}:PE X (.Constant (.bool i) j pos) (tE X.K φ (.cst (.bl i))):=F9
theorem D4 {j:Nat}:PE X (.Constant .none j pos) (tE X.K φ (.cst .non)):=Dp
theorem rm {i:Str} {j:Nat}:PE X (.Constant (.str i) j pos) (tE X.K φ (.cst (.str i))):=Dq
theorem ck:PA X [] (tEs X.K φ .nil):=zt
theorem ao (ha:PE X a (tE X.K φ xa)) (hb:PA X es (tEs X.K φ xs)) (hs:starEach (a::es) X.env=(false,eval a X.env)::starEach es X.env:=by rfl):PA X (a::es) (tEs X.K φ (.cons xa xs)):=ua ha hb hs
theorem lh {op:Operator} {m:Mk} (ha:PE X a (tE X.K φ xa)) (hb:PE X b (tE X.K φ xb)):PE X (.BinOp a op b pos) (tE X.K φ (.bin op m xa xb)):=Dr z7 ha hb
theorem D5 (ha:PE X a (tE X.K φ xa)):PE X (.UnaryOp .Not a pos) (tE X.K φ (.not xa)):=zv ha
theorem Ak {rest:List Expr} (ha:PE X a (tE X.K φ xa)) (hb:PE X (.BoolOp .And (b::rest) pos) (tE X.K φ xb)):PE X (.BoolOp .And (a::b::rest) pos) (tE X.K φ (.and xa xb)):=zw ha hb
theorem ug {t:TE} (h:PE X a t):PE X (.BoolOp .And [a] pos) t:=yv h
theorem nk {m:Mk} (h:PA X es (tEs X.K φ xs)) (hl:xs.len<=1000:=by decide):PE X (.List es pos) (tE X.K φ (.lst m xs)):=D0 h λσ μ ds μ' e=>by
 rw[d7 e];exact DH (ir hl)
theorem xo (hu:X.A.units+64<cLine) (op:Cp) (he:PE X e (tE X.K φ xe)):PCh X [w8 op] [e] (tCh X.K φ (.cons op xe .nil)):=xj (ue op (by lia)) he
theorem ro (hu:X.A.units+64<cLine) (op:Cp) (he:PE X e (tE X.K φ xe)):PTh X [w8 op] [e] (tTh X.K φ (.cons op xe .nil)):=xk (ue op (by lia)) he
theorem xp {ops:List CmpOp} {r:Cps} (ha:PE X a (tE X.K φ xa)) (hr:PCh X ops es (tCh X.K φ r)) (hm:lastMarks ops es=false:=by rfl):PE X (.Compare a ops es pos) (tE X.K φ (.cmp xa r)):=D1 ha hr hm
theorem j5 {ops:List CmpOp} {r:Cps} (ha:PE X a (tE X.K φ xa)) (hr:PTh X ops es (tTh X.K φ r)) (hm:lastMarks ops es=false:=by rfl):PT X (.Compare a ops es pos) (tT X.K φ (.cmp xa r)):=Af ha hr hm
theorem jo (ha:PE X a (tE X.K φ xa)) (he:∀whole,isTrue a X.env whole=(do let v <-whole;standAt a.pos;holding [v] (truthy v)):=by intro _;rfl):PT X a (tT X.K φ xa):=wy ha he
theorem nq (ha:PT X a (tT X.K φ xa)):PT X (.UnaryOp .Not a pos) (tT X.K φ (.not xa)):=zu ha
theorem Al (ha:PT X a (tT X.K φ xa)):PW X (.BoolOp .Or [a] pos) (tT X.K φ xa):=yt ha
theorem Am {rest:List Expr} (ha:PT X a (tT X.K φ xa)) (hb:PW X (.BoolOp .Or (b::rest) pos) (tT X.K φ xb)):PW X (.BoolOp .Or (a::b::rest) pos) (tT X.K φ (.or xa xb)):=Dt ha hb
theorem Ge {t:TT} (h:PW X a t):PT X a t:=h.pt
theorem j6 {x:Str} {p:Pos} {f:Nat} {keep:Bool} (C:Callee X.prog X.w X.K X.mg X.base X.A φ f x) (ha:PA X (e::es) (tEs X.K φ xs)) (hg:Gl X x:=by rfl) (hdb:(x==("__debug__":Str))=false:=by decide)
  (he:starEach (e::es) X.env=(false,eval e X.env)::starEach es X.env:=by rfl) (hpl:(backTo pos (starEach es X.env)).any (·.1)=false:=by rfl):PE X (.Call (.Name x p) (e::es) [] pos) (tE X.K φ (.call keep f xs)):=s_call C hg ha hdb he hpl
theorem An {c:Cl} {cn:Str} {p cp:Pos} (ha:PE X a (tE X.K φ xa)) (hmi:X.mg "isinstance"=none) (hmc:X.mg cn=none) (hc:∀n,c≠.own n:=by intro _ h;cases h) (hgi:Gl X "isinstance":=by rfl) (hgc:Gl X cn:=by rfl)
  (hbc:bootBuiltins cn=some (.type (dy c)):=by first | boot_by_name | rfl | kernel_rfl) (hn:cn≠"__name__":=by decide) (hd:(cn==("__debug__":Str))=false:=by decide) (hs:starEach [a,.Name cn cp] X.env=(false,eval a X.env)::starEach [.Name cn cp] X.env:=by rfl) :
  PE X (.Call (.Name "isinstance" p) [a,.Name cn cp] [] pos) (tE X.K φ (.isi xa c)):=D2 hc ha hgi hmi hgc hmc hbc hn hd hs
theorem Ao {tg:Expr} (hl:PE X e (tE X.K φ xe)):PI X tg e (tI X.K φ (.seq xe)):=Ag hl
theorem Ap {tg:Expr} {p:Pos} (hm:X.mg "range"=none) (ha:PE X a (tE X.K φ xa)) (hg:Gl X "range":=by rfl) (hs:starEach [a] X.env=[(false,eval a X.env)]:=by rfl):PI X tg (.Call (.Name "range" p) [a] [] pos) (tI X.K φ (.rng xa)):=Ah hg hm ha hs
theorem nt (i:Nat) {y:Str} (hi:X.N[i]? = some y:=by rfl) (hN:ndB X.N=true:=by first | rfl | kernel_rfl) (hx:Loc X.env.scope y:=by first | exact Or.inl rfl | exact Or.inr rfl) (hf:X.fn y=true\/X.env.scope.names.lookup y=some .local:=by first | exact Or.inl rfl | exact Or.inr rfl) :
  PG X (.Name y pos) (tG X.K (.one i)):=zy (j4 hN) hi hx hf
theorem xq:PTs X [] (tTs X.K φ .nil):=z5
theorem Aq (Nb:List Str) {target iter:Expr} {ifs:List Expr} {scope:Scope} {cap:List Nat} {nl:Nat} {m:Mk} {tg:Tg} {it:It} {cs:Exs} {elt:Ex} (hi:PI X target iter (tI X.K φ it))
  (B:ra X scope Nb target ifs e (tG X.K tg) (tTs X.K φ cs) (tE X.K φ elt)) (S:nj X.env.scope scope X.N Nb cap nl=true:=by first | rfl | kernel_rfl) (hc:X.calm=true:=by rfl) (hf:∀x,foldedSetIterable iter X.env x=pure x:=by intro _;rfl) (hs:∀j∈slots tg,cap.length<=j:=by decide) :
  PE X (.ListComp e [⟨target,iter,ifs,0⟩] scope pos) (tE X.K φ (.comp m cap nl tg it cs elt)):=z6 (lg S) hc hi B hf hs
theorem rp:PSs X [] (tSs X.K φ .nil):=Du
theorem jq {s:Stmt} {ss:List Stmt} {x:Sm} {xss:Sms} (h1:PS X s (tS X.K φ x)) (h2:PSs X ss (tSs X.K φ xss)):PSs X (s::ss) (tSs X.K φ (.cons x xss)):=zx h1 h2
theorem lj (he:PE X e (tE X.K φ xe)):PS X (.Return (some e) pos) (tS X.K φ (.ret xe)):=Dw he
theorem Gf {x y:List Stmt} {xx xy:Sms} (hc:PT X c (tT X.K φ xc)) (ha:PSs X x (tSs X.K φ xx)) (hb:PSs X y (tSs X.K φ xy)):PS X (.If c x y pos) (tS X.K φ (.ite xc xx xy)):=Ga hc ha hb
theorem nu (i:Nat) {y:Str} {pos':Pos} (he:PE X e (tE X.K φ xe)) (hi:X.N[i]? = some y:=by rfl) (hN:ndB X.N=true:=by first | rfl | kernel_rfl) (hx:Loc X.env.scope y:=by first | exact Or.inl rfl | exact Or.inr rfl) (hf:X.fn y=true\/X.env.scope.names.lookup y=some .local:=by first | exact Or.inl rfl | exact Or.inr rfl)
  (hs:swapsWith e (some (.Name y pos')) pos.line X.env=pure false:=by rfl):PS X (.Assign [.Name y pos'] e pos) (tS X.K φ (.set i xe)):=Dx (j4 hN) hi hx hf he hs
theorem D6 {tg it:Expr} {body:List Stmt} {xt:Tg} {xi:It} {xb:Sms} (hi:PI X tg it (tI X.K φ xi)) (hg:PG X tg (tG X.K xt)) (hb:PSs X body (tSs X.K φ xb)) (hp:PassesOwn (model X.prog X.w) X.A X.env X.xe:=by exact PassesOwn.never) (hc:X.calm=true:=by rfl)
  (hs:∀x,foldedSetIterable it X.env x=pure x:=by intro _;rfl):PS X (.For tg it body [] pos) (tS X.K φ (.loop xt xi xb)):=Dy hp hc hi hg hb hs
end
end Lp
namespace Lp.Sets
open PySem PySem.W PyProof.Rows PySem.Calls
def intOf:Value->Int
 | .int n _=>n
 | _=>0
theorem ints_of:∀{vs:List Value} {ns:List Int},IntsAre vs ns->ns=vs.map intOf/\∀v∈vs,∃n t,v=.int n t
 | _,_,.nil=>⟨rfl,λv h=>by simp at h⟩
 | _,_,.cons n t r=>by
  obtain⟨e,h⟩:=ints_of r
  refine⟨by rw[BJ,<-e];rfl,λv hv=>?_⟩
  rcases AJ.mp hv with rfl | hv
  ·exact⟨n,t,rfl⟩
  ·exact h v hv
end Lp.Sets
namespace Lp
open PySem PySem.Spec PyProof.Rows L2
namespace Sets
theorem vals_ints:∀{ns:List Int} {us:List Value},ax (ns.map V.int) us->IntsAre us ns
 | [],[],_=>.nil
 | n::r,u::us,h=>by
  cases h with
  | cons h1 h2 =>
   obtain⟨t,rfl⟩:=h1
   exact .cons n t (vals_ints h2)
 | [],u::us,h=>by cases h
 | n::r,[],h=>by cases h
end Sets
theorem rq {α:Type} {Q:α->Prop}:∀(j:Nat) e,([]:List α)[j]? = some e->Q e:=λj e h=>by simp at h
theorem dr {α:Type} {Q:α->Prop} {a:α} {l:List α} (h:Q a) (t:∀(j:Nat) e,l[j]? = some e->Q e):∀(j:Nat) e,(a::l)[j]? = some e->Q e
 | 0,_,z=>by
  have z':some a=some _:=z
  cases z'
  exact h
 | j+1,_,z=>t j _ z
end Lp
namespace L2
open PySem PySem.Spec PyProof.Rows
abbrev Cx.noisy (X:Cx):Cx:={X with calm:=false,xe:=λ_ _=>False}
structure RoomQ (k:Nat) (A:Around):Prop where
 dp:A.depth+3*k+5<recursionLimit
 un:A.units+16*k+200<cLine
theorem Room.q {k:Nat} {A:Around} (r:Room k A):RoomQ k A:=⟨r.dp,r.un⟩
theorem RoomQ.mark {k:Nat} {A:Around} (r:RoomQ k A) (e:Option Value):RoomQ k (A.mark e):=⟨r.dp,r.un⟩
theorem RoomQ.deeper {k:Nat} {A:Around} (r:RoomQ (k+1) A) (env:Env):RoomQ k (A.deeper env) :=
 ⟨by have:=r.dp;show A.depth+1+3*k+5<_;lia,by have:=r.un;show A.units+3+16*k+200<_;lia⟩
theorem RoomQ.depth {k:Nat} {A:Around} (r:RoomQ k A):A.depth<recursionLimit:=by have:=r.dp;lia
theorem RoomQ.units {k:Nat} {A:Around} (r:RoomQ k A):A.units+64<cLine:=by have:=r.un;lia
structure FnOkQ (P:Program) (w:World) (K:PySem.W.Frag) (mg:Str->Option Value) (base:Heap) (k:Nat) (f:Addr) (fd:FuncData) (ps:List Str) (sp:Sp):Prop where
 len:∀vs H Q E,sp vs H Q E->vs.length=ps.length
 run:∀(A:Around) (outer:List Env) (s:Shared) (H:Hp) (args:Args) (us:List Value) (vs:List V) (Q:VK) (E:XK),RoomQ k A->Env0 P w K mg base A outer s H->BindsTo s fd args (ps.zip us)->ax vs us->sp vs H Q E ->
  codeAny (model P w) A (.call (.ref f) args) (CR CX0 outer P w H s Q E) s
theorem Ar {P:Program} {w:World} {K:PySem.W.Frag} {mg:Str->Option Value} {base:Heap} {k:Nat} {f:Addr} {name qual:Str} {params:Arguments} {body:List Stmt} {scope:Scope} {dV kV doc pm cdv ct oc:Value} {an od:Option Addr}
  {osl:Array (Option Value)} {N ps:List Str} {sp:Sp} (lk:K.lookup f=some ⟨oc,od,.func (PySem.W.fnOf name qual params body scope dV kV doc pm an cdv ct),osl⟩) (hcd:PySem.W.codeIn K cdv qual=true) (S:FnScope N ps scope)
  (len:∀vs H Q E,sp vs H Q E->vs.length=ps.length)
  (hbody:∀(A:Around) (outer:List Env) (s:Shared) (H:Hp) (vs:List V) (Q:VK) (E:XK),RoomQ k (A.deeper (envOfC qual scope s.heap.objs.size f cdv))->sp vs H Q E ->
   ∃t,PSs (d8 CX0 P w K mg base N qual scope f cdv A outer s H E).noisy body t/\t {nx:=λ_ H'=>Q .non H',rt:=Q} (start N vs) H) :
  FnOkQ P w K mg base (k+1) f (PySem.W.fnOf name qual params body scope dV kV doc pm an cdv ct) ps sp:=by
 refine⟨len,λA outer s H args us vs Q E hr e0 hb r hsp=>?_⟩
 have hl:=len _ _ _ _ hsp
 have KX:K.In s.heap:=e0.mod.kin.keeps λb o e=>(e0.bs b o e).1
 have lim:s.heap.NoLimit:=e0.mod.nolimit.keeps λb o e=>(e0.bs b o e).1
 have hkind:∀y∈ps.zip us,scope.names.lookup y.1=some .local\/(scope.names.lookup y.1=some .cell/\((cellsFrom (s.heap.objs.size+1) scope.names []).lookup y.1).isSome=true):=fun⟨n,v⟩ hy=>by
  rcases S.par n (DW hy).1 with q | q
  ·exact .inl q
  ·exact .inr ⟨q,DI _ _ _ (.inl q)⟩
 refine DN hr.depth (KX _ _ lk) rfl S.co S.gen rfl (DE KX hcd) (hb _ _ _ _ ?_)
 refine CY S.kind hkind λenv he s1 x=>?_
 subst he
 refine⟨lim.keeps x.toInCall.keep,codeAny_func ?_⟩
 obtain⟨t,ht,hq⟩:=hbody A outer s H vs Q E (hr.deeper _) hsp
 have J:Inv (d8 CX0 P w K mg base N qual scope f cdv {A with handled:=none} outer s H E) [] (start N vs) H s1 :=
  il S rfl ⟨e0.frames,e0.mod,e0.bs,e0.bsz,e0.funs,e0.frf,e0.hok,e0.bare⟩ hl r x
 have I:Inv (d8 CX0 P w K mg base N qual scope f cdv A outer s H E).noisy [] (start N vs) H s1 :=
  ⟨⟨J.ok.mod,J.ok.kind,J.ok.glob,J.ok.blt,J.ok.above,J.ok.inj,J.ok.has,J.ok.cab,λz=>(by cases z),FI e0.frames,J.ok.stk,J.ok.exf,J.ok.bs,J.ok.bsz,J.ok.noex,J.ok.exfs,J.ok.funs,J.ok.frf⟩,J.os,J.bare,J.base,J.loc,J.cell,J.free,J.freeC,J.pin,J.hok,J.len⟩
 refine AN (ht [] s1 (start N vs) H _ I hq) (λfl s' hs=>?_) λe s' hs=>False.elim hs
 have fin:∀{σ':St} {H':Hp} {v:V} {u:Value},Inv (d8 CX0 P w K mg base N qual scope f cdv A outer s H E).noisy [] σ' H' s'->RelV v u->Q v H'->CE outer P w H s Q u s' :=
  λ{σ' H' v u} J rv q=>⟨v,H',J.os,J.bare,J.base,J.hok,rv,q⟩
 cases fl with
 | ret u =>
  obtain⟨v,σ',H',J,rv,q⟩:=hs
  exact fin J rv q
 | next =>
  obtain⟨σ',H',J,q⟩:=hs
  exact fin (v:=V.non) (u:=Value.none) J rfl q
 | brk =>
  obtain⟨_,_,_,q⟩:=hs
  exact False.elim q
 | cont =>
  obtain⟨_,_,_,q⟩:=hs
  exact False.elim q
section
variable {X : Cx} {k : Nat} {f : Addr} {fd : FuncData} {ps : List Str} {sp : Sp} {x : Str} {p pos : Pos} {e : Expr} {es : List Expr} {t : TA}
theorem rz (F:FnOkQ X.prog X.w X.K X.mg X.base k f fd ps sp) (hr:RoomQ k X.A) (hg:Gl X x) (hm:X.mg x=some (.ref f)) (hk:PySem.W.keepIn X.K (.ref f)=true) (hb:Binds X.K fd ps [])
  (ha:PA X (e::es) t) (hdb:(x==("__debug__":Str))=false) (he:starEach (e::es) X.env=(false,eval e X.env)::starEach es X.env) (hpl:(backTo pos (starEach es X.env)).any (·.1)=false) :
  PE X (.Call (.Name x p) (e::es) [] pos) (zb sp [] E0 t):=by
 intro pins s σ H Q I h
 refine DD (bw I hg hm ?_ hdb)
 refine EC (h₀:=X.base) I.ok.mod.kin hk (thn (ha pos pins s σ H _ I h) λus s1 ⟨vs,H1,I1,r,q⟩=>⟨I1.kIn,?_⟩) he hpl
 have q:sp vs H1 Q E0:=by simpa using q
 have hl:us.length=ps.length:=by rw[<-r.length];exact F.len _ _ _ _ q
 have hb':=hb s1 us I1.kIn (by rw[CD];exact hl)
 rw[CD]at hb'
 refine FA (DZ (F.run X.A X.stack s1 H1 ⟨us,[]⟩ us vs Q E0 hr I1.env0 hb' r q) λr s' hq=>?_)
 cases r with
 | error ev=>exact False.elim hq
 | ok fl =>
  cases fl with
  | ret u=>exact I1.after hq
  | next=>exact False.elim hq
  | brk=>exact False.elim hq
  | cont=>exact False.elim hq
end
end L2
namespace Lp
open PySem PySem.Spec PyProof.Rows L2
theorem PA.nox {X:Cx} {es:List Expr} {t:TA} (h:PA X.nox es t):PA X es t:=λpos pins s σ H Q I hw=>AN (h pos pins s σ H Q (I.wish _) hw) (λ_ _ ⟨vs,H',I',r,q⟩=>⟨vs,H',I'.unwish,r,q⟩) λ_ _ z=>False.elim z
abbrev XN (K:PySem.W.Frag) (c:Str) (cls:Value):Prop:=PySem.W.nsIn K mainGlobals c=some (some cls)
theorem nv {K:PySem.W.Frag} {c:Str} {a b:Value} (h:XN K c a) (g:XN K c b):a=b:=BL (BL (Eq.trans (Eq.symm h) g))
abbrev EXK:=Value->Hp->Prop
def gz (K:PySem.W.Frag) (ι:List Addr) (H:Hp) (d:D) (μ':Sto) (Q:VK) (EX:EXK):Prop:=match wx d with
 | some (.inl d')=>∀ι' v H',ι <+: ι'->Ext H H'->Sim K ι' H' μ'->IsD K ι' H' d' v->Q v H'
 | some (.inr c)=>∀ι' cls H',ι <+: ι'->Ext H H'->Sim K ι' H' μ'->XN K c cls->EX cls H'
 | none=>False
def xr (K:PySem.W.Frag) (ι:List Addr) (H:Hp) (r:Res D) (Q:VK) (EX:EXK):Prop:=match r with
 | .ok d μ'=>gz K ι H d μ' Q EX
 | .exc _ _ _=>False
 | .stuck=>False
def fg (K:PySem.W.Frag) (ι:List Addr) (H:Hp) (r:Res Fl) (E:Ends) (EX:EXK):Prop:=match r with
 | .ok (.nx σ') μ'=>∀ι' σv H',ι <+: ι'->Ext H H'->Sim K ι' H' μ'->c8 K ι' H' σ' σv->σ'.length=σv.length->E.nx σv H'
 | .ok (.rt d) μ'=>gz K ι H d μ' E.rt EX
 | .ok (.bk _) _=>False
 | .ok (.ct _) _=>False
 | .exc _ _ _=>False
 | .stuck=>False
section
variable {K : PySem.W.Frag} {ι ι' : List Addr} {H H' : Hp} {EX : EXK} {E : Ends} {Q : VK}
theorem gz.mono {d:D} {μ:Sto} (h:gz K ι H d μ Q EX) (hp:ι <+: ι') (he:Ext H H'):gz K ι' H' d μ Q EX:=by
 revert h
 unfold gz
 cases wx d with
 | none=>exact λh=>h
 | some r=>cases r with
  | inl d'=>exact λh ι2 v H2 p e=>h ι2 v H2 (hp.trans p) (he.trans e)
  | inr c=>exact λh ι2 v H2 p e=>h ι2 v H2 (hp.trans p) (he.trans e)
theorem fg.mono {r:Res Fl} (h:fg K ι H r E EX) (hp:ι <+: ι') (he:Ext H H'):fg K ι' H' r E EX:=by
 cases r with
 | ok f μ=>cases f with
  | nx σ=>exact λι2 v H2 p e=>h ι2 v H2 (hp.trans p) (he.trans e)
  | rt d=>exact gz.mono (Q:=E.rt) h hp he
  | bk _=>exact h
  | ct _=>exact h
 | exc _ _ _=>exact h
 | stuck=>exact h
theorem fg.bind {α:Type} {x:Res α} {f:α->Sto->Res Fl} (h:fg K ι H (x.bind f) E EX):∃d μ1,x=.ok d μ1/\fg K ι H (f d μ1) E EX:=by
 cases x with
 | ok d μ=>exact⟨d,μ,rfl,h⟩
 | exc _ _ _=>exact h.elim
 | stuck=>exact h.elim
theorem ll {μ μ2:Sto} {r:Res D} {o:Option Str} (hS:Sim K ι H μ) (e:jl μ.length r=.ok o μ2)
  (h:match o with
   | none=>∀(v:V) ι' H',ι <+: ι'->Ext H H'->Sim K ι' H' μ2->Q v H'
   | some c=>∀ι' cls H',ι <+: ι'->Ext H H'->Sim K ι' H' μ2->XN K c cls->EX cls H'):xr K ι H r Q EX:=by
 cases r with
 | exc _ _ _=>cases e
 | stuck=>cases e
 | ok d μ' =>
  show gz K ι H d μ' Q EX
  unfold gz
  simp![jl]at e
  split at e
  ·rename_i hc
   rw[<-hS.len]at hc e
   cases ed:wx d with
   | none=>rw[ed]at e;cases e
   | some r =>
    rw[ed]at e
    cases r with
    | inl d' =>
     cases e
     exact λι' v H' p x s q=>h v ι H' (AD _) x (s.cut p hc)
    | inr c =>
     cases e
     exact λι' cls H' p x s q=>h ι cls H' (AD _) x (s.cut p hc) q
  ·cases e
end
def tR1 (K:PySem.W.Frag) (φ:Phi) (EX:EXK) (x:Sm):TS:=λE σv H=>∃ι σ μ,Sim K ι H μ/\c8 K ι H σ σv/\σ.length=σv.length/\fg K ι H (evS φ x σ μ) E EX
def tR (K:PySem.W.Frag) (φ:Phi) (EX:EXK) (x:Sms):TS:=λE σv H=>∃ι σ μ,Sim K ι H μ/\c8 K ι H σ σv/\σ.length=σv.length/\fg K ι H (b8 φ x σ μ) E EX
def spX (K:PySem.W.Frag) (φ:Phi) (f:Nat):Sp:=λvs H Q E=>∃ι ds μ,Sim K ι H μ/\af K ι H ds vs/\xr K ι H (φ f ds μ) Q λcls H'=>E cls none H'
def nz (P:Program) (w:World) (K:PySem.W.Frag) (mg:Str->Option Value) (base:Heap) (A:Around) (φ:Phi) (f:Nat) (x:Str):Prop :=
 ∃(k:Nat) (fa:Addr) (fd:FuncData) (ps:List Str),FnOk P w K mg base (CX1 P w) k fa fd ps (spX K φ f)/\Room k A/\mg x=some (.ref fa)/\PySem.W.keepIn K (.ref fa)=true/\Binds K fd ps []
def xall:List Str:=["LampError","BadBook","BadTicks","NoDeed","NoRest","BadRow"]
structure XC (K:PySem.W.Frag) (ad:Str->Addr) (c:Str):Prop where
 at_:XAt K (ad c)
 ex0:ti K (ad c)=true
 ex:c∈xpl->PySem.W.excIn K (ad c) h9 je=true
 sub:PySem.W.subIn K (.ref (ad c)) (.ref (ad "LampError"))=some true
 val:PySem.W.kitOne K (.ref (ad c)) (.type "ValueError")=some true
 kit:∀d∈xall,PySem.W.kitOne K (.ref (ad c)) (.ref (ad d))=some (ia c d)
structure XF (K:PySem.W.Frag) (mg:Str->Option Value):Prop where
 of:∃ad:Str->Addr,(∀c∈xall,XN K c (.ref (ad c))/\mg c=some (.ref (ad c)))/\PySem.W.excIn K (ad "LampError") h9 je=true/\∀c∈xcls,XC K ad c
theorem dg {c:Str} (h:c∈xcls):c∈xall:=by
 simp![xcls,xall,AJ,BY,or_false]at h ⊢
 rcases h with rfl | rfl | rfl | rfl | rfl<;>simp
theorem xu {c:Str} (h:c∈xpl):c∈xcls:=by
 simp![xpl,xcls,AJ,BY,or_false]at h ⊢
 rcases h with rfl | rfl | rfl | rfl<;>simp
section
variable {X : Cx} {φ : Phi} {e : Expr} {es : List Expr} {x : Ex} {xes : Exs} {pos cpos epos np p : Pos} {s : Stmt} {ss : List Stmt} {xs : Sm} {xss : Sms} {EX : EXK}
theorem g0:PSs X [] (tR X.K φ EX .nil) :=
 PSs.imp l9 λE σv H ⟨ι,σ,μ,hS,hL,hl,h⟩=>by
  simp![b8]at h
  exact h ι σv H (AD _) (.refl _) hS hL hl
theorem dh (h1:PS X s (tR1 X.K φ EX xs)) (h2:PSs X ss (tR X.K φ EX xss)):PSs X (s::ss) (tR X.K φ EX (.cons xs xss)) :=
 PSs.imp (jz h1 h2) λE σv H ⟨ι,σ,μ,hS,hL,hl,h⟩=>by
  simp![b8]at h
  refine⟨ι,σ,μ,hS,hL,hl,?_⟩
  obtain⟨f,μ1,e1,h⟩:=h.bind
  rw[e1]
  cases f with
  | nx σ'=>exact λι1 σ1 H1 p1 x1 s1 l1 z1=>⟨ι1,σ',μ1,s1,l1,z1,(show fg _ _ _ (b8 φ xss σ' μ1) _ _ from h).mono p1 x1⟩
  | rt d=>exact h
  | bk σ'=>exact h
  | ct σ'=>exact h
theorem Cd {c:Expr} {xc:Ex} {a b:List Stmt} {xa xb:Sms} (hc:PT X.nox c (tT X.K φ xc)) (ha:PSs X a (tR X.K φ EX xa)) (hb:PSs X b (tR X.K φ EX xb)):PS X (.If c a b pos) (tR1 X.K φ EX (.ite xc xa xb)) :=
 PS.imp (yz (PT.nox hc) ha hb) λE σv H ⟨ι,σ,μ,hS,hL,hl,h⟩=>by
  simp![evS]at h
  obtain⟨d,μ1,e1,h⟩:=h.bind
  refine⟨ι,σ,μ,hS,hL,?_⟩
  rw[e1]
  cases d with
  | bl k =>
   intro ι1 x H1 p1 x1 s1 d1
   cases d1
   cases k with
   | true=>exact⟨ι1,σ,μ1,s1,hL.mono p1 x1,hl,(show fg _ _ _ (b8 φ xa σ μ1) _ _ from h).mono p1 x1⟩
   | false=>exact⟨ι1,σ,μ1,s1,hL.mono p1 x1,hl,(show fg _ _ _ (b8 φ xb σ μ1) _ _ from h).mono p1 x1⟩
  | _=>exact h.elim
theorem g4 {c:Str} (xf:XF X.K X.mg) (W:jk X EX) (ha:PA X.nox (e::es) (tEs X.K φ xes)) (hcp:c∈xpl:=by decide) (hx:X.ex=[]:=by rfl) (hc:X.calm=true:=by rfl) (hg:Gl X c:=by rfl) (hln:xes.len<=1000:=by decide)
  (hdb:(c==("__debug__":Str))=false:=by decide) (he:starEach (e::es) X.env=(false,eval e X.env)::starEach es X.env:=by rfl) (hpl:(backTo cpos (starEach es X.env)).any (·.1)=false:=by rfl) :
  PS X (.Raise (some (.Call (.Name c np) (e::es) [] cpos)) none pos) (tR1 X.K φ EX (.raise c xes)):=by
 obtain⟨ad,h1,h2,h3⟩:=xf.of
 have hcx:=xu hcp
 refine PS.imp (qt W hx hc ((h3 c hcx).ex hcp) hg (h1 c (dg hcx)).2 (PA.nox ha) hdb he hpl) λD σv H ⟨ι,σ,μ,hS,hL,hl,h⟩=>?_
 simp![evS]at h
 obtain⟨ds,μ1,e1,h⟩:=h.bind
 refine⟨ι,σ,μ,hS,hL,?_⟩
 have hlen:=d7 e1
 rw[e1]
 exact λι1 vs H1 p1 x1 s1 d1=>⟨by rw[d1.length,hlen];exact DH (ir hln),h ι1 (.ref (ad c)) H1 p1 x1 s1 (h1 c (dg hcx)).1⟩
theorem As {f ei:Nat} {y n:Str} {yp hp:Pos} {b0:Stmt} {body:List Stmt} (xf:XF X.K X.mg) (C:nz X.prog X.w X.K X.mg X.base X.A φ f y) (ha:PA X.nox (e::es) (tEs X.K φ xes)) (hbody:∀ev,PSs (X.mark ev) (b0::body) (tSs X.K φ xss))
  (hN:ndB X.N=true:=by rfl) (hni:X.N[ei]? = some n:=by rfl) (hkn:X.env.scope.names.lookup n=some .local:=by rfl) (hst:X.stack=X.env::X.outer:=by rfl) (hfr:X.env.frame=some X.env.locals:=by rfl) (hg:Gl X y:=by rfl) (hgL:Gl X "LampError":=by rfl) (hdb:(y==("__debug__":Str))=false:=by decide)
  (he:starEach (e::es) X.env=(false,eval e X.env)::starEach es X.env:=by rfl) (hpl:(backTo cpos (starEach es X.env)).any (·.1)=false:=by rfl) (hs:swapsWith (.Call (.Name y p) (e::es) [] cpos) none epos.line X.env=pure false:=by rfl) :
  PS X (.Try [.Expr (.Call (.Name y p) (e::es) [] cpos) epos] [.ExceptHandler (some (.Name "LampError" yp)) (some n) (b0::body) hp] [] [] pos) (tS X.K φ (.tryc f xes ei xss)):=by
 obtain⟨k,fa,fd,ps,F,hr,hm,hk,hb⟩:=C
 obtain⟨ad,h1,h2,h3⟩:=xf.of
 refine PS.imp (we hst hfr F hr hg hm hk hb ha hgL (h1 "LampError" (by simp[xall])).2 (j4 hN) hni hkn hbody hdb he hpl hs) λD σv H ⟨ι,σ,μ,hS,hL,hl,h⟩=>?_
 simp![evS]at h
 obtain⟨ds,μ1,e1,h⟩:=h.bind
 obtain⟨o,μ2,e2,h⟩:=h.bind
 refine⟨ι,σ,μ,hS,hL,?_⟩
 rw[e1]
 intro ι1 vs H1 p1 x1 s1 d1
 refine⟨ι1,ds,μ1,s1,d1,ll s1 e2 ?_⟩
 cases o with
 | none=>exact λv ι2 H2 p2 x2 s2=>h ι2 σv H2 (p1.trans p2) (x1.trans x2) s2 ((hL.mono p1 x1).mono p2 x2) hl
 | some c =>
  intro ι2 cls H2 p2 x2 s2 hc
  simp![Cb]at h
  split at h
  ·rename_i hcx
   have hmem:c∈xcls:=FG.mp hcx
   have ec:cls=.ref (ad c):=nv hc (h1 c (dg hmem)).1
   refine⟨⟨ad c,ec,(h3 c hmem).ex0,wd h2,(h3 c hmem).sub⟩,λe he=>?_⟩
   have pp:ι2 <+: ι2++[e]:=⟨[e],rfl⟩
   have hl2:c8 X.K (ι2++[e]) (upd H2 e (B7 e cls)) σ σv:=(((hL.mono p1 x1).mono p2 x2).mono pp (.new he))
   refine⟨ι2++[e],σ.set ei (some (.loc μ2.length)),μ2++[.x c],s2.push (o:=.x c) he ⟨cls,hc,bb⟩,hl2.set hl ?_,by simp[hl],?_⟩
   ·simp![IsD]
    exact⟨e,rfl,by rw[<-s2.len];simp⟩
   ·obtain⟨fl,μ3,e3,h⟩:=h.bind
    rw[e3]
    cases fl with
    | nx σ' =>
     intro ι4 σv4 H4 p4 x4 s4 l4 z4
     refine h ι4 (σv4.set ei none) H4 (((p1.trans p2).trans pp).trans p4) (((x1.trans x2).trans (.new he)).trans x4) s4 (λj d ej=>?_) (by simp[z4])
     by_cases hj:ei=j
     ·subst hj
      by_cases hi:ei<σ'.length
      ·rw[AT hi]at ej;cases ej
      ·rw[CQ (by simp;lia)]at ej;cases ej
     ·rw[AL hj]at ej
      obtain⟨v,q1,q2⟩:=l4 j d ej
      exact⟨v,by rw[AL hj];exact q1,q2⟩
    | rt d=>exact h.elim
    | bk σ'=>exact h.elim
    | ct σ'=>exact h.elim
  ·exact h.elim
theorem n8 {cn:Str} {v2:V} (f:∀(k:Str) (cls:Value),k∈xcls->XN X.K k cls->∃C,cls=.ref C/\XAt X.K C/\∃u,RelV v2 u/\(∀u',RelV v2 u'->u'=u)/\PySem.W.kitOne X.K (.ref C) u=some (ia k cn)) :
  dz X (.builtin "isinstance") (λxs H Q=>∃ι d μ v,xs=[v,v2]/\Sim X.K ι H μ/\IsD X.K ι H d v/\cy X.K (RD X.K) ι H (qz (.own cn) d μ) Q):=by
 intro pins s σ H xs us Q I r ⟨ι,d,μ,v,e,hS,hd,h⟩
 subst e
 obtain⟨u,w,rfl,ru,rw'⟩:=vals2 r
 cases d with
 | loc n =>
  simp![qz]at h
  split at h
  ·rename_i k em
   split at h
   ·rename_i hk
    obtain⟨a,ea,cls,hc,hH⟩:=hS.at em
    obtain⟨a',ev,ea'⟩:∃a,v=.ref a/\ι[n]? = some a:=by simpa[IsD]using hd
    rw[ea]at ea';cases ea'
    subst ev
    cases(show u=Value.ref a from ru)
    obtain⟨C,rfl,hat,u2,r2,uni,hkit⟩:=f k cls (FG.mp hk) hc
    cases uni w rw'
    have ob:=(I.hok a _ hH).1
    exact CF (qw hat) I.kIn ob hkit (λz=>nomatch z) λtk=>⟨.bl (ia k cn),H,I.tok tk,rfl,h.ok hS (by simp[IsD])⟩
   ·exact h.elim
  ·exact h.elim
 | _=>exact h.elim
theorem iz {cn:Str} {p cp:Pos} {a:Expr} {xa:Ex} (xf:XF X.K X.mg) (hmi:X.mg "isinstance"=none) (ha:PE X a (tE X.K φ xa)) (hcn:cn∈xall:=by decide) (hgi:Gl X "isinstance":=by rfl) (hgc:Gl X cn:=by rfl) (hd:(cn==("__debug__":Str))=false:=by decide)
  (hs:starEach [a,.Name cn cp] X.env=(false,eval a X.env)::starEach [.Name cn cp] X.env:=by rfl):PE X (.Call (.Name "isinstance" p) [a,.Name cn cp] [] pos) (tE X.K φ (.isi xa (.own cn))):=by
 obtain⟨ad,h1,h2,h3⟩:=xf.of
 have hb:PE X (.Name cn cp) (tC (.ref (ad cn))):=vu hgc (h1 cn hcn).2 rfl hd
 refine PE.imp (gj (n8 (cn:=cn) (v2:=.ref (ad cn)) λk cls hk hc=>?_) hgi hmi FF (cz ha (cz hb j0) hs) (by decide) (by decide) hs) λσv H Q ⟨ι,σ,μ,hS,hL,h⟩=>?_
 ·exact⟨ad k,nv hc (h1 k (dg hk)).1,(h3 k hk).at_,.ref (ad cn),rfl,λu' q=>q,(h3 k hk).kit cn hcn⟩
 ·simp![evE]at h
  obtain⟨d,μ1,e1,h⟩:=h.bind
  refine⟨ι,σ,μ,hS,hL,?_⟩
  rw[e1]
  exact λι1 v H1 p1 x1 s1 d1=>⟨ι1,d,μ1,v,rfl,s1,d1,h.mono p1 x1⟩
theorem Au {p cp:Pos} {a:Expr} {xa:Ex} (xf:XF X.K X.mg) (hmi:X.mg "isinstance"=none) (hmv:X.mg "ValueError"=none) (ha:PE X a (tE X.K φ xa)) (hgi:Gl X "isinstance":=by rfl) (hgc:Gl X "ValueError":=by rfl)
  (hbc:bootBuiltins "ValueError"=some (.type "ValueError"):=by first | boot_by_name | rfl | kernel_rfl) (hs:starEach [a,.Name "ValueError" cp] X.env=(false,eval a X.env)::starEach [.Name "ValueError" cp] X.env:=by rfl) :
  PE X (.Call (.Name "isinstance" p) [a,.Name "ValueError" cp] [] pos) (tE X.K φ (.isi xa (.own "ValueError"))):=by
 obtain⟨ad,h1,h2,h3⟩:=xf.of
 have hb:PE X (.Name "ValueError" cp) (tC (.ty "ValueError")):=l8 hgc hmv hbc rfl (by decide) (by decide)
 refine PE.imp (gj (n8 (cn:="ValueError") (v2:=.ty "ValueError") λk cls hk hc=>?_) hgi hmi FF (cz ha (cz hb j0) hs) (by decide) (by decide) hs) λσv H Q ⟨ι,σ,μ,hS,hL,h⟩=>?_
 ·exact⟨ad k,nv hc (h1 k (dg hk)).1,(h3 k hk).at_,.type "ValueError",rfl,λu' q=>q,by rw[(h3 k hk).val];simp[ia]⟩
 ·simp![evE]at h
  obtain⟨d,μ1,e1,h⟩:=h.bind
  refine⟨ι,σ,μ,hS,hL,?_⟩
  rw[e1]
  exact λι1 v H1 p1 x1 s1 d1=>⟨ι1,d,μ1,v,rfl,s1,d1,h.mono p1 x1⟩
end
def fh (P:Program) (w:World) (K:PySem.W.Frag) (mg:Str->Option Value) (base:Heap) (A:Around) (φ:Phi) (f:Nat) (x:Str):Prop :=
 ∃(k:Nat) (fa:Addr) (fd:FuncData) (ps:List Str),FnOkQ P w K mg base k fa fd ps (spD K φ f)/\RoomQ k A/\mg x=some (.ref fa)/\PySem.W.keepIn K (.ref fa)=true/\Binds K fd ps []
theorem fh.mark {P:Program} {w:World} {K:PySem.W.Frag} {mg:Str->Option Value} {base:Heap} {A:Around} {φ:Phi} {f:Nat} {x:Str} (C:fh P w K mg base A φ f x) (e:Option Value):fh P w K mg base (A.mark e) φ f x:=by
 obtain⟨k,fa,fd,ps,F,hr,r⟩:=C
 exact⟨k,fa,fd,ps,F,hr.mark e,r⟩
theorem xw {X:Cx} {φ:Phi} {x:Str} {p pos:Pos} {e:Expr} {es:List Expr} {xs:Exs} {f:Nat} {keep:Bool} (C:fh X.prog X.w X.K X.mg X.base X.A φ f x) (ha:PA X (e::es) (tEs X.K φ xs)) (hg:Gl X x:=by rfl) (hdb:(x==("__debug__":Str))=false:=by decide)
  (he:starEach (e::es) X.env=(false,eval e X.env)::starEach es X.env:=by rfl) (hpl:(backTo pos (starEach es X.env)).any (·.1)=false:=by rfl):PE X (.Call (.Name x p) (e::es) [] pos) (tE X.K φ (.call keep f xs)):=by
 obtain⟨k,fa,fd,ps,F,hr,hm,hk,hb⟩:=C
 refine PE.imp (rz F hr hg hm hk hb ha hdb he hpl) λσv H Q ⟨ι,σ,μ,hS,hL,h⟩=>?_
 simp![evE]at h
 obtain⟨ds,μ1,e1,h⟩:=h.bind
 refine⟨ι,σ,μ,hS,hL,?_⟩
 rw[e1]
 intro ι1 vs H1 p1 x1 s1 d1
 exact⟨ι1,ds,μ1,s1,by rw[CD];exact d1,iy s1 (h.mono p1 x1)⟩
theorem i0 {K:PySem.W.Frag} {ι:List Addr} {H:Hp} {ds:List D} {vs:List V} {N:List Str} {nn np:Nat} (hds:af K ι H ds vs) (hl:ds.length=np) (hnn:nn=N.length) (hnp:np<=nn) :
  c8 K ι H (ds.map some++List.replicate (nn-np) none) (L2.start N vs)/\(ds.map some++List.replicate (nn-np) none).length=(L2.start N vs).length:=by
 refine⟨λi d e=>?_,?_⟩
 ·by_cases hi:i<ds.length
  ·rw[AG (by simpa using hi),BH]at e
   cases ed:ds[i]? with
   | none=>rw[ed]at e;cases e
   | some d' =>
    rw[ed]at e
    simp![DY,BI]at e
    subst e
    obtain⟨v,ev,hv⟩:=hds.get ed
    refine⟨v,?_,hv⟩
    unfold L2.start
    rw[AG (by rw[BU,hds.length];exact hi),BH,ev]
    rfl
  ·rw[BA (by simpa using hi),BM]at e
   split at e<;>cases e
 ·unfold L2.start
  simp![BR,BU,DM,hds.length]
  lia
section
variable {P : Program} {w : World} {K : PySem.W.Frag} {mg : Str -> Option Value} {base : Heap} {x qual : Str} {st : Stmt} {fa : Addr} {fd : FuncData} {N ps : List Str} {n f : Nat} {T : List Df} {df : Df}
theorem r6 (F:Fun K x qual st fa fd) (S:FnScope N ps (aa st)) (hd:T[f]? = some df) (hnp:df.np=ps.length) (hnn:df.nn=N.length)
  (hb:∀(cdv:Value) (A:Around) (outer:List Env) (s:Shared) (H:Hp) (E:XK),Room n (A.deeper (envOfC qual (aa st) s.heap.objs.size fa cdv)) ->
   PSs (d8 (CX1 P w) P w K mg base N qual (aa st) fa cdv A outer s H E) (au st) (tR K (ai T n) (λcls H'=>E cls none H') df.body)):FnOk P w K mg base (CX1 P w) (n+1) fa fd ps (spX K (ai T (n+1)) f):=by
 have len:∀{vs:List V} {H:Hp} {ds:List D} {ι:List Addr} {μ:Sto} {Q:VK} {EX:EXK},af K ι H ds vs->xr K ι H (ai T (n+1) f ds μ) Q EX->ds.length=df.np:=λ{vs H ds ι μ Q EX} hds h=>by
  simp![ai,hd,qg]at h
  split at h
  ·assumption
  ·exact h.elim
 have hle:df.np<=df.nn:=by rw[hnp,hnn];have:=congrArg List.length S.pre;rw[DR]at this;lia
 obtain⟨oc,od,kV,doc,pm,an,cdv,ct,osl,rfl,lk,hcd⟩:=F.ex
 refine zd lk hcd S (λvs H Q E ⟨ι,ds,μ,hS,hds,h⟩=>?_) λA outer s H vs Q E hr ⟨ι,ds,μ,hS,hds,h⟩=>⟨_,hb cdv A outer s H E hr,?_⟩
 ·rw[hds.length,len hds h,hnp]
 ·have hl:=len hds h
  obtain⟨z1,z2⟩:=i0 hds hl hnn hle
  refine⟨ι,ds.map some++List.replicate (df.nn-df.np) none,μ,hS,z1,z2,?_⟩
  simp![ai,hd,qg,if_pos hl]at h
  cases er:b8 (ai T n) df.body (ds.map some++List.replicate (df.nn-df.np) none) μ with
  | exc c es μ'=>rw[er]at h;exact h.elim
  | stuck=>rw[er]at h;exact h.elim
  | ok fl μ' =>
   rw[er]at h
   simp![Res.az]at h
   cases fl with
   | nx σ'=>exact λι' σv H' p e s' l z=>h ι' .non H' p e s' (by simp[IsD])
   | rt d=>exact h
   | bk σ'=>exact h.elim
   | ct σ'=>exact h.elim
theorem r8 (F:Fun K x qual st fa fd) (S:FnScope N ps (aa st)) (hd:T[f]? = some df) (hnp:df.np=ps.length) (hnn:df.nn=N.length)
  (hb:∀(cdv:Value) (A:Around) (outer:List Env) (s:Shared) (H:Hp) (E:XK),RoomQ n (A.deeper (envOfC qual (aa st) s.heap.objs.size fa cdv)) ->
   PSs (d8 CX0 P w K mg base N qual (aa st) fa cdv A outer s H E).noisy (au st) (tSs K (ai T n) df.body)):FnOkQ P w K mg base (n+1) fa fd ps (spD K (ai T (n+1)) f):=by
 have len:∀{vs:List V} {H:Hp} {ds:List D} {ι:List Addr} {μ:Sto} {Q:VK},af K ι H ds vs->cy K (RD K) ι H (ai T (n+1) f ds μ) Q->ds.length=df.np:=λ{vs H ds ι μ Q} hds h=>by
  simp![ai,hd,qg]at h
  split at h
  ·assumption
  ·exact h.elim
 have hle:df.np<=df.nn:=by rw[hnp,hnn];have:=congrArg List.length S.pre;rw[DR]at this;lia
 obtain⟨oc,od,kV,doc,pm,an,cdv,ct,osl,rfl,lk,hcd⟩:=F.ex
 refine Ar lk hcd S (λvs H Q E ⟨ι,ds,μ,hS,hds,h⟩=>?_) λA outer s H vs Q E hr ⟨ι,ds,μ,hS,hds,h⟩=>⟨_,hb cdv A outer s H E hr,?_⟩
 ·rw[hds.length,len hds h,hnp]
 ·have hl:=len hds h
  obtain⟨z1,z2⟩:=i0 hds hl hnn hle
  refine⟨ι,ds.map some++List.replicate (df.nn-df.np) none,μ,hS,z1,z2,?_⟩
  simp![ai,hd,qg,if_pos hl]at h
  cases er:b8 (ai T n) df.body (ds.map some++List.replicate (df.nn-df.np) none) μ with
  | exc c es μ'=>rw[er]at h;exact h.elim
  | stuck=>rw[er]at h;exact h.elim
  | ok fl μ' =>
   rw[er]at h
   simp![Res.az]at h
   cases fl with
   | nx σ'=>exact λι' σv H' p e s' l z=>h ι' .non H' p e s' (by simp[IsD])
   | rt d=>exact λι' v H' p e s' q=>h ι' v H' p e s' q
   | bk σ'=>exact h.elim
   | ct σ'=>exact h.elim
end
theorem r9 {P:Program} {w:World} {K:PySem.W.Frag} {mg:Str->Option Value} {base:Heap} {fa:Addr} {fd:FuncData} {ps:List Str} {f:Nat} {T:List Df}:FnOk P w K mg base (CX1 P w) 0 fa fd ps (spX K (ai T 0) f) :=
 ⟨λvs H Q E ⟨ι,ds,μ,hS,hds,h⟩=>h.elim,λA outer s H args us vs Q E hr he hb hv ⟨ι,ds,μ,hS,hds,h⟩=>h.elim⟩
theorem sd {P:Program} {w:World} {K:PySem.W.Frag} {mg:Str->Option Value} {base:Heap} {fa:Addr} {fd:FuncData} {ps:List Str} {f:Nat} {T:List Df}:FnOkQ P w K mg base 0 fa fd ps (spD K (ai T 0) f) :=
 ⟨λvs H Q E ⟨ι,ds,μ,hS,hds,h⟩=>h.elim,λA outer s H args us vs Q E hr he hb hv ⟨ι,ds,μ,hS,hds,h⟩=>h.elim⟩
structure DerB (T:List Df) (e:Ent):Prop where
 sc:FnScope e.N e.ps (aa e.st)
 tb:T[e.id]? = some e.df
 np:e.df.np=e.ps.length
 nn:e.df.nn=e.N.length
section
variable (T : List Df) (P : Program) (w : World) (K : PySem.W.Frag) (mg : Str -> Option Value) (base : Heap) (es xs qs : List Ent)
abbrev Cs (A:Around) (n:Nat):Prop:=∀(j:Nat) e',es[j]? = some e'->Callee P w K mg base A (ai T n) e'.id e'.name
abbrev CsX (A:Around) (n:Nat):Prop:=∀(j:Nat) e',xs[j]? = some e'->nz P w K mg base A (ai T n) e'.id e'.name
abbrev CsQ (A:Around) (n:Nat):Prop:=∀(j:Nat) e',qs[j]? = some e'->fh P w K mg base A (ai T n) e'.id e'.name
structure DerP (e:Ent):Prop extends DerB T e where
 dv:∀(n:Nat) (fa:Addr) (cdv:Value) (A:Around) (outer:List Env) (s:Shared) (H:Hp) (E:XK),(A.deeper (envOfC e.name (aa e.st) s.heap.objs.size fa cdv)).units+64<cLine ->
  Cs T P w K mg base es (A.deeper (envOfC e.name (aa e.st) s.heap.objs.size fa cdv)) n->CsX T P w K mg base xs (A.deeper (envOfC e.name (aa e.st) s.heap.objs.size fa cdv)) n->CsQ T P w K mg base qs (A.deeper (envOfC e.name (aa e.st) s.heap.objs.size fa cdv)) n ->
  PSs (d8 CX0 P w K mg base e.N e.name (aa e.st) fa cdv A outer s H E).nox (au e.st) (tSs K (ai T n) e.df.body)
structure DerX (e:Ent):Prop extends DerB T e where
 dv:∀(n:Nat) (fa:Addr) (cdv:Value) (A:Around) (outer:List Env) (s:Shared) (H:Hp) (E:XK),(A.deeper (envOfC e.name (aa e.st) s.heap.objs.size fa cdv)).units+64<cLine ->
  Cs T P w K mg base es (A.deeper (envOfC e.name (aa e.st) s.heap.objs.size fa cdv)) n->CsX T P w K mg base xs (A.deeper (envOfC e.name (aa e.st) s.heap.objs.size fa cdv)) n->CsQ T P w K mg base qs (A.deeper (envOfC e.name (aa e.st) s.heap.objs.size fa cdv)) n ->
  jk (d8 (CX1 P w) P w K mg base e.N e.name (aa e.st) fa cdv A outer s H E) (λcls H'=>E cls none H') ->
  PSs (d8 (CX1 P w) P w K mg base e.N e.name (aa e.st) fa cdv A outer s H E) (au e.st) (tR K (ai T n) (λcls H'=>E cls none H') e.df.body)
structure DerQ (e:Ent):Prop extends DerB T e where
 dv:∀(n:Nat) (fa:Addr) (cdv:Value) (A:Around) (outer:List Env) (s:Shared) (H:Hp) (E:XK),(A.deeper (envOfC e.name (aa e.st) s.heap.objs.size fa cdv)).units+64<cLine ->
  CsQ T P w K mg base qs (A.deeper (envOfC e.name (aa e.st) s.heap.objs.size fa cdv)) n ->
  PSs (d8 CX0 P w K mg base e.N e.name (aa e.st) fa cdv A outer s H E).noisy (au e.st) (tSs K (ai T n) e.df.body)
end
section
variable {T : List Df} {P : Program} {w : World} {K : PySem.W.Frag} {mg : Str -> Option Value} {base : Heap} {es xs qs : List Ent}
abbrev yi (K:PySem.W.Frag) (mg:Str->Option Value) (es:List Ent):Prop:=∀(j:Nat) e,es[j]? = some e->ModOf K mg e
theorem all2 (M:yi K mg es) (MX:yi K mg xs) (MQ:yi K mg qs) (Dv:∀(j:Nat) e,es[j]? = some e->DerP T P w K mg base es xs qs e) (DX:∀(j:Nat) e,xs[j]? = some e->DerX T P w K mg base es xs qs e) (DQ:∀(j:Nat) e,qs[j]? = some e->DerQ T P w K mg base qs e):∀(n:Nat),
  (∀(j:Nat) e,es[j]? = some e->∀(fa:Addr) (fd:FuncData),mg e.name=some (.ref fa)->Fun K e.name e.name e.st fa fd->FnOk P w K mg base CX0 n fa fd e.ps (spD K (ai T n) e.id)) /\
  (∀(j:Nat) e,xs[j]? = some e->∀(fa:Addr) (fd:FuncData),mg e.name=some (.ref fa)->Fun K e.name e.name e.st fa fd->FnOk P w K mg base (CX1 P w) n fa fd e.ps (spX K (ai T n) e.id)) /\
  (∀(j:Nat) e,qs[j]? = some e->∀(fa:Addr) (fd:FuncData),mg e.name=some (.ref fa)->Fun K e.name e.name e.st fa fd->FnOkQ P w K mg base n fa fd e.ps (spD K (ai T n) e.id))
 | 0=>⟨λj e _ fa fd _ _=>xn,λj e _ fa fd _ _=>r9,λj e _ fa fd _ _=>sd⟩
 | n+1=>by
  obtain⟨ih,ihX,ihQ⟩:=all2 M MX MQ Dv DX DQ n
  have cs:∀{A:Around},Room n A->Cs T P w K mg base es A n:=λ{A} hr i e' he'=>by
   obtain⟨fa',fd',hm',hF',hb'⟩:=(M i e' he').ex
   exact⟨n,fa',fd',e'.ps,ih i e' he' fa' fd' hm' hF',hr,hm',hF'.kp,.all hb'⟩
  have cx:∀{A:Around},Room n A->CsX T P w K mg base xs A n:=λ{A} hr i e' he'=>by
   obtain⟨fa',fd',hm',hF',hb'⟩:=(MX i e' he').ex
   exact⟨n,fa',fd',e'.ps,ihX i e' he' fa' fd' hm' hF',hr,hm',hF'.kp,.all hb'⟩
  have cq:∀{A:Around},RoomQ n A->CsQ T P w K mg base qs A n:=λ{A} hr i e' he'=>by
   obtain⟨fa',fd',hm',hF',hb'⟩:=(MQ i e' he').ex
   exact⟨n,fa',fd',e'.ps,ihQ i e' he' fa' fd' hm' hF',hr,hm',hF'.kp,.all hb'⟩
  refine⟨λj e he fa fd hm hF=>?_,λj e he fa fd hm hF=>?_,λj e he fa fd hm hF=>?_⟩
  ·have d:=Dv j e he
   exact xm hF d.sc d.tb d.np d.nn λcdv A outer s H E hr=>d.dv n fa cdv A outer s H E hr.units (cs hr) (cx hr) (cq hr.q)
  ·have d:=DX j e he
   exact r6 hF d.sc d.tb d.np d.nn λcdv A outer s H E hr=>d.dv n fa cdv A outer s H E hr.units (cs hr) (cx hr) (cq hr.q) qr
  ·have d:=DQ j e he
   exact r8 hF d.sc d.tb d.np d.nn λcdv A outer s H E hr=>d.dv n fa cdv A outer s H E hr.units (cq hr)
theorem se {n j:Nat} {e:Ent} {fa:Addr} (M:yi K mg es) (MX:yi K mg xs) (MQ:yi K mg qs)
  (Dv:∀(base:Heap) (j:Nat) e,es[j]? = some e->DerP T P w K mg base es xs qs e) (DX:∀(base:Heap) (j:Nat) e,xs[j]? = some e->DerX T P w K mg base es xs qs e) (DQ:∀(base:Heap) (j:Nat) e,qs[j]? = some e->DerQ T P w K mg base qs e)
  (he:es[j]? = some e) (hfa:mg e.name=some (.ref fa)) (hps:e.ps=[("script":Str)])
  (hlaw:∀ns:List Int,ns.length<=63->∃μ',ai T n e.id [.lst (ns.map D.int)] []=.ok (.bl true) μ') :
  ∃fd:FuncData,(∀(s:Shared) (v:Value),BindsTo s fd ⟨[v],[]⟩ [("script",v)])/\∀base:Heap,K.In base->base.Ns mainGlobals mg->FnOk P w K mg base CX0 n fa fd ["script"] (rk K):=by
 obtain⟨fa',fd,hm,hF,hb⟩:=(M j e he).ex
 have z:=hfa.symm.trans hm
 cases z
 rw[hps]at hb
 refine⟨fd,λs v=>.of_eq (hb [v] rfl),λbase _ _=>?_⟩
 have q:=((all2 M MX MQ (Dv base) (DX base) (DQ base) n).1 j e he fa fd hm hF).imp (sp':=rk K) λvs H Q E ⟨a,ns,ev,hS,hl,q⟩=>by
  subst ev
  obtain⟨μ',el⟩:=hlaw ns hl
  refine⟨[],[.lst (ns.map D.int)],[],⟨rfl,List.nodup_nil,λn a o e1 e2=>by simp at e1⟩,?_,?_⟩
  ·simp![af,IsD]
   exact⟨.ref a,[],rfl,⟨a,_,rfl,hS,af.ints ns⟩,rfl⟩
  ·rw[el]
   intro ι' v H' p x s' d
   have ev:v=.bl true:=by simpa[IsD]using d
   subst ev
   exact q H'
 rw[hps]at q
 exact q
end
section
variable {T : List Df} {P : Program} {w : World} {K : PySem.W.Frag} {mg : Str -> Option Value} {base : Heap} {es xs qs : List Ent} {e : Ent}
theorem Ce (dv:∀(n:Nat) (fa:Addr) (cdv:Value) (A:Around) (outer:List Env) (s:Shared) (H:Hp) (E:XK),(A.deeper (envOfC e.name (aa e.st) s.heap.objs.size fa cdv)).units+64<cLine ->
  Cs T P w K mg base es (A.deeper (envOfC e.name (aa e.st) s.heap.objs.size fa cdv)) n->CsX T P w K mg base xs (A.deeper (envOfC e.name (aa e.st) s.heap.objs.size fa cdv)) n->CsQ T P w K mg base qs (A.deeper (envOfC e.name (aa e.st) s.heap.objs.size fa cdv)) n ->
  PSs (d8 CX0 P w K mg base e.N e.name (aa e.st) fa cdv A outer s H E).nox (au e.st) (tSs K (ai T n) e.df.body))
  (b:DerB T e:=by exact⟨⟨rfl,rfl,rfl,by decide +kernel,rfl,by decide +kernel,by decide +kernel⟩,rfl,rfl,rfl⟩):DerP T P w K mg base es xs qs e:=⟨b,dv⟩
theorem Gg (dv:∀(n:Nat) (fa:Addr) (cdv:Value) (A:Around) (outer:List Env) (s:Shared) (H:Hp) (E:XK),(A.deeper (envOfC e.name (aa e.st) s.heap.objs.size fa cdv)).units+64<cLine ->
  Cs T P w K mg base es (A.deeper (envOfC e.name (aa e.st) s.heap.objs.size fa cdv)) n->CsX T P w K mg base xs (A.deeper (envOfC e.name (aa e.st) s.heap.objs.size fa cdv)) n->CsQ T P w K mg base qs (A.deeper (envOfC e.name (aa e.st) s.heap.objs.size fa cdv)) n ->
  jk (d8 (CX1 P w) P w K mg base e.N e.name (aa e.st) fa cdv A outer s H E) (λcls H'=>E cls none H') ->
  PSs (d8 (CX1 P w) P w K mg base e.N e.name (aa e.st) fa cdv A outer s H E) (au e.st) (tR K (ai T n) (λcls H'=>E cls none H') e.df.body))
  (b:DerB T e:=by exact⟨⟨rfl,rfl,rfl,by decide +kernel,rfl,by decide +kernel,by decide +kernel⟩,rfl,rfl,rfl⟩):DerX T P w K mg base es xs qs e:=⟨b,dv⟩
theorem Gh (dv:∀(n:Nat) (fa:Addr) (cdv:Value) (A:Around) (outer:List Env) (s:Shared) (H:Hp) (E:XK),(A.deeper (envOfC e.name (aa e.st) s.heap.objs.size fa cdv)).units+64<cLine ->
  CsQ T P w K mg base qs (A.deeper (envOfC e.name (aa e.st) s.heap.objs.size fa cdv)) n ->
  PSs (d8 CX0 P w K mg base e.N e.name (aa e.st) fa cdv A outer s H E).noisy (au e.st) (tSs K (ai T n) e.df.body))
  (b:DerB T e:=by exact⟨⟨rfl,rfl,rfl,by decide +kernel,rfl,by decide +kernel,by decide +kernel⟩,rfl,rfl,rfl⟩):DerQ T P w K mg base qs e:=⟨b,dv⟩
structure XQ (K:PySem.W.Frag) (aL aB aT aD aR aW a:Addr) (b1 b2 b3 b4 b5:Bool):Prop where
 at_:XAt K a
 ex0:ti K a=true
 sub:PySem.W.subIn K (.ref a) (.ref aL)=some true
 val:PySem.W.kitOne K (.ref a) (.type "ValueError")=some true
 k0:PySem.W.kitOne K (.ref a) (.ref aL)=some true
 k1:PySem.W.kitOne K (.ref a) (.ref aB)=some b1
 k2:PySem.W.kitOne K (.ref a) (.ref aT)=some b2
 k3:PySem.W.kitOne K (.ref a) (.ref aD)=some b3
 k4:PySem.W.kitOne K (.ref a) (.ref aR)=some b4
 k5:PySem.W.kitOne K (.ref a) (.ref aW)=some b5
theorem D7 {h:Heap} {aL aB aT aD aR aW:Addr} (X:K.In h) (G:h.Ns mainGlobals mg) (n0:PySem.W.nsIn K mainGlobals "LampError"=some (some (.ref aL))) (n1:PySem.W.nsIn K mainGlobals "BadBook"=some (some (.ref aB))) (n2:PySem.W.nsIn K mainGlobals "BadTicks"=some (some (.ref aT))) (n3:PySem.W.nsIn K mainGlobals "NoDeed"=some (some (.ref aD))) (n4:PySem.W.nsIn K mainGlobals "NoRest"=some (some (.ref aR))) (n5:PySem.W.nsIn K mainGlobals "BadRow"=some (some (.ref aW)))
  (l:PySem.W.excIn K aL h9 je=true) (c1:XQ K aL aB aT aD aR aW aB true false false false false) (c2:XQ K aL aB aT aD aR aW aT false true false false false) (c3:XQ K aL aB aT aD aR aW aD false false true false false) (c4:XQ K aL aB aT aD aR aW aR false false false true false) (c5:XQ K aL aB aT aD aR aW aW false false false false true) (e1:PySem.W.excIn K aB h9 je=true) (e2:PySem.W.excIn K aT h9 je=true) (e3:PySem.W.excIn K aD h9 je=true) (e4:PySem.W.excIn K aR h9 je=true):XF K mg:=by
 obtain⟨ad,a0,a1,a2,a3,a4,a5⟩:∃ad:Str->Addr,ad "LampError"=aL/\ad "BadBook"=aB/\ad "BadTicks"=aT/\ad "NoDeed"=aD/\ad "NoRest"=aR/\ad "BadRow"=aW :=
  ⟨λc=>if c="LampError" then aL else if c="BadBook" then aB else if c="BadTicks" then aT else if c="NoDeed" then aD else if c="NoRest" then aR else aW,if_pos rfl,(if_neg (by decide)).trans (if_pos rfl),
   (if_neg (by decide)).trans ((if_neg (by decide)).trans (if_pos rfl)),(if_neg (by decide)).trans ((if_neg (by decide)).trans ((if_neg (by decide)).trans (if_pos rfl))),
   (if_neg (by decide)).trans ((if_neg (by decide)).trans ((if_neg (by decide)).trans ((if_neg (by decide)).trans (if_pos rfl)))),(if_neg (by decide)).trans ((if_neg (by decide)).trans ((if_neg (by decide)).trans ((if_neg (by decide)).trans (if_neg (by decide)))))⟩
 subst a0;subst a1;subst a2;subst a3;subst a4;subst a5
 have one:∀(c:Str) (b1 b2 b3 b4 b5:Bool),(c∈xpl->PySem.W.excIn K (ad c) h9 je=true)->XQ K (ad "LampError") (ad "BadBook") (ad "BadTicks") (ad "NoDeed") (ad "NoRest") (ad "BadRow") (ad c) b1 b2 b3 b4 b5->[ia c "LampError",ia c "BadBook",ia c "BadTicks",ia c "NoDeed",ia c "NoRest",ia c "BadRow"]=[true,b1,b2,b3,b4,b5]->XC K ad c:=by
  intro c b1 b2 b3 b4 b5 ee q e
  simp![List.cons.injEq,and_true]at e
  obtain⟨e0,e1,e2,e3,e4,e5⟩:=e
  refine⟨q.at_,q.ex0,ee,q.sub,q.val,λd hd=>?_⟩
  simp![xall,AJ,BY,or_false]at hd
  rcases hd with rfl | rfl | rfl | rfl | rfl | rfl
  ·rw[e0];exact q.k0
  ·rw[e1];exact q.k1
  ·rw[e2];exact q.k2
  ·rw[e3];exact q.k3
  ·rw[e4];exact q.k4
  ·rw[e5];exact q.k5
 refine⟨ad,λc hc=>?_,l,λc hc=>?_⟩
 ·simp![xall,AJ,BY,or_false]at hc
  rcases hc with rfl | rfl | rfl | rfl | rfl | rfl
  ·exact⟨n0,CH X G n0⟩
  ·exact⟨n1,CH X G n1⟩
  ·exact⟨n2,CH X G n2⟩
  ·exact⟨n3,CH X G n3⟩
  ·exact⟨n4,CH X G n4⟩
  ·exact⟨n5,CH X G n5⟩
 ·simp![xcls,AJ,BY,or_false]at hc
  rcases hc with rfl | rfl | rfl | rfl | rfl
  ·exact one _ _ _ _ _ _ (λ_=>e1) c1 (by decide)
  ·exact one _ _ _ _ _ _ (λ_=>e2) c2 (by decide)
  ·exact one _ _ _ _ _ _ (λ_=>e3) c3 (by decide)
  ·exact one _ _ _ _ _ _ (λ_=>e4) c4 (by decide)
  ·exact one _ _ _ _ _ _ (λh=>absurd h (by decide)) c5 (by decide)
end
end Lp
namespace PySem
open Builtin Builtin.ObjectAttr
section
variable {prog : Program} {w : World} {A : Around} {E : Value -> Shared -> Prop} {h : Heap} {g : Array GenState} {d : Drawn} {t : Nat} {os : OsState}
variable {nm q : Str} {C N : Addr} {bs bm bmB : List Value} {hdct : Bool} {sn : List Str} {sub : List Value} {ab : Bool} {col : Option Bool} {dd : Option Addr} {k0 k1 k2 k3 k5 : Option Value} {B Bn newId nid initId inN : String} {bmN : List Value}
theorem i5 (Fn:ExcBaseFacts Bn newId inN bmN) (hBn:bmB.contains (.type Bn)=true) (F:ExcBaseFacts B nid initId bmB) (T:OwnTail h bmB bm) {mN:Str->Option Value} {rest:List Value} {fI:Addr} {oI:Obj} {Q:Fin->Shared->Prop}
  (hC:h.get? C=some (excClassObj nm q C N bs bm hdct sn sub ab col dd k0 k1 k2 k3 k5 newId)) (hn:h.Ns N mN) (hi:mN "__init__"=some (.ref fI))
  (hfI:h.get? fI=some oI) (hfc:oI.cls=.type "function")
  (hq:∀h' e,Heap.MadeExcOf h h' e (.ref C) rest ->
   wpAny (model prog w) A (call (.ref fI) (.ref e::rest)) (λr s'=>r=.none/\Q (.done (.ret (.ref e))) s') E ⟨h',g,d,t,os⟩) (hrest:rest.length<=sizeLine:=by size_fits) :
  wpAny (model prog w) A (Builtin.«type.__call__» ⟨.ref C::rest,[]⟩) Q E ⟨h,g,d,t,os⟩:=by
 repeat (first | with_reducible refine AF hC ?_ | with_reducible refine wpAny_madeBy_exc hC ?_ | wp_step)
 refine codeAny_call_builtin_code (EH _ Fn.quiet) (wpAny_check_new_subU Fn hBn T hC ?_)
 refine codeAny_exc_new_subU Fn hBn F T hC ?_ hrest
 show wpAny _ _ _ _ _ _
 have hC₁:=AB {cls:=.ref C,data:=.fields #[.ref h.objs.size,.none,.none,.none,.bool false,.none]}
  (AB {cls:=.type "tuple",data:=.seq rest.toArray} hC)
 have hfI₁:=AB {cls:=.ref C,data:=.fields #[.ref h.objs.size,.none,.none,.none,.bool false,.none]}
  (AB {cls:=.type "tuple",data:=.seq rest.toArray} hfI)
 have hn₁:((h.push {cls:=.type "tuple",data:=.seq rest.toArray}).push {cls:=.ref C,data:=.fields #[.ref h.objs.size,.none,.none,.none,.bool false,.none]}).Ns N mN :=
  let ⟨o,es,ep,e,r⟩:=hn;⟨o,es,ep,AB _ (AB _ e),r⟩
 have hget:((h.push {cls:=.type "tuple",data:=.seq rest.toArray}).push
   {cls:=.ref C,data:=.fields #[.ref h.objs.size,.none,.none,.none,.bool false,.none]}).get? (h.objs.size+1)=some
   {cls:=.ref C,data:=.fields #[.ref h.objs.size,.none,.none,.none,.bool false,.none]}:=by heap_get
 have hcC:(Value.ref C::bm).contains (.ref C)=true:=by simp
 have T₁:=T.keeps (h':=(h.push {cls:=.type "tuple",data:=.seq rest.toArray}).push {cls:=.ref C,data:=.fields #[.ref h.objs.size,.none,.none,.none,.bool false,.none]}) λb o e=>AB _ (AB _ e)
 unfold isInstance
 repeat (first | with_reducible refine AF hget ?_ | (with_reducible refine BP hC₁ ?_;rw[hcC]) | wp_step)
 show wpAny _ _ (typeLookup (.ref C) _) _ _ _
 refine wpAny_typeLookup_tail hC₁ hn₁ T₁ F.mroIs F.init.lookup ?_
 rw[hi]
 refine ES (AC ?_)
 unfold bindSpecial
 refine AC (wpAny_typeOf (T:="function") ⟨_,hfI₁,hfc⟩ ?_)
 rw[if_pos (by decide)]
 refine AO (AC (AN (hq _ (h.objs.size+1) ⟨λb o hb=>AB _ (AB _ hb),CW (Nat.le_succ _),h.objs.size,hget,CW (AQ _),?_⟩) (λr s' hr=>?_) λ_ _ x=>x))
 ·exact AB _ (Heap.get?_push_at rfl rfl)
 ·obtain⟨rfl,hQ⟩:=hr
  wp_walk
  exact hQ
theorem x6 (Fn:ExcBaseFacts Bn newId inN bmN) (hBn:bmB.contains (.type Bn)=true) (F:ExcBaseFacts B nid initId bmB) (T:OwnTail h bmB bm) {mN:Str->Option Value} {rest:List Value} {fI:Addr} {oI:Obj} {Q:Value->Shared->Prop}
  (hC:h.get? C=some (excClassObj nm q C N bs bm hdct sn sub ab col dd k0 k1 k2 k3 k5 newId)) (hn:h.Ns N mN) (hi:mN "__init__"=some (.ref fI))
  (hfI:h.get? fI=some oI) (hfc:oI.cls=.type "function")
  (hq:∀h' e,Heap.MadeExcOf h h' e (.ref C) rest ->
   wpAny (model prog w) (A.under (.builtin "type.__call__" ⟨.ref C::rest,[]⟩)) (call (.ref fI) (.ref e::rest)) (λr s'=>r=.none/\Q (.ref e) s') E ⟨h',g,d,t,os⟩) (hrest:rest.length<=sizeLine:=by size_fits) :
  wpAny (model prog w) A (call (.ref C) rest) Q E ⟨h,g,d,t,os⟩:=by
 have f1:=tc_lookup
 have f2:=tc_bind (.ref C)
 have hT:(⟨h,g,d,t,os⟩:Shared).TypeIs (.ref C) "type":=⟨_,hC,rfl⟩
 refine FA (codeAny_of_tree ?_)
 show wpAny _ _ (callAny (.ref C) _) _ _ _
 repeat (any_goals (first | assumption | with_reducible refine AF hC ?_ | wp_step))
 refine⟨rfl,?_⟩
 refine codeAny_call_builtin_at (EH _ (by decide +kernel)) entry_typeCall (wpAny_check_type_call_sub hC (i5 (hrest:=hrest) Fn hBn F T hC hn hi hfI hfc λh' e hm=>?_))
 exact hq h' e hm
end
inductive OwnTl (h:Heap) (nms:List Str) (bmB:List Value):List Value->Prop
 | base:OwnTl h nms bmB bmB
 | own {A:Addr} {c0:Value} {dd:Option Addr} {cd:ClassData} {sl:Array (Option Value)} {mA:Str->Option Value} {tl:List Value} :
   h.get? A=some {cls:=c0,dict:=dd,data:=.cls cd,slots:=sl}->h.Ns cd.ns mA->(∀n∈nms,mA n=none)->OwnTl h nms bmB tl->OwnTl h nms bmB (.ref A::tl)
theorem OwnTl.keeps {h h':Heap} {nms:List Str} {bmB tl:List Value} (T:OwnTl h nms bmB tl) (hk:∀b o,h.get? b=some o->h'.get? b=some o):OwnTl h' nms bmB tl:=by
 induction T with
 | base=>exact .base
 | own hA hN hq _ ih=>exact .own (hk _ _ hA) (hN.keeps hk) hq ih
theorem OwnTl.tail {h:Heap} {nms:List Str} {bmB tl:List Value} (T:OwnTl h nms bmB tl) (hi:("__init__":Str)∈nms):OwnTail h bmB tl:=by
 induction T with
 | base=>exact .base
 | own hA hN hq _ ih=>exact .own hA hN (hq _ hi) ih
theorem OwnTl.hasType {h:Heap} {nms:List Str} {bmB tl:List Value} (T:OwnTl h nms bmB tl) {X:String} {b:Bool} (hb:bmB.contains (.type X)=b):tl.contains (.type X)=b:=by
 induction T with
 | base=>exact hb
 | own _ _ _ _ ih=>rw[CB,ih];rfl
theorem OwnTl.passes {h:Heap} {nms:List Str} {bmB tl:List Value} (T:OwnTl h nms bmB tl) {self:Value} {what:Str} (hp:refuseLoop self what bmB=pure ()):refuseLoop self what tl=pure ():=by
 induction T with
 | base=>exact hp
 | own _ _ _ _ ih=>rw[refuseLoop_ref];exact ih
section
variable {M : Model} {A : Around} {E : Value -> Shared -> Prop} {h : Heap} {g : Array GenState} {d : Drawn} {t : Nat} {os : OsState}
theorem sf {nms:List Str} {bmB tl:List Value} {n:Str} {y:Option Value} {Q:Option Value->Shared->Prop} (hn:n∈nms) (T:OwnTl h nms bmB tl) (hrest:lookupAlong bmB n=pure y) (hq:Q y ⟨h,g,d,t,os⟩) :
  wpAny M A (lookupAlong tl n) Q E ⟨h,g,d,t,os⟩:=by
 induction T with
 | base=>rw[hrest];exact AO hq
 | own hA hN hni _ ih =>
  rw[lookupAlong_cons]
  refine AC (wpAny_classOwn_cls hA hN ?_)
  rw[hni n hn]
  exact ih
variable {nms : List Str} {nm q : Str} {C N : Addr} {bs bm bmB : List Value} {hdct : Bool} {sn : List Str} {sub : List Value} {ab : Bool} {col : Option Bool} {dd : Option Addr} {k0 k1 k2 k3 k5 : Option Value} {B newId : String}
theorem fi {mN:Str->Option Value} {n:Str} {y:Option Value} {Q:Option Value->Shared->Prop} (hn:n∈nms)
  (hC:h.get? C=some (excClassObj nm q C N bs bm hdct sn sub ab col dd k0 k1 k2 k3 k5 newId)) (hN:h.Ns N mN) (hmN:mN n=none) (T:OwnTl h nms bmB bm) (hbm:mroOf (.type B)=pure bmB)
  (hB:typeLookup (.type B) n=pure y) (hq:Q y ⟨h,g,d,t,os⟩):wpAny M A (typeLookup (.ref C) n) Q E ⟨h,g,d,t,os⟩:=by
 have hrest:lookupAlong bmB n=pure y:=by rw[typeLookup_eq,hbm]at hB;exact hB
 rw[typeLookup_eq]
 refine AC (wpAny_mroOf_exc hC ?_)
 rw[lookupAlong_cons]
 refine AC (wpAny_classOwn_exc hC hN ?_)
 rw[hmN]
 exact sf hn T hrest hq
end
section
variable {prog : Program} {w : World} {A : Around} {E : Value -> Shared -> Prop} {h : Heap} {g : Array GenState} {d : Drawn} {t : Nat} {os : OsState}
variable {nms : List Str} {nm q : Str} {C N x : Addr} {bs bm bmB : List Value} {sn : List Str} {sub : List Value} {ab : Bool} {col : Option Bool} {dd : Option Addr} {k0 k1 k2 k3 k5 : Option Value} {B newId sa owner : String}
 {mN mA:Str->Option Value} {name:Str} {v:Value}
theorem jr {M:Model} {o:Obj} {nameV:Value} {Q:Unit->Shared->Prop} (SF:StoreFacts B bmB sa owner) (T:OwnTl h nms bmB bm)
  (hC:h.get? C=some (excClassObj nm q C N bs bm true sn sub ab col dd k0 k1 k2 k3 k5 newId)) (hx:h.get? x=some o) (hc:o.cls=.ref C) (hq:Q () ⟨h,g,d,t,os⟩) :
  wpAny M A (checkBuiltinCall sa ⟨[.ref x,nameV,v],[]⟩) Q E ⟨h,g,d,t,os⟩:=by
 have hcB:(Value.ref C::bm).contains (.type owner)=true:=by rw[CB,T.hasType SF.hasOwner,FC]
 have ha:=SF.args (.ref x) nameV v
 simp![checkBuiltinCall,SF.kind,SF.split]
 refine AC ?_
 ·unfold isInstance
  repeat (first | (with_reducible refine AF hx ?_;rw[hc]) | (with_reducible refine BP hC ?_;rw[hcB]) | wp_step)
  cases hsig:Manifest.signature? sa with
  | none=>exact AO hq
  | some sig =>
   simp![argsOk,hsig]at ha
   have h2:Bind.checkArgs sa sig ⟨[.ref x,nameV,v],[]⟩=pure ():=ha
   show wpAny M A (Bind.checkArgs sa sig ⟨[.ref x,nameV,v],[]⟩) Q E _
   rw[h2];exact AO hq
theorem fz {tk:Tok} {Q:Fin->Shared->Prop} {ns:List Str} (SF:StoreFacts B bmB sa owner) (T:OwnTl h nms bmB bm)
  (hC:h.get? C=some (excClassObj nm q C N bs bm true sn sub ab col dd k0 k1 k2 k3 k5 newId)) (hn:h.Ns N mN) (hna:mN name=none) (hin:name∈nms)
  (hB:typeLookup (.type B) name=pure none) (hxC:x≠C) (I:h.Inst x C mA)
  (hq:∀h' tk',h'.Inst x C (λy=>if y=name then some v else mA y) ->
   (∀b o,b≠x->(∀o₀ dx,h.get? x=some o₀->o₀.dict=some dx->b≠dx)->h.get? b=some o->h'.get? b=some o) ->
   (∀o₀,h.get? x=some o₀->∃o₁,h'.get? x=some o₁/\o₁.cls=o₀.cls/\o₁.data=o₀.data/\o₁.slots=o₀.slots/\∀dx,o₀.dict=some dx->o₁.dict=some dx)->(∀o₀ o₁ dx,h.get? x=some o₀->o₀.dict=none->h'.get? x=some o₁->o₁.dict=some dx->h.get? dx=none)->Q (.done (.ret .none)) ⟨h',g,d,tk',os⟩) (hw:Within mA ns:=by within_ways) (hsz:ns.length<=sizeLine:=by size_fits) :
  wpAny (model prog w) A (Builtin.«object.__setattr__» ⟨[.ref x,.str name tk,v],[]⟩) Q E ⟨h,g,d,t,os⟩:=by
 obtain⟨o,hx,hc,hnc,hd⟩:=I
 have hpass:=T.passes (SF.passes (.ref x))
 unfold Builtin.«object.__setattr__»
 repeat (first | rw[refuse_eq] | (rw[refuseLoop_ref,hpass]) | (with_reducible refine AF hx ?_;rw[hc]) | with_reducible refine wpAny_mroOf_exc hC ?_ | with_reducible refine fi hin hC hn hna T SF.mro hB ?_ | wp_step)
 rcases hd with⟨hdn,hmA⟩ | ⟨dx,hdx,hne,hns⟩
 ·
  rw[hdn,if_neg (by simp[typeHasDict])]
  split
  ·rename_i hcd
   cases hcd
  split
  ·rename_i c hcd
   exact absurd hcd (hnc c)
  ·have hx₁:(h.push {cls:=.type "dict",data:=.dict #[]}).get? x=some o:=AB _ hx
   have hxs:x≠h.objs.size:=AS (AE hx)
   refine AC (wpAny_alloc' ?_)
   refine AC (wpAny_update' hx₁ ?_)
   refine AO ?_
   have hgd:((h.push {cls:=.type "dict",data:=.dict #[]}).update x λo=>{cls:=o.cls,dict:=some h.objs.size,data:=o.data,slots:=o.slots}).get? h.objs.size
     = some {cls:=.type "dict",data:=.dict #[]} :=
    (Heap.get?_update_ne _ _ _ _ hxs.symm).trans (Heap.get?_push_at rfl rfl)
   have hnd:((h.push {cls:=.type "dict",data:=.dict #[]}).update x λo=>{cls:=o.cls,dict:=some h.objs.size,data:=o.data,slots:=o.slots}).Ns h.objs.size (λ_=>none) :=
    ⟨_,#[],_,hgd,rfl,λe he=>absurd he (by simp),λ_=>rfl⟩
   show wpAny _ _ (storeInDict h.objs.size (.str name tk) name v) _ _ _
   unfold storeInDict newKeyGuard
   refine AC (AO (AC (wpAny_nsSet1 (Heap.Ns1.of_empty hnd) λh' hn' hs=>?_)))
   obtain⟨oD,esD,epD,hoD,hdD,hcD⟩:=hn'.count (Within.cons name v Within.nil)
   refine AC (wpAny_lookBehind hoD (by rw[hdD];exact pastItsLine_dict (BS hcD (by rw[AW,BB,FH];omega))) ?_)
   wp_walk
   have hx':h'.get? x=some {cls:=o.cls,dict:=some h.objs.size,data:=o.data,slots:=o.slots}:=?_
   refine hq h' _ ⟨{cls:=o.cls,dict:=some h.objs.size,data:=o.data,slots:=o.slots},hx',hc,hnc,.inr ⟨h.objs.size,rfl,hxs.symm,?_⟩⟩ (λb ob hbx _ hb=>?_)
    (λo₀ h₀=>by obtain rfl:o=o₀:=BL (hx.symm.trans h₀);exact⟨_,hx',rfl,rfl,rfl,λdx e=>by rw[hdn]at e;cases e⟩) (λo₀ o₁ dx h0 _ h1 hd1=>by rw[hx']at h1;cases h1;cases hd1;exact CW (AQ _))
   ·obtain⟨o',es,ep,e1,e2,e3,eu,e4⟩:=hn'
    exact⟨o',es,ep,e1,e2,e3,eu,λy=>by rw[e4 y];by_cases hy:y=name<;>simp[hy,hmA]⟩
   ·exact(hs.2 b (AS (AE hb))).trans ((Heap.get?_update_ne _ _ _ _ hbx).trans (AB _ hb))
   ·refine(hs.2 x hxs).trans (CT _ hx₁ ?_)
    have hfr:=(Heap.get?_some_iff.mp hx).2
    obtain⟨oc,od,odt,osl⟩:=o
    cases odt<;>first | rfl | exact hfr
 ·
  rw[hdx]
  refine AO ?_
  show wpAny _ _ (storeInDict dx (.str name tk) name v) _ _ _
  unfold storeInDict newKeyGuard
  refine AC (AO (AC (wpAny_nsSet1 hns λh' hn' hs=>?_)))
  obtain⟨oD,esD,epD,hoD,hdD,hcD⟩:=hn'.count (Within.cons name v hw)
  refine AC (wpAny_lookBehind hoD (by rw[hdD];exact pastItsLine_dict (BS hcD (by rw[AW];omega))) ?_)
  wp_walk
  refine hq h' _ ⟨o,(hs.2 x hne.symm).trans hx,hc,hnc,.inr ⟨dx,hdx,hne,hn'⟩⟩ (λb ob _ hbd hb=>?_)
   (λo₀ h₀=>⟨o₀,(hs.2 x hne.symm).trans h₀,rfl,rfl,rfl,λ_ e=>e⟩) (λo₀ o₁ dx' h0 hn _ _=>by rw[hx]at h0;cases h0;rw[hdx]at hn;cases hn)
  exact(hs.2 b (hbd o dx hx hdx)).trans hb
theorem g5 {tk:Tok} {R:Result->Shared->Prop} {ns:List Str} (SF:StoreFacts B bmB sa owner) (T:OwnTl h nms bmB bm)
  (hC:h.get? C=some (excClassObj nm q C N bs bm true sn sub ab col dd k0 k1 k2 k3 k5 newId)) (hn:h.Ns N mN) (hna:mN name=none) (hin:name∈nms)
  (hB:typeLookup (.type B) name=pure none) (hxC:x≠C) (I:h.Inst x C mA)
  (hq:∀h' tk',h'.Inst x C (λy=>if y=name then some v else mA y) ->
   (∀b o,b≠x->(∀o₀ dx,h.get? x=some o₀->o₀.dict=some dx->b≠dx)->h.get? b=some o->h'.get? b=some o) ->
   (∀o₀,h.get? x=some o₀->∃o₁,h'.get? x=some o₁/\o₁.cls=o₀.cls/\o₁.data=o₀.data/\o₁.slots=o₀.slots/\∀dx,o₀.dict=some dx->o₁.dict=some dx)->(∀o₀ o₁ dx,h.get? x=some o₀->o₀.dict=none->h'.get? x=some o₁->o₁.dict=some dx->h.get? dx=none)->R (.ok (.ret .none)) ⟨h',g,d,tk',os⟩) (hw:Within mA ns:=by within_ways) (hsz:ns.length<=sizeLine:=by size_fits) :
  codeAny (model prog w) A (.call (.builtin sa) ⟨[.ref x,.str name tk,v],[]⟩) R ⟨h,g,d,t,os⟩:=by
 obtain⟨o,hx,hc,_⟩:=id I
 exact CZ SF.slot.plain SF.entry (jr SF T hC hx hc (fz SF T hC hn hna hin hB hxC I hq hw hsz))
theorem g6 {Q:Unit->Shared->Prop} {ns:List Str} (SF:StoreFacts B bmB sa owner) (T:OwnTl h nms bmB bm)
  (hC:h.get? C=some (excClassObj nm q C N bs bm true sn sub ab col dd k0 k1 k2 k3 k5 newId)) (hn:h.Ns N mN) (hns:mN "__setattr__"=none) (hsin:("__setattr__":Str)∈nms) (hna:mN name=none) (hin:name∈nms)
  (hB:typeLookup (.type B) name=pure none) (hxC:x≠C) (I:h.Inst x C mA)
  (hq:∀h' tk',h'.Inst x C (λy=>if y=name then some v else mA y) ->
   (∀b o,b≠x->(∀o₀ dx,h.get? x=some o₀->o₀.dict=some dx->b≠dx)->h.get? b=some o->h'.get? b=some o) ->
   (∀o₀,h.get? x=some o₀->∃o₁,h'.get? x=some o₁/\o₁.cls=o₀.cls/\o₁.data=o₀.data/\o₁.slots=o₀.slots/\∀dx,o₀.dict=some dx->o₁.dict=some dx)->(∀o₀ o₁ dx,h.get? x=some o₀->o₀.dict=none->h'.get? x=some o₁->o₁.dict=some dx->h.get? dx=none)->Q () ⟨h',g,d,tk',os⟩) (hw:Within mA ns:=by within_ways) (hsz:ns.length<=sizeLine:=by size_fits) :
  wpAny (model prog w) A (setAttr (.ref x) name v) Q E ⟨h,g,d,t,os⟩:=by
 obtain⟨o,hx,hc,_⟩:=id I
 have f3:=SF.slot.bind (.ref x)
 unfold setAttr callSpecial? specialOf
 repeat (any_goals (first | assumption | (with_reducible refine AF hx ?_;rw[hc]) | with_reducible refine fi hsin hC hn hns T SF.mro SF.slot.lookup ?_ | wp_step))
 refine g5 SF T hC hn hna hin hB hxC I (λh' tk' I' hk hsame hfresh=>?_) hw hsz
 repeat (any_goals (first | assumption | wp_step))
 exact hq h' tk' I' hk hsame hfresh
theorem jt {M:Model} {o:Obj} {nameV:Value} {Q:Unit->Shared->Prop} (FB:ExcAttrBase B bmB) (T:OwnTl h nms bmB bm) (hC:h.get? C=some (excClassObj nm q C N bs bm true sn sub ab col dd k0 k1 k2 k3 k5 newId))
  (hx:h.get? x=some o) (hc:o.cls=.ref C) (hq:Q () ⟨h,g,d,t,os⟩):wpAny M A (checkBuiltinCall "BaseException.__getattribute__" ⟨[.ref x,nameV],[]⟩) Q E ⟨h,g,d,t,os⟩:=by
 have hk:builtinKind "BaseException.__getattribute__"=some .slot:=by decide +kernel
 have hsplit:splitId "BaseException.__getattribute__"=some ("BaseException","__getattribute__"):=by decide +kernel
 have hcB:(Value.ref C::bm).contains (.type "BaseException")=true:=by rw[CB,T.hasType FB.hasBase];rfl
 have ha:=F.args_bexc_ga (.ref x) nameV
 simp![checkBuiltinCall,hk,hsplit]
 refine AC ?_
 unfold isInstance
 repeat (first | (with_reducible refine AF hx ?_;rw[hc]) | (with_reducible refine BP hC ?_;rw[hcB]) | wp_step)
 exact hq
theorem g7 {tk:Tok} {Q:Fin->Shared->Prop} (FB:ExcAttrBase B bmB) (T:OwnTl h nms bmB bm)
  (hC:h.get? C=some (excClassObj nm q C N bs bm true sn sub ab col dd k0 k1 k2 k3 k5 newId)) (hn:h.Ns N mN) (hna:mN name=none) (hin:name∈nms)
  (hB:typeLookup (.type B) name=pure none) (I:h.Inst x C mA) (hv:mA name=some v) (hq:Q (.done (.ret v)) ⟨h,g,d,t,os⟩) :
  wpAny (model prog w) A (Builtin.«object.__getattribute__» ⟨[.ref x,.str name tk],[]⟩) Q E ⟨h,g,d,t,os⟩:=by
 obtain⟨o,hx,hc,hnc,hd⟩:=I
 rcases hd with⟨_,hmA⟩ | ⟨dx,hdx,hne,hns⟩
 ·rw[hmA name]at hv;cases hv
 unfold Builtin.«object.__getattribute__»
 repeat (first | (with_reducible refine AF hx ?_;rw[hc]) | with_reducible refine fi hin hC hn hna T FB.mro hB ?_ | wp_step)
 split
 ·rename_i c hcd
  exact absurd hcd (hnc c)
 unfold instanceDict
 repeat (first | (with_reducible refine AF hx ?_;rw[hc]) | with_reducible refine AF hC ?_ | wp_step)
 rw[hdx]
 repeat (first | (with_reducible refine wpAny_nsGet hns.ns ?_;rw[hv]) | wp_step)
 exact hq
theorem i6 {expr:Bool} {Q:Value->Shared->Prop} (FB:ExcAttrBase B bmB) (T:OwnTl h nms bmB bm)
  (hC:h.get? C=some (excClassObj nm q C N bs bm true sn sub ab col dd k0 k1 k2 k3 k5 newId)) (hn:h.Ns N mN) (hna:mN name=none) (hin:name∈nms)
  (hm1:mN "__getattribute__"=none) (hi1:("__getattribute__":Str)∈nms) (hm2:mN "__getattr__"=none) (hi2:("__getattr__":Str)∈nms)
  (hB:typeLookup (.type B) name=pure none) (I:h.Inst x C mA) (hv:mA name=some v) (hq:Q v ⟨h,g,d,t+1,os⟩) (hh:handedOut v=pure v) :
  wpAny (model prog w) A (getAttr (.ref x) name expr) Q E ⟨h,g,d,t,os⟩:=by
 obtain⟨o,hx,hc,_⟩:=id I
 have f3:=FB.ga.bind (.ref x)
 have hx0:(expr&&onTheHeap (Value.builtin "BaseException.__getattribute__"))=false:=by cases expr<;>rfl
 have hx2:(Value.builtin "BaseException.__getattribute__"==Value.builtin "object.__getattribute__")=false:=by decide +kernel
 have hx1:(onTheHeap (Value.ref C)&&Value.builtin "BaseException.__getattribute__"==Value.builtin "object.__getattribute__")=false:=by rw[hx2];rfl
 have go:∀(tk:Tok) {R:Result->Shared->Prop},R (.ok (.ret v)) ⟨h,g,d,t+1,os⟩->codeAny (model prog w) A (.call (.builtin "BaseException.__getattribute__") ⟨[.ref x,.str name tk],[]⟩) R ⟨h,g,d,t+1,os⟩ :=
  λtk R hR=>CZ FB.ga.plain F.entry_bexc_ga (jt FB T hC hx hc (g7 FB T hC hn hna hin hB I hv hR))
 unfold getAttr getAttrBy
 repeat (any_goals (first | assumption | (with_reducible refine AF hx ?_;rw[hc]) | with_reducible refine fi hi1 hC hn hm1 T FB.mro FB.ga.lookup ?_ | with_reducible refine fi hi2 hC hn hm2 T FB.mro FB.noGetattr ?_ | wp_step))
 refine go _ ?_
 repeat (any_goals (first | assumption | wp_step))
end
section
variable {M : Model} {A : Around} {E : Value -> Shared -> Prop} {env : Env}
variable {nm q : Str} {C N : Addr} {bs bm : List Value} {hdct : Bool} {sn : List Str} {sub : List Value} {ab : Bool} {col : Option Bool} {dd : Option Addr} {k0 k1 k2 k3 k5 : Option Value} {newId : String}
theorem cm {s:Shared} {x:Sem Value} {Q:Flow->Shared->Prop} (hbase:bm.contains (.type "BaseException")=true) (hh:A.handled=none)
  (h:wpAny M A x (λv s₁=>∃e oe,v=.ref e/\s₁.heap.get? C=some (excClassObj nm q C N bs bm hdct sn sub ab col dd k0 k1 k2 k3 k5 newId) /\
   s₁.heap.get? e=some oe/\oe.cls=.ref C/\(∃t,oe.data=.fields #[.ref t,.none,.none,.none,.bool false,.none])/\E (.ref e) s₁) E s) :
  wpAny M A (raiseStmt env (some x) none) Q E s:=by
 have hcB:(Value.ref C::bm).contains (.type "BaseException")=true:=by rw[CB,hbase,FC]
 unfold raiseStmt
 refine AC (AN h (λv s₁ h₁=>?_) λ_ _ x=>x)
 obtain⟨e,oe,rfl,hC,he,hec,⟨t,hed⟩,hE⟩:=h₁
 obtain⟨hp,g,d,tk,os⟩:=s₁
 repeat (first | (with_reducible refine AF he ?_;rw[hec]) | with_reducible refine AF hC ?_ | (with_reducible refine BP hC ?_;rw[hcB]) | wp_step)
 rw[hed]
 repeat (first | wp_step)
 exact wpAny_raiseNew_none hh hE
end
section
variable {prog : Program} {w : World} {A : Around} {E : Value -> Shared -> Prop} {s : Shared} {env : Env}
variable {nm q : Str} {C N : Addr} {bs bm bmB : List Value} {hdct : Bool} {sn : List Str} {sub : List Value} {ab : Bool} {col : Option Bool} {dd : Option Addr} {k0 k1 k2 k3 k5 : Option Value} {B Bn newId nid initId inN : String} {bmN : List Value}
theorem di (Fn:ExcBaseFacts Bn newId inN bmN) (hBn:bmB.contains (.type Bn)=true) (F:ExcBaseFacts B nid initId bmB) {mN:Str->Option Value} {x:Str} {np cpos pos:Pos} {args:List Expr} {Q:Flow->Shared->Prop}
  (hbase:bm.contains (.type "BaseException")=true) (hh:A.handled=none) (hplain:(backTo cpos (starEach args env)).any (·.1)=false) {fI:Addr} {oI:Obj} (hni:mN "__init__"=some (.ref fI)) (hfc:oI.cls=.type "function")
  (h:wpAny (model prog w) A (eval (.Name x np) env) (λf s₁=>f=.ref C/\wpAny (model prog w) A (evalArgs (.ref C) true (backTo cpos (starEach args env)) [])
   (λa s₂=>a.kw=[]/\a.pos.length<=sizeLine/\s₂.heap.get? C=some (excClassObj nm q C N bs bm hdct sn sub ab col dd k0 k1 k2 k3 k5 newId)/\s₂.heap.Ns N mN/\OwnTail s₂.heap bmB bm /\
    s₂.heap.get? fI=some oI/\∀h' e,Heap.MadeExcOf s₂.heap h' e (.ref C) a.pos->wpAny (model prog w) (A.under (.builtin "type.__call__" ⟨.ref C::a.pos,[]⟩)) (call (.ref fI) (.ref e::a.pos)) (λr s'=>r=.none/\s'.heap.get? C=some (excClassObj nm q C N bs bm hdct sn sub ab col dd k0 k1 k2 k3 k5 newId)/\∃oe,s'.heap.get? e=some oe/\oe.cls=.ref C/\(∃t,oe.data=.fields #[.ref t,.none,.none,.none,.bool false,.none])/\E (.ref e) s') E {s₂ with heap:=h'}) E s₁) E s) :
  wpAny (model prog w) A (exec (.Raise (some (.Call (.Name x np) args [] cpos)) none pos) env) Q E s:=by
 rw[arm_exec_Raise]
 first
  | refine AC (CG (cm (C:=C) (nm:=nm) (q:=q) (N:=N) (bs:=bs) (bm:=bm) (hdct:=hdct) (sn:=sn) (sub:=sub) (ab:=ab) (col:=col) (dd:=dd) (k0:=k0) (k1:=k1) (k2:=k2) (k3:=k3) (k5:=k5) (newId:=newId) hbase hh (AC (AN (EM (AN h (λf s₁ h₁=>?_) λ_ _ x=>x)) (λv s₃ h₃=>AC (CG (AO h₃))) λ_ _ x=>x))))
  | (simp![evalOpt,Option.map];refine AC (CG (cm (C:=C) (nm:=nm) (q:=q) (N:=N) (bs:=bs) (bm:=bm) (hdct:=hdct) (sn:=sn) (sub:=sub) (ab:=ab) (col:=col) (dd:=dd) (k0:=k0) (k1:=k1) (k2:=k2) (k3:=k3) (k5:=k5) (newId:=newId) hbase hh (AC (AN (EM (AN h (λf s₁ h₁=>?_) λ_ _ x=>x)) (λv s₃ h₃=>AC (CG (AO h₃))) λ_ _ x=>x)))))
  | (refine AC (CG (cm (C:=C) (nm:=nm) (q:=q) (N:=N) (bs:=bs) (bm:=bm) (hdct:=hdct) (sn:=sn) (sub:=sub) (ab:=ab) (col:=col) (dd:=dd) (k0:=k0) (k1:=k1) (k2:=k2) (k3:=k3) (k5:=k5) (newId:=newId) hbase hh ?_));refine AC (AN (EM (AN h (λf s₁ h₁=>?_) λ_ _ x=>x)) (λv s₃ h₃=>AC (CG (AO h₃))) λ_ _ x=>x))
 obtain⟨rfl,h₁⟩:=h₁
 unfold callWith
 refine AC (ES (AN h₁ (λa s₂ h₂=>AC (CG ?_)) λ_ _ x=>x))
 obtain⟨apos,akw⟩:=a
 obtain⟨hkw,hlen,hC,hn,T,hfI,h₂⟩:=h₂
 obtain rfl:akw=[]:=hkw
 obtain⟨hp,g,d,tk,os⟩:=s₂
 simp![hplain]
 refine AC (wpAny_keeperOf_exc hC ?_)
 refine AC (x6 (hrest:=hlen) Fn hBn F T hC hn hni hfI hfc λh' e hm=>AN (h₂ h' e hm) (λr s' hr=>?_) λ_ _ x=>x)
 obtain⟨r0,c1,oe,o1,o2,o3,hE⟩:=hr
 exact⟨r0,AC (ES (wpAny_point (AO ⟨e,oe,rfl,c1,o1,o2,o3,hE⟩)))⟩
end
section
variable {M : Model} {A : Around} {E : Value -> Shared -> Prop} {s : Shared}
theorem ju {base:Heap} {env:Env} {outer:List Env} {L e:Addr} {oe:Obj} {vs:Array Value} {head a0:Value} {hadNext:Bool} {Q:Unit->Shared->Prop}
  (hfr:A.frames=some (env::outer)) (hl:s.heap.FunFrames base (env::outer)) (hf:env.frame=some L)
  (he:s.heap.get? e=some oe) (hkb:base.StaysIn s.heap) (hen:base.get? e=none) (hd:oe.data=.fields vs) (hsz:1<vs.size) (h0:vs[0]? = some a0)
  (h:∀h',Heap.LeftW base (env::outer) e oe.cls a0 s.heap h'->(∃o',h'.get? e=some o'/\o'.dict=oe.dict)->Q () {s with heap:=h'}) :
  wpAny M A (do let a <-frameOf env;let pl <-entryPlaceOf L hadNext;let b <-EntryCells.newEntry head a .none (rawInt L) .none pl;setField (.ref e) 1 b) (λ_ s'=>wpAny M A (setFlight (.ref e) none) Q E s') E s:=by
 have hene:e∉(env::outer).filterMap (·.frame):=λhm=>by
  obtain⟨_,o,ho,hnf⟩:=hl.mem hm
  rw[he]at ho;injection ho with ho;subst ho;exact hnf vs hd
 refine AC (wpAny_frameOf_fun hfr hl hf λh₁ hs₁=>?_)
 refine AC (wpAny_entryPlaceOf λpl hpl=>?_)
 unfold EntryCells.newEntry newFields
 refine AC (wpAny_newObj_type ?_ (hpl.sizeOk5 _ _ _ _ _))
 have he₁:h₁.get? e=some oe:=(hs₁.2.1 e hene).trans he
 have kb₁:base.StaysIn h₁:=λb o hbo=>(hs₁.2.1 b λhm=>by rw[(hl.mem hm).1]at hbo;cases hbo).trans (hkb b o hbo)
 have he₂:=AB (h:=h₁) {cls:=.type "traceback",dict:=none,data:=.fields ([head,.ref L,.none,rawInt L,.none]++(if pl.isEmpty then List.replicate 6 Value.none else pl)).toArray} he₁
 refine EE he₂ hd hsz ?_
 have hTe:h₁.objs.size≠e:=Nat.ne_of_gt (AE he₁)
 have hd₃:=CL hd (·.setIfInBounds 1 (Value.ref h₁.objs.size))
 have he₃:=CT (Obj.mapFields (·.setIfInBounds 1 (Value.ref h₁.objs.size))) he₂ (DP hd₃)
 have hT₃:=(BC (h₁.push {cls:=.type "traceback",dict:=none,data:=.fields ([head,.ref L,.none,rawInt L,.none]++(if pl.isEmpty then List.replicate 6 Value.none else pl)).toArray})
  (Obj.mapFields (·.setIfInBounds 1 (Value.ref h₁.objs.size))) (Ne.symm hTe)).trans (BD h₁ rfl)
 unfold setFlight
 refine AC (EL he₃ hd₃ (x:=.ref h₁.objs.size) (by simp[hsz]) ?_)
 rw[if_pos (show(Value.ref h₁.objs.size != Value.none)=true from by simp)]
 refine EE hT₃ rfl (by simp![AM,BR,AW,BB]<;>omega) (h _ ?_ ⟨_,by rw[BC _ _ hTe];exact he₃,by unfold Obj.mapFields;split<;>rfl⟩)
 have keep:∀b o,b≠e->h₁.get? b=some o ->
   (((h₁.push {cls:=.type "traceback",dict:=none,data:=.fields ([head,.ref L,.none,rawInt L,.none]++(if pl.isEmpty then List.replicate 6 Value.none else pl)).toArray}).update e (Obj.mapFields (·.setIfInBounds 1 (Value.ref h₁.objs.size)))).update h₁.objs.size
    (Obj.mapFields (·.setIfInBounds 3 ((none:Option Addr).elim Value.none λf=>rawInt f)))).get? b=some o:=λb o hbe hb=>by
  have hbT:h₁.objs.size≠b:=Nat.ne_of_gt (AE hb)
  rw[BC _ _ hbT,BC _ _ (Ne.symm hbe)]
  exact AB _ hb
 have noRecord:∀b o,s.heap.get? b=some o->(∀vs,o.data≠.fields vs)->b≠e:=λb o hb hnf q=>by
  rw[q,he]at hb;injection hb with hb;subst hb;exact hnf vs hd
 refine⟨λb o hbo=>keep b o (λq=>by rw[q,hen]at hbo;cases hbo) (kb₁ b o hbo),hl.of_keeps λb o hb hnf=>?_,?_,λb o hb hnf=>?_⟩
 ·obtain⟨sl,hs⟩:=hs₁.2.2 b o hb
  exact⟨_,keep b _ (noRecord b o hb hnf) hs,rfl⟩
 ·refine⟨_,_,h₁.objs.size,_,_,?_,⟨Obj.cls_mapFields _ _,by rw[Array.getElem?_setIfInBounds_ne (by decide)];exact h0⟩,hd₃,by simp[hsz],kb₁.fresh,hTe,CT _ hT₃ (DP (CL rfl _)),CL rfl _,by first | (simp;done) | (rcases hpl with rfl | ⟨_,_,_,_,_,_,_,rfl⟩<;>simp)⟩
  rw[BC _ _ hTe];exact he₃
 ·obtain⟨sl,hs⟩:=hs₁.2.2 b o hb
  exact⟨sl,keep b _ (noRecord b o hb hnf) hs⟩
theorem x8 {base:Heap} {env:Env} {outer:List Env} {L e:Addr} {oe:Obj} {vs:Array Value} {a0:Value} {Q:Unit->Shared->Prop}
  (hfr:A.frames=some (env::outer)) (hl:s.heap.FunFrames base (env::outer)) (hf:env.frame=some L)
  (he:s.heap.get? e=some oe) (hkb:base.StaysIn s.heap) (hen:base.get? e=none) (hd:oe.data=.fields vs) (h1:vs[1]? = some .none) (h0:vs[0]? = some a0)
  (h:∀h',Heap.LeftW base (env::outer) e oe.cls a0 s.heap h'->(∃o',h'.get? e=some o'/\o'.dict=oe.dict)->Q () {s with heap:=h'}):wpAny M A (noteFrame (.ref e) env) (λ_ s2=>wpAny M A (setFlight (.ref e) none) Q E s2) E s:=by
 unfold noteFrame
 simp![hf]
 refine AC (EL he hd h1 ?_)
 rw[if_neg (by decide)]
 exact ju hfr hl hf he hkb hen hd (CA.mp h1).1 h0 h
theorem i7 {base:Heap} {l:List Env} {e:Addr} {cls a0 fl:Value} {Q:Unit->Shared->Prop}
  (hkb:base.StaysIn s.heap) (hl:s.heap.FunFrames base l) (ht:s.heap.TracedAtW base e cls a0 fl)
  (h:∀h',base.StaysIn h'->h'.FunFrames base l->h'.TracedW base e cls a0->(∀b o,s.heap.get? b=some o->(∀vs,o.data≠.fields vs)->h'.get? b=some o)->h'.get? e=s.heap.get? e->Q () {s with heap:=h'}) :
  wpAny M A (setFlight (.ref e) none) Q E s:=by
 obtain⟨oe,vs,T,oT,ts,he,hcls,hd,h1,hnT,hTe,hT,hdT,h3⟩:=ht
 have hsz3:3<ts.size:=(CA.mp h3).1
 have other:∀b,b≠T->(s.heap.update T (Obj.mapFields (·.setIfInBounds 3 ((none:Option Addr).elim Value.none λf=>rawInt f)))).get? b=s.heap.get? b :=
  λb hb=>BC _ _ (Ne.symm hb)
 have noRecord:∀b o,s.heap.get? b=some o->(∀vs,o.data≠.fields vs)->b≠T:=λb o hb hnf q=>by
  rw[q,hT]at hb;injection hb with hb;subst hb;exact hnf ts hdT
 unfold setFlight
 refine AC (EL he hd h1 ?_)
 rw[if_pos (show(Value.ref T != Value.none)=true from by simp)]
 refine EE hT hdT hsz3 (h _ (λb o hbo=>(other b λq=>by rw[q,hnT]at hbo;cases hbo).trans (hkb b o hbo))
  (hl.of_keeps λb o hb hnf=>⟨o,(other b (noRecord b o hb hnf)).trans hb,rfl⟩) ?_ (λb o hb hnf=>(other b (noRecord b o hb hnf)).trans hb) (other e (Ne.symm hTe)))
 exact⟨oe,vs,T,_,_,(other e (Ne.symm hTe)).trans he,hcls,hd,h1,hnT,hTe,CT _ hT (DP (CL hdT _)),CL hdT _,by simp[hsz3]⟩
end
end PySem
namespace L2
open PySem PySem.Spec PyProof.Rows
section
variable {prog : Program} {w : World} {A : Around} {E : Value -> Shared -> Prop} {h : Heap} {g : Array GenState} {d : Drawn} {t : Nat} {os : OsState}
variable {nms : List Str} {nm q : Str} {C N x : Addr} {bs bm bmB : List Value} {sn : List Str} {sub : List Value} {ab : Bool} {col : Option Bool} {dd : Option Addr} {k0 k1 k2 k3 k5 : Option Value} {B newId sa owner : String}
 {mN mA:Str->Option Value} {v:Value}
structure Inited (h h':Heap) (e C:Addr) (at_:Str) (v:Value):Prop where
 inst:h'.Inst e C (λy=>if y=at_ then some v else none)
 keep:∀b o,b≠e->h.get? b=some o->h'.get? b=some o
 self:∀o,h.get? e=some o->∃o',h'.get? e=some o'/\o'.cls=o.cls/\o'.data=o.data/\o'.slots=o.slots
 fresh:∀o dx,h'.get? e=some o->o.dict=some dx->h.get? dx=none
theorem n9 {fI:Addr} {oc:Value} {od:Option Addr} {osl:Array (Option Value)} {name qual self at_ rn:Str} {params:Arguments} {scope:Scope} {dV kV doc pm cdv ct:Value} {an:Option Addr} {p1 p2 p3 p4:Pos}
  (SF:StoreFacts B bmB sa owner) (T:OwnTl h nms bmB bm) (hC:h.get? C=some (excClassObj nm q C N bs bm true sn sub ab col dd k0 k1 k2 k3 k5 newId)) (hn:h.Ns N mN)
  (hns:mN "__setattr__"=none) (hsin:("__setattr__":Str)∈nms) (hna:mN at_=none) (hin:at_∈nms) (hB:typeLookup (.type B) at_=pure none)
  (hroom:A.depth<recursionLimit) (lim:h.NoLimit)
  (hfI:h.get? fI=some ⟨oc,od,.func (PySem.W.fnOf name qual params [.Assign [.Attribute (.Name self p1) at_ p2] (.Name rn p3) p4] scope dV kV doc pm an cdv ct),osl⟩) (hcd:h.CodeRec cdv qual)
  (hco:scope.isCoroutine=false) (hgen:scope.isGenerator=false) (hk:scope.kind=.function) (hs:scope.names.lookup self=some .local) (hr:scope.names.lookup rn=some .local) (hsr:self≠rn)
  (hb:∀a b:Value,bindArgs (PySem.W.fnOf name qual params [.Assign [.Attribute (.Name self p1) at_ p2] (.Name rn p3) p4] scope dV kV doc pm an cdv ct) ⟨[a,b],[]⟩=pure [(self,a),(rn,b)])
  (hd1:(self==("__debug__":Str))=false) (hd2:(rn==("__debug__":Str))=false)
  {e:Addr} {oe:Obj} (heC:e≠C) (he':h.get? e=some oe) (hec:oe.cls=.ref C) (hed:oe.dict=none) (hef:∀c,oe.data≠.cls c) {Q:Value->Shared->Prop} (hq:∀h' tk,Inited h h' e C at_ v->Q .none ⟨h',g,d,tk,os⟩) :
  wpAny (model prog w) A (call (.ref fI) [.ref e,v]) Q E ⟨h,g,d,t,os⟩:=by
 refine FA ?_
 refine DN hroom hfI rfl hco hgen rfl hcd ?_
 rw[hb]
 refine AO ?_
 have hkind:∀y∈[(self,Value.ref e),(rn,v)],scope.names.lookup y.1=some .local\/(scope.names.lookup y.1=some .cell/\((cellsFrom (h.objs.size+1) scope.names []).lookup y.1).isSome=true):=by
  intro y hy
  simp![AJ,BY,or_false]at hy
  rcases hy with rfl | rfl
  ·exact .inl hs
  ·exact .inl hr
 refine CY hk hkind λenv he s1 x=>?_
 have ks:env.kindOf self=some .local:=by rw[he];exact hs
 have kr:env.kindOf rn=some .local:=by rw[he];exact hr
 have hk':env.scope.kind=.function:=by rw[he];exact hk
 clear he
 refine⟨lim.keeps x.toInCall.keep,codeAny_func ?_⟩
 obtain⟨h1,tk1,e1⟩:=x.toInCall.same
 have kp:=x.toInCall.keep
 have m1:bindL env.kindOf [(self,Value.ref e),(rn,v)] (λ_=>none) rn=some v:=by
  simp![bindL,ks,kr,if_true]
 have m2:bindL env.kindOf [(self,Value.ref e),(rn,v)] (λ_=>none) self=some (.ref e):=by
  simp![bindL,ks,kr,if_true,if_neg hsr]
 refine Da (plainObj_wpAny_Assign_Attribute (Ev (ldLC x hk' kr m1 (Ev (ldLC x hk' ks m2 ?_) hd1)) hd2) rfl)
 subst e1
 refine g6 SF (T.keeps kp) (kp _ _ hC) (hn.keeps kp) hns hsin hna hin hB heC (mA:=λ_=>none) (ns:=[]) ⟨oe,kp _ _ he',hec,hef,.inl ⟨hed,λ_=>rfl⟩⟩ (λh' tk' I' hk' hsame hfresh=>?_) Within.nil (by decide)
 refine CN (hq h' tk' ⟨I',λb o hb hbo=>hk' b o hb (λo₀ dx h0 hdx=>?_) (kp b o hbo),λo ho=>?_,λo dx ho hdx=>?_⟩)
 ·rw[kp _ _ he']at h0;cases h0
  rw[hed]at hdx;cases hdx
 ·obtain⟨o1,q1,q2,q3,q4,_⟩:=hsame o (kp _ _ ho)
  exact⟨o1,q1,q2,q3,q4⟩
 ·have z:=hfresh oe o dx (kp _ _ he') hed ho hdx
  cases e0:h.get? dx with
  | none=>rfl
  | some o'=>rw[kp _ _ e0]at z;cases z
end
def sg (at_:Str):List Str:=["__init__","__setattr__","__getattribute__","__getattr__",at_]
def Cf (K:PySem.W.Frag) (nms:List Str) (bmB:List Value):List Value->Bool
 | []=>bmB==[]
 | v::r=>(v::r)==bmB || match v with
  | .ref A=>(match K.lookup A with
   | some ⟨_,_,.cls cd,_⟩=>PySem.W.nsOkIn K cd.ns&&nms.all (λn=>PySem.W.nsIn K cd.ns n==some none)&&Cf K nms bmB r
   | _=>false)
  | _=>false
theorem j7 {K:PySem.W.Frag} {h:Heap} {nms:List Str} {bmB:List Value} (X:K.In h):∀{l:List Value},Cf K nms bmB l=true->OwnTl h nms bmB l
 | [],e=>by rw[<-beq_iff_eq.mp e];exact .base
 | v::r,e=>by
  unfold Cf at e
  rcases Bool.or_eq_true_iff.mp e with q | q
  ·rw[beq_iff_eq.mp q];exact .base
  ·split at q
   ·split at q
    ·rename_i ho
     simp![AK,BX,beq_iff_eq]at q
     exact .own (X _ _ ho) (.of_isNs (EG X q.1.1)) (λn hn=>ER X q.1.1 (q.1.2 n hn)) (j7 X q.2)
    ·cases q
   ·cases q
def sh (K:PySem.W.Frag) (C fI:Addr) (at_:Str):Bool:=match K.lookup C with
 | some ⟨.type "type",_,.cls cd,sl⟩=>(match cd.mro,sl.toList with
  | .ref C'::bm,[_,_,_,_,some (.builtin n),_]=>C'==C&&n==je&&!cd.hasDel&&cd.hasDict&&Cf K (sg at_) h9 bm&&PySem.W.nsOkIn K cd.ns&&PySem.W.nsIn K cd.ns "__init__"==some (some (.ref fI)) &&
    (PySem.W.nsIn K cd.ns "__setattr__"==some none&&PySem.W.nsIn K cd.ns "__getattribute__"==some none&&PySem.W.nsIn K cd.ns "__getattr__"==some none&&PySem.W.nsIn K cd.ns at_==some none)
  | _,_=>false)
 | _=>false
theorem lp {K:PySem.W.Frag} {h:Heap} {N:Addr} {mg:Str->Option Value} {n:Str} {v:Value} (X:K.In h) (G:h.Ns N mg) (e:PySem.W.nsIn K N n=some (some v)):mg n=some v:=by
 obtain⟨o,es,ep,ho,hd,_,hf⟩:=G
 unfold PySem.W.nsIn at e
 split at e
 ·rename_i c d es' n' sl q
  have:=X _ _ q
  rw[ho]at this
  cases this
  cases hd
  split at e
  ·rename_i en he
   cases e
   rw[<-hf]
   unfold nsFind findBy
   rw[<-Array.find?_toList,he]
   rfl
  ·split at e<;>cases e
 ·cases e
structure XI (h:Heap) (C fI:Addr) (at_:Str) (nm q:Str) (N:Addr) (bs bm:List Value) (sn:List Str) (sub:List Value) (ab:Bool) (col:Option Bool) (dd:Option Addr) (k0 k1 k2 k3 k5:Option Value) (mN:Str->Option Value):Prop where
 cl:h.get? C=some (excClassObj nm q C N bs bm true sn sub ab col dd k0 k1 k2 k3 k5 je)
 tl:OwnTl h (sg at_) h9 bm
 ns:h.Ns N mN
 init:mN "__init__"=some (.ref fI)
 sa:mN "__setattr__"=none
 ga:mN "__getattribute__"=none
 gt:mN "__getattr__"=none
 att:mN at_=none
theorem si {K:PySem.W.Frag} {h:Heap} {C fI:Addr} {at_:Str} (k:K.In h) (q:sh K C fI at_=true):∃nm qn N bs bm sn sub ab col dd k0 k1 k2 k3 k5 mN,XI h C fI at_ nm qn N bs bm sn sub ab col dd k0 k1 k2 k3 k5 mN:=by
 unfold sh at q
 split at q
 ·next dd cd sl ho =>
  split at q
  ·next C1 bm k0 k1 k2 k3 n k5 hm hs =>
   simp![AK,beq_iff_eq,DL]at q
   obtain⟨⟨⟨⟨⟨⟨⟨e1,e2⟩,e3⟩,e4⟩,e5⟩,e6⟩,e7⟩,⟨⟨f1,f2⟩,f3⟩,f4⟩:=q
   subst e1;subst e2
   obtain⟨l⟩:=sl
   obtain⟨nm,bs,mro,ns,qn,hd,sn,sub,ab,col,del⟩:=cd
   dsimp only at hm e3 e4 e5 e6 e7 f1 f2 f3 f4 hs
   subst hm;subst e3;subst e4;subst hs
   have G:=Heap.Ns.of_isNs (EG k e6)
   exact⟨nm,qn,ns,bs,bm,sn,sub,ab,col,dd,k0,k1,k2,k3,k5,_,k _ _ ho,j7 k e5,G,lp k G e7,DF k G f1,DF k G f2,DF k G f3,DF k G f4⟩
  ·cases q
 ·cases q
section
variable {X : Cx} {k : Nat}
theorem j8 {k:Nat} {A:Around} (r:Room k A) (C:Addr) (us:List Value):(A.under (.builtin "type.__call__" ⟨.ref C::us,[]⟩)).depth<recursionLimit:=by
 have:=r.dp
 show A.depth+1<_
 lia
structure IniOk (K:PySem.W.Frag) (C fI:Addr) (at_:Str):Prop where
 cls:sh K C fI at_=true
 ex:∃(oc:Value) (od:Option Addr) (kV doc pm:Value) (an:Option Addr) (cdv ct:Value) (osl:Array (Option Value)) (qual self rn:Str) (params:Arguments) (scope:Scope) (p1 p2 p3 p4:Pos),
  K.lookup fI=some ⟨.type "function",od,.func (PySem.W.fnOf "__init__" qual params [.Assign [.Attribute (.Name self p1) at_ p2] (.Name rn p3) p4] scope .none kV doc pm an cdv ct),osl⟩/\PySem.W.codeIn K cdv qual=true /\
  scope.isCoroutine=false/\scope.isGenerator=false/\scope.kind=.function/\scope.names.lookup self=some .local/\scope.names.lookup rn=some .local/\self≠rn/\(self==("__debug__":Str))=false/\(rn==("__debug__":Str))=false /\
  ∀a b:Value,bindArgs (PySem.W.fnOf "__init__" qual params [.Assign [.Attribute (.Name self p1) at_ p2] (.Name rn p3) p4] scope .none kV doc pm an cdv ct) ⟨[a,b],[]⟩=pure [(self,a),(rn,b)]
 lk:typeLookup (.type "ValueError") at_=pure none
theorem oa {EX:Value->Hp->Prop} {x at_:Str} {C fI:Addr} {a:Expr} {ta:TA} {np cpos pos:Pos} (W:jk X EX) (hx:X.ex=[]) (hc:X.calm=true) (hr:Room k X.A) (O:IniOk X.K C fI at_) (hg:Gl X x) (hm:X.mg x=some (.ref C))
  (ha:PA X [a] ta) (hdb:(x==("__debug__":Str))=false:=by decide) (he:starEach [a] X.env=(false,eval a X.env)::starEach [] X.env:=by rfl) (hpl:(backTo cpos (starEach [] X.env)).any (·.1)=false:=by rfl) :
  PS X (.Raise (some (.Call (.Name x np) [a] [] cpos)) none pos) (λ_ σ H=>ta σ H λvs H1=>vs.length=1/\EX (.ref C) H1):=by
 intro pins s σ H D I h
 obtain⟨nm,qn,N,bs,bm,sn,sub,ab,col,dd,k0,k1,k2,k3,k5,mN,Xi⟩:=si I.mod.kin O.cls
 obtain⟨oc,od,kV,doc,pm,an,cdv,ct,osl,qual,self,rn,params,scope,p1,p2,p3,p4,lk,hcd,s1',s2',s3',s4',s5',s6',s7',s8',hb⟩:=O.ex
 have hpl':(backTo cpos (starEach [a] X.env)).any (·.1)=false:=by
  rw[he]
  show(false || (backTo cpos (starEach [] X.env)).any (·.1))=false
  rw[hpl];rfl
 have T:OwnTail _ h9 bm:=Xi.tl.tail AY
 refine di (C:=C) (nm:=nm) (q:=qn) (N:=N) (bs:=bs) (bm:=bm) (hdct:=true) (sn:=sn) (sub:=sub) (ab:=ab) (col:=col) (dd:=dd) (k0:=k0) (k1:=k1) (k2:=k2) (k3:=k3) (k5:=k5) AX (by decide) AX (mN:=mN)
  (Xi.tl.hasType AX.hasBase) (I.ok.hd hc) hpl' Xi.init (oI:=⟨.type "function",od,.func (PySem.W.fnOf "__init__" qual params [.Assign [.Attribute (.Name self p1) at_ p2] (.Name rn p3) p4] scope .none kV doc pm an cdv ct),osl⟩) rfl (bw I hg hm ⟨rfl,?_⟩ hdb)
 have ga:=ha cpos pins s σ H _ I h
 rw[he]at ga ⊢
 refine DT (thn ga λus s1 ⟨vs,H1,I1,r,hv,hE⟩=>⟨rfl,by rw[<-r.length,hv];decide,I1.bk _ _ Xi.cl,Xi.ns.keeps I1.bk,T.keeps I1.bk,I1.bk _ _ (I.mod.kin _ _ lk),λh' e mk=>?_⟩)
 have hu:us.length=1:=by rw[<-r.length,hv]
 obtain⟨u,rfl⟩:∃u,us=[u]:=FD.mp hu
 obtain⟨t,t1,_,_⟩:=mk.there
 have kb:∀b o,X.base.get? b=some o->h'.get? b=some o:=λb o q=>mk.keeps _ _ (I1.bk b o q)
 have heC:e≠C:=λz=>by have:=I1.bk _ _ Xi.cl;rw[<-z,mk.new]at this;cases this
 refine n9 (h:=h') F.store_ValueError (Xi.tl.keeps kb) (kb _ _ Xi.cl) (Xi.ns.keeps kb) Xi.sa (by simp[sg]) Xi.att (by simp[sg]) O.lk (j8 hr C [u]) (I.mod.nolimit.keeps kb) (kb _ _ (I.mod.kin _ _ lk)) (DE (I.mod.kin.keeps kb) hcd)
  s1' s2' s3' s4' s5' s6' hb s7' s8' heC t1 rfl rfl (λc=>by simp) λh'' tk J=>?_
 have kk:∀b o,s1.heap.get? b=some o->h''.get? b=some o:=λb o q=>J.keep b o (λz=>by rw[z,mk.new]at q;cases q) (mk.keeps _ _ q)
 obtain⟨oe,o1,o2,o3,o4⟩:=J.self _ t1
 have I2:Inv X pins σ H1 {s1 with heap:=h'',toks:=tk}:=I1.kept (t':=tk) kk
 exact⟨rfl,kk _ _ (I1.bk _ _ Xi.cl),oe,o1,o2,⟨t,o3⟩,W pins σ H1 _ e (.ref C) I2 ⟨I1.old hx mk.new,I1.hok.none mk.new,.inl ⟨_,_,_,o1,o2,o3,rfl,rfl⟩⟩ hE⟩
end
section
variable {X : Cx} {k : Nat} {pins : List (Addr × Obj)} {σ : St} {H : Hp} {s : Shared}
theorem lq {E:Value->Shared->Prop} {Q:Flow->Shared->Prop} {R:List V->Hp->Prop} {x at_:Str} {C fI:Addr} {a:Expr} {ta:TA} {np cpos pos:Pos} (hc:X.calm=true) (hr:Room k X.A) (O:IniOk X.K C fI at_) (hg:Gl X x) (hm:X.mg x=some (.ref C))
  (ha:PA X.nox [a] ta) (I:Inv X pins σ H s) (h:ta σ H R) (hR:∀vs H1,R vs H1->∃v,vs=[v])
  (q:∀v u s1 H1,Inv X pins σ H1 s1->RelV v u->R [v] H1->∀e h2 tk oe,s1.heap.get? e=none->(∀b o,s1.heap.get? b=some o->h2.get? b=some o)->h2.Inst e C (λy=>if y=at_ then some u else none) ->
   h2.get? e=some oe->oe.cls=.ref C->(∃t,oe.data=.fields #[.ref t,.none,.none,.none,.bool false,.none])->(∀dx,oe.dict=some dx->s1.heap.get? dx=none)->E (.ref e) {s1 with heap:=h2,toks:=tk})
  (hdb:(x==("__debug__":Str))=false:=by decide) (he:starEach [a] X.env=(false,eval a X.env)::starEach [] X.env:=by rfl) (hpl:(backTo cpos (starEach [] X.env)).any (·.1)=false:=by rfl) :
  wpAny (model X.prog X.w) X.A (exec (.Raise (some (.Call (.Name x np) [a] [] cpos)) none pos) X.env) Q E s:=by
 obtain⟨nm,qn,N,bs,bm,sn,sub,ab,col,dd,k0,k1,k2,k3,k5,mN,Xi⟩:=si I.mod.kin O.cls
 obtain⟨oc,od,kV,doc,pm,an,cdv,ct,osl,qual,self,rn,params,scope,p1,p2,p3,p4,lk,hcd,s1',s2',s3',s4',s5',s6',s7',s8',hb⟩:=O.ex
 have hpl':(backTo cpos (starEach [a] X.env)).any (·.1)=false:=by
  rw[he]
  show(false || (backTo cpos (starEach [] X.env)).any (·.1))=false
  rw[hpl];rfl
 have T:OwnTail _ h9 bm:=Xi.tl.tail AY
 refine di (C:=C) (nm:=nm) (q:=qn) (N:=N) (bs:=bs) (bm:=bm) (hdct:=true) (sn:=sn) (sub:=sub) (ab:=ab) (col:=col) (dd:=dd) (k0:=k0) (k1:=k1) (k2:=k2) (k3:=k3) (k5:=k5) AX (by decide) AX (mN:=mN)
  (Xi.tl.hasType AX.hasBase) (I.ok.hd hc) hpl' Xi.init (oI:=⟨.type "function",od,.func (PySem.W.fnOf "__init__" qual params [.Assign [.Attribute (.Name self p1) at_ p2] (.Name rn p3) p4] scope .none kV doc pm an cdv ct),osl⟩) rfl (bw I hg hm ⟨rfl,?_⟩ hdb)
 have ga:=ha cpos pins s σ H _ (I.wish _) h
 have he':starEach [a] X.nox.env=(false,eval a X.env)::starEach [] X.env:=he
 rw[he']at ga
 rw[he]
 refine DT (AN ga (λus s1 ⟨vs,H1,I1',r,hE⟩=>?_) λ_ _ z=>False.elim z)
 have I1:=I1'.unwish
 obtain⟨v,hv⟩:=hR _ _ hE
 subst hv
 refine⟨rfl,by rw[<-r.length];show 1<=sizeLine;decide,I1.bk _ _ Xi.cl,Xi.ns.keeps I1.bk,T.keeps I1.bk,I1.bk _ _ (I.mod.kin _ _ lk),λh' e mk=>?_⟩
 have hu:us.length=1:=by rw[<-r.length];rfl
 obtain⟨u,rfl⟩:∃u,us=[u]:=FD.mp hu
 obtain⟨t,t1,_,_⟩:=mk.there
 have kb:∀b o,X.base.get? b=some o->h'.get? b=some o:=λb o q=>mk.keeps _ _ (I1.bk b o q)
 have heC:e≠C:=λz=>by have:=I1.bk _ _ Xi.cl;rw[<-z,mk.new]at this;cases this
 refine n9 (h:=h') F.store_ValueError (Xi.tl.keeps kb) (kb _ _ Xi.cl) (Xi.ns.keeps kb) Xi.sa (by simp[sg]) Xi.att (by simp[sg]) O.lk (j8 hr C [u]) (I.mod.nolimit.keeps kb) (kb _ _ (I.mod.kin _ _ lk)) (DE (I.mod.kin.keeps kb) hcd)
  s1' s2' s3' s4' s5' s6' hb s7' s8' heC t1 rfl rfl (λc=>by simp) λh'' tk J=>?_
 have kk:∀b o,s1.heap.get? b=some o->h''.get? b=some o:=λb o q=>J.keep b o (λz=>by rw[z,mk.new]at q;cases q) (mk.keeps _ _ q)
 obtain⟨oe,o1,o2,o3,o4⟩:=J.self _ t1
 have rv:RelV v u:=by cases r;assumption
 refine⟨rfl,kk _ _ (I1.bk _ _ Xi.cl),oe,o1,o2,⟨t,o3⟩,q v u s1 H1 I1 rv hE e h'' tk oe mk.new kk J.inst o1 o2 ⟨t,o3⟩ λdx hdx=>?_⟩
 have z:=J.fresh oe dx o1 hdx
 cases e0:s1.heap.get? dx with
 | none=>rfl
 | some o'=>rw[mk.keeps _ _ e0]at z;cases z
theorem D8 {M:Model} {A:Around} {E:Value->Shared->Prop} {Q:Shared->Prop} {e C t:Addr} {oe:Obj} {h2:Heap} {tk:Nat} (I:Inv X pins σ H s) (hx:X.ex=[]) (hs:X.stack=X.env::X.outer) (hl:X.env.frame=some X.env.locals) (hA:A.frames=some X.stack)
  (new:s.heap.get? e=none) (kk:∀b o,s.heap.get? b=some o->h2.get? b=some o) (ge:h2.get? e=some oe) (gc:oe.cls=.ref C) (gd:oe.data=.fields #[.ref t,.none,.none,.none,.bool false,.none])
  (q:∀h',Fl X H s H e (.ref C) {s with heap:=h',toks:=tk}->(∃o',h'.get? e=some o'/\o'.dict=oe.dict)->(∀b o,h2.get? b=some o->b≠e->b∉frs X.stack->h'.get? b=some o)->Q {s with heap:=h',toks:=tk}) :
  wpAny M A (noteFrame (.ref e) X.env) (λ_ s2=>wpAny M A (setFlight (.ref e) none) (λ_ s3=>Q s3) E s2) E {s with heap:=h2,toks:=tk}:=by
 have I2:Inv X pins σ H {s with heap:=h2,toks:=tk}:=I.kept (t':=tk) kk
 have B:h2.FunFrames (PySem.W.hideAll h2 (e::frs X.stack)) X.stack:=rebase I2.stack λL hL=>AU _ (by simp[hL])
 rw[hs]at hA
 refine x8 (s:={s with heap:=h2,toks:=tk}) (base:=PySem.W.hideAll h2 (e::frs X.stack)) hA (by rw[<-hs];exact B) hl ge (λb o h=>BQ _ h) (AU _ (by simp)) gd rfl rfl λh' LW dk=>?_
 obtain⟨f1,f2,f3,f4⟩:=LW
 have k1:∀b o,h2.get? b=some o->b≠e->b∉frs X.stack->h'.get? b=some o:=λb o hb n1 n2=>f1 b o (BO _ hb (by
  simp![AJ,not_or]
  exact⟨n1,n2⟩))
 have k2:∀b o,h2.get? b=some o->b∈frs X.stack->∃sl,h'.get? b=some {o with slots:=sl}:=λb o hb h3=>by
  obtain⟨_,o',ho',hd'⟩:=I2.stack.mem h3
  rw[show({s with heap:=h2,toks:=tk}:Shared).heap.get? b=some o from hb]at ho';cases ho'
  exact f4 b o hb hd'
 have ne:∀b o,s.heap.get? b=some o->b≠e:=λb o hb z=>by rw[z,new]at hb;cases hb
 have fr:H e=none:=I.hok.none new
 have U:Un (frs X.stack) [] H H s.heap h2:=Un.kept kk
 refine q h' ⟨rfl,I.bare,⟨λb o hb n hn hx=>?_,λb o hb n hn hx=>?_,U.free,λb o hb hx=>?_,U.tups,U.frzs,U.tbls⟩,gq (Tl:=[]) I2 fr (λT z=>by simp at z) λb o hb n1 _ n3=>k1 b o hb n1 n3,new,fr,?_⟩ dk k1
 ·exact k1 b o (U.keep b o hb n hn hx) (ne b o hb) hn
 ·obtain⟨sl,e1⟩:=U.slot b o hb n hn hx
  obtain⟨sl',e2⟩:=k2 b _ e1 hn
  exact⟨sl',e2⟩
 ·obtain⟨o',e1⟩:=U.there b o hb hx
  by_cases hn:b∈frs X.stack
  ·obtain⟨sl',e2⟩:=k2 b _ e1 hn
   exact⟨_,e2⟩
  ·exact⟨o',k1 b o' e1 (ne b o hb) hn⟩
 ·obtain⟨oe',vs,T',oT,ts,t1,t2,t3,t4,t5,t6,t7,t8,t9⟩:=f3
  refine⟨oe',vs,T',oT,ts,.ref t,t1,⟨t2.1.trans gc,t2.2⟩,t3,t4,?_,t6,t7,t8,t9⟩
  cases es:h2.get? T' with
  | none =>
   refine⟨?_,I2.hok.none es⟩
   cases e0:s.heap.get? T' with
   | none=>rfl
   | some o=>rw[kk _ _ e0]at es;cases es
  | some o =>
   by_cases hm:T'∈e::frs X.stack
   ·simp![AJ]at hm
    rcases hm with z | z
    ·exact absurd z t6
    ·rw[hs]at z
     obtain⟨_,o',ho',hd'⟩:=f2.mem z
     rw[t7]at ho';cases ho'
     exact absurd t8 (hd' ts)
   ·rw[BO _ es hm]at t5;cases t5
theorem Gi {M:Model} {A:Around} {E:Value->Shared->Prop} {Q:Shared->Prop} {H0 H':Hp} {s0:Shared} {e:Addr} {cls:Value} (I:Inv X pins σ H0 s0) (F:Fl X H0 s0 H' e cls s)
  (q:∀h',Fl X H0 s0 H' e cls {s with heap:=h'}->h'.get? e=s.heap.get? e->(∀b o,s.heap.get? b=some o->(∀vs,o.data≠.fields vs)->h'.get? b=some o)->Q {s with heap:=h'}):wpAny M A (setFlight (.ref e) none) (λ_ s3=>Q s3) E s:=by
 obtain⟨oe,vs,T,oT,ts,a0,t1,t2,t3,t4,t5,t6,t7,t8,t9⟩:=F.fly
 have hn:∀b,b=e\/b=T->(PySem.W.hideAll s.heap (e::T::frs X.stack)).get? b=none:=λb z=>AU _ (by rcases z with z | z<;>simp[z])
 exact i7 (base:=PySem.W.hideAll s.heap (e::T::frs X.stack)) (l:=X.stack) (cls:=cls) (a0:=a0) (λb o h=>BQ _ h) (F.frm I) ⟨oe,vs,T,oT,ts,t1,t2,t3,t4,hn T (.inr rfl),t6,t7,t8,t9⟩
  λh' k1 k2 k3 k4 k5=>q h' (F.next I t5.1 t5.2 k1 k2 k3 λb o hb hd=>⟨o.slots,k4 b o hb hd⟩) k5 k4
theorem Av {M:Model} {A:Around} {E:Value->Shared->Prop} {e C fI:Addr} {at_:Str} {oe:Obj} {Q:Bool->Shared->Prop} {nm qn:Str} {N:Addr} {bs bm:List Value} {sn:List Str} {sub:List Value} {ab:Bool} {col:Option Bool} {dd:Option Addr} {k0 k1 k2 k3 k5:Option Value} {mN:Str->Option Value}
  (Xi:XI s.heap C fI at_ nm qn N bs bm sn sub ab col dd k0 k1 k2 k3 k5 mN) (he:s.heap.get? e=some oe) (hcls:oe.cls=.ref C) (hq:Q true s):wpAny M A (excMatches (.ref e) (.ref C)) Q E s:=by
 obtain⟨h,g,d,t,os⟩:=s
 have hC:=Xi.cl
 have hB:(Value.ref C::bm).contains (.type "BaseException")=true:=by rw[CB,Xi.tl.hasType AX.hasBase,FC]
 have hm:(Value.ref C::bm).contains (.ref C)=true:=by simp
 have f:=tc_notTuple
 unfold excMatches
 repeat (first | (with_reducible refine AF he ?_;rw[hcls]) | with_reducible refine AF hC ?_ | (with_reducible refine BP hC ?_;first | rw[hB] | rw[hm]) | wp_step)
 exact hq
theorem x9 {x n n2 at_:Str} {C fI:Addr} {ni ni2:Nat} {a:Expr} {ta:TA} {np cpos rpos yp p5 p6 p7 p8 hp pos:Pos} (hx:X.ex=[]) (hst:X.stack=X.env::X.outer) (hfr:X.env.frame=some X.env.locals) (hc:X.calm=true) (hr:Room k X.A) (O:IniOk X.K C fI at_)
  (hg:Gl X x) (hm:X.mg x=some (.ref C)) (ha:PA X.nox [a] ta) (hN:X.N.Nodup) (hni:X.N[ni]? = some n) (hkn:X.env.scope.names.lookup n=some .local) (hni2:X.N[ni2]? = some n2) (hkn2:X.env.scope.names.lookup n2=some .local) (hcn:X.env.cells.lookup n=none) (hne:ni≠ni2)
  (hdb:(x==("__debug__":Str))=false:=by decide) (he:starEach [a] X.env=(false,eval a X.env)::starEach [] X.env:=by rfl) (hpl:(backTo cpos (starEach [] X.env)).any (·.1)=false:=by rfl)
  (hdn:(n==("__debug__":Str))=false:=by decide) (hcd:(n==("__classdict__":Str))=false:=by decide) (hab:attributeBase (.Name n p6) at_ X.env (eval (.Name n p6) X.env)=eval (.Name n p6) X.env:=by rfl)
  (hsw:swapsWith (.Attribute (.Name n p6) at_ p7) (some (.Name n2 p5)) p8.line X.env=pure false:=by rfl) :
  PS X (.Try [.Raise (some (.Call (.Name x np) [a] [] cpos)) none rpos] [.ExceptHandler (some (.Name x yp)) (some n) [.Assign [.Name n2 p5] (.Attribute (.Name n p6) at_ p7) p8] hp] [] [] pos)
   (λD σ H=>ta σ H λvs H1=>∃v,vs=[v]/\(∀u,RelV v u->handedOut u=pure u)/\∀e,D.nx (((σ.set ni (some (.ref e))).set ni2 (some v)).set ni none) H1):=by
 intro pins s σ H D I h
 refine wpAny_Try_except ?_
 refine Da (lq (R:=λvs H1=>∃v,vs=[v]/\(∀u,RelV v u->handedOut u=pure u)/\∀e,D.nx (((σ.set ni (some (.ref e))).set ni2 (some v)).set ni none) H1) hc hr O hg hm ha I h (λvs H1 z=>⟨z.choose,z.choose_spec.1⟩) (λv u s1 H1 I1 rv hR e h2 tk oe new kk inst ge gc gd fd=>?_) hdb he hpl)
 obtain⟨v',ev,hh,hD⟩:=hR
 cases ev
 obtain⟨t,gd⟩:=gd
 obtain⟨oi,i1,i2,i3,i4⟩:=inst
 rw[ge]at i1;cases i1
 obtain⟨dx,hdx,hdne,hns⟩:∃dx,oe.dict=some dx/\dx≠e/\h2.Ns1 dx (λy=>if y=at_ then some u else none):=by
  rcases i4 with⟨_,z⟩ | z
  ·have:=z at_;simp at this
  ·exact z
 refine D8 I1 hx hst hfr I.ok.frames new kk ge gc gd λh3 F1 dk k1=>?_
 have J1:=F1.inv I1
 refine wpAny_handleBy_cons (codeAny_handlers_test (bw (X:=X.mark (.ref e)) (J1.mark (.ref e)) hg hm ?_ hdb)) (by intro q;cases q)
 obtain⟨nm,qn,N,bs,bm,sn,sub,ab,col,dd,k0,k1',k2,k3,k5,mN,Xi⟩:=si J1.kIn O.cls
 obtain⟨oe3,vs3,T3,oT3,ts3,a03,t1,t2,t3,_⟩:=F1.fly
 refine Av Xi t1 t2.1 ?_
 refine codeAny_handlers_suite_as ?_
 refine Gi I1 F1 λh4 F2 ke kn=>?_
 have J2:=F2.inv I1
 refine ib (v:=.ref e) J2 hN hni (.inl hkn) (show RelV (.ref e) (.ref e)from rfl) (λs5 I5 sb=>?_) (.inr hkn)
 obtain⟨o3,d3,dd3⟩:=dk
 have dn:dx∉frs X.stack:=λz=>by
  obtain⟨_,o',ho',_⟩:=I1.stack.mem z
  rw[fd dx hdx]at ho';cases ho'
 obtain⟨od,es,ep,g1,g2,g3⟩:=hns
 have nf:∀vs,od.data≠.fields vs:=λvs z=>by rw[g2]at z;cases z
 have x3:h3.get? dx=some od:=k1 dx od g1 hdne dn
 have x4:h4.get? dx=some od:=kn dx od x3 nf
 have e4:h4.get? e=some o3:=ke.trans d3
 obtain⟨al,sb1,sb2⟩:=sb
 have al':al=X.env.locals:=by
  rcases sb2 with z | z
  ·exact z
  ·rw[hcn]at z;cases z
 have lin:X.env.locals∈frs X.stack:=by
  rw[hst];unfold frs;rw[BF,hfr];exact AY
 have ne1:e≠al:=λz=>by
  obtain⟨_,o',ho',_⟩:=I1.stack.mem (al' ▸ lin)
  rw[<-z,new]at ho';cases ho'
 have ne2:dx≠al:=λz=>dn (z ▸ al' ▸ lin)
 have e5:s5.heap.get? e=some o3:=(sb1.2 e ne1).trans e4
 have x5:s5.heap.get? dx=some od:=(sb1.2 dx ne2).trans x4
 rw[t1]at d3;cases d3
 obtain⟨m5,hn5,hl5⟩:=I5.loc
 have hlen:ni<σ.length:=by rw[I1.len];exact(AI.mp hni).1
 obtain⟨u',r',l'⟩:=hl5 ni n (.ref e) hni (by rw[AT hlen]) (.inl hkn)
 obtain rfl:u'=Value.ref e:=r'
 have m5n:X.env.kindOf n=some .local/\m5 n=some (.ref e):=by
  rcases l' with z | ⟨z,_⟩
  ·exact z
  ·have:X.env.kindOf n=some .local:=hkn
   rw[this]at z;rcases z with z | z<;>cases z
 refine Da (wpAny_Assign_Name (vz hab (Ev (wpAny_loadName_local I5.ok.kind m5n.1 hn5 m5n.2 ?_) hdn)) hsw)
 obtain⟨nm',qn',N',bs',bm',sn',sub',ab',col',dd',k0',k1'',k2',k3',k5',mN',Xi'⟩:=si I5.kIn O.cls
 have I6:Inv X pins (σ.set ni (some (.ref e))) H1 {s5 with toks:=s5.toks+1}:=I5.kept (t':=s5.toks+1) λ_ _ z=>z
 obtain⟨hp5,gg5,dr5,tk5,os5⟩:=s5
 refine i6 (mA:=λy=>if y=at_ then some u else none) (v:=u) F.attrBase_ValueError Xi'.tl Xi'.cl Xi'.ns Xi'.att (by simp[sg]) Xi'.ga (by simp[sg]) Xi'.gt (by simp[sg]) O.lk
  ⟨oe3,e5,t2.1,(λc z=>by rw[t3]at z;cases z),.inr ⟨dx,dd3.trans hdx,hdne,od,es,ep,x5,g2,g3⟩⟩ (by simp) ?_ (hh u rv)
 refine d0 (X:=X) I6 hN hni2 (.inl hkn2) rv (λs7 I7=>?_) (.inr hkn2)
 refine CN ?_
 exact mq I7 hN hni hkn λs8 I8=>⟨_,H1,I8,hD e⟩
end
end L2
namespace Lp
open PySem PySem.Spec PyProof.Rows L2
structure XRow (K:PySem.W.Frag) (mg:Str->Option Value):Prop where
 of:∃C fI,mg "BadRow"=some (.ref C)/\IniOk K C fI "row"
section
variable {X : Cx} {φ φ' : Phi} {e : Expr} {x : Ex} {pos cpos rpos np p : Pos} {EX : EXK} {f : Nat} {y : Str}
theorem sj (xf:XF X.K X.mg) (xi:XRow X.K X.mg) (C:Callee X.prog X.w X.K X.mg X.base X.A φ' f y) (W:jk X EX) (ha:PA X.nox [e] (tEs X.K φ (.cons x .nil))) (hx:X.ex=[]:=by rfl) (hc:X.calm=true:=by rfl) (hg:Gl X "BadRow":=by rfl)
  (he:starEach [e] X.env=(false,eval e X.env)::starEach [] X.env:=by rfl) (hpl:(backTo cpos (starEach [] X.env)).any (·.1)=false:=by rfl) :
  PS X (.Raise (some (.Call (.Name "BadRow" np) [e] [] cpos)) none pos) (tR1 X.K φ EX (.raise "BadRow" (.cons x .nil))):=by
 obtain⟨ad,h1,h2,h3⟩:=xf.of
 obtain⟨Ca,fI,hm,O⟩:=xi.of
 have hB:=h1 "BadRow" (by simp[xall])
 have z:=hB.2.symm.trans hm
 cases z
 obtain⟨k,_,_,_,_,hr,_⟩:=C
 refine PS.imp (oa W hx hc hr O hg hm (PA.nox ha) (by decide) he hpl) λD σv H ⟨ι,σ,μ,hS,hL,hl,h⟩=>?_
 simp![evS]at h
 obtain⟨ds,μ1,e1,h⟩:=h.bind
 refine⟨ι,σ,μ,hS,hL,?_⟩
 have hlen:=d7 e1
 rw[e1]
 exact λι1 vs H1 p1 x1 s1 d1=>⟨by rw[d1.length,hlen];rfl,h ι1 (.ref (ad "BadRow")) H1 p1 x1 s1 hB.1⟩
theorem Aw {ni ni2:Nat} {n n2:Str} {yp p5 p6 p7 p8 hp:Pos} (xi:XRow X.K X.mg) (C:Callee X.prog X.w X.K X.mg X.base X.A φ' f y) (ha:PA X.nox [e] (tEs X.K φ (.cons x .nil))) (hN:ndB X.N=true:=by rfl) (hni:X.N[ni]? = some n:=by rfl) (hkn:X.env.scope.names.lookup n=some .local:=by rfl)
  (hni2:X.N[ni2]? = some n2:=by rfl) (hkn2:X.env.scope.names.lookup n2=some .local:=by rfl) (hcn:X.env.cells.lookup n=none:=by rfl) (hne:ni≠ni2:=by decide) (hx:X.ex=[]:=by rfl) (hst:X.stack=X.env::X.outer:=by rfl) (hfr:X.env.frame=some X.env.locals:=by rfl) (hc:X.calm=true:=by rfl) (hg:Gl X "BadRow":=by rfl)
  (he:starEach [e] X.env=(false,eval e X.env)::starEach [] X.env:=by rfl) (hpl:(backTo cpos (starEach [] X.env)).any (·.1)=false:=by rfl) (hdn:(n==("__debug__":Str))=false:=by decide) (hcd:(n==("__classdict__":Str))=false:=by decide)
  (hab:attributeBase (.Name n p6) "row" X.env (eval (.Name n p6) X.env)=eval (.Name n p6) X.env:=by rfl) (hsw:swapsWith (.Attribute (.Name n p6) "row" p7) (some (.Name n2 p5)) p8.line X.env=pure false:=by rfl) :
  PS X (.Try [.Raise (some (.Call (.Name "BadRow" np) [e] [] cpos)) none rpos] [.ExceptHandler (some (.Name "BadRow" yp)) (some n) [.Assign [.Name n2 p5] (.Attribute (.Name n p6) "row" p7) p8] hp] [] [] pos) (tS X.K φ (.tryi ni ni2 x)):=by
 obtain⟨Ca,fI,hm,O⟩:=xi.of
 obtain⟨k,_,_,_,_,hr,_⟩:=C
 refine PS.imp (x9 hx hst hfr hc hr O hg hm ha (j4 hN) hni hkn hni2 hkn2 hcn hne (by decide) he hpl hdn hcd hab hsw) λD σv H ⟨ι,σ,μ,hS,hL,hl,h⟩=>?_
 simp![evS]at h
 obtain⟨d,μ1,e1,h⟩:=h.bind
 refine⟨ι,σ,μ,hS,hL,?_⟩
 have e2:cc φ (.cons x .nil) σ μ=.ok [d] μ1:=by simp![cc,e1,Res.az]
 rw[e2]
 intro ι1 vs H1 p1 x1 s1 d1
 cases d with
 | int m =>
  simp![kTi,if_neg hne]at h
  have ev:vs=[.int m]:=by simpa[af,IsD]using d1
  subst ev
  refine⟨.int m,rfl,λu r=>?_,λea=>?_⟩
  ·obtain⟨t,rfl⟩:∃t,u=Value.int m t:=r
   rfl
  ·refine h ι1 _ H1 p1 x1 s1 (λj d ej=>?_) (by simp[hl])
   by_cases q1:j=ni
   ·subst q1
    by_cases hi:j<σ.length
    ·rw[AT (by simpa using hi)]at ej;cases ej
    ·rw[CQ (by simp;lia)]at ej;cases ej
   ·rw[AL (Ne.symm q1)]at ej
    rw[AL (Ne.symm q1)]
    by_cases q2:j=ni2
    ·subst q2
     by_cases hi:j<σ.length
     ·rw[AT hi]at ej;cases ej
      exact⟨.int m,by rw[AT (by simp;lia)],by simp[IsD]⟩
     ·rw[CQ (by simp;lia)]at ej;cases ej
    ·rw[AL (Ne.symm q2)]at ej
     obtain⟨v,a1,a2⟩:=(hL.mono p1 x1) j d ej
     exact⟨v,by rw[AL (Ne.symm q2),AL (Ne.symm q1)];exact a1,a2⟩
 | _=>exact h.elim
end
theorem ya {K:PySem.W.Frag} {h:Heap} {mg:Str->Option Value} {aW fI:Addr} {oc:Value} {od od' an:Option Addr} {cd:ClassData} {sl osl:Array (Option Value)} {kV doc pm cdv ct:Value} {qual self rn:Str} {params:Arguments} {scope:Scope} {p1 p2 p3 p4:Pos}
  (X:K.In h) (G:h.Ns mainGlobals mg) (n:PySem.W.nsIn K mainGlobals "BadRow"=some (some (.ref aW))) (l:K.lookup aW=some ⟨oc,od,.cls cd,sl⟩) (i:PySem.W.nsIn K cd.ns "__init__"=some (some (.ref fI))) (q:sh K aW fI "row"=true)
  (lf:K.lookup fI=some ⟨.type "function",od',.func (PySem.W.fnOf "__init__" qual params [.Assign [.Attribute (.Name self p1) "row" p2] (.Name rn p3) p4] scope .none kV doc pm an cdv ct),osl⟩) (c:PySem.W.codeIn K cdv qual=true)
  (s1:scope.isCoroutine=false) (s2:scope.isGenerator=false) (s3:scope.kind=.function) (s4:scope.names.lookup self=some .local) (s5:scope.names.lookup rn=some .local) (s6:self≠rn) (s7:(self==("__debug__":Str))=false) (s8:(rn==("__debug__":Str))=false)
  (hb:∀a b:Value,bindArgs (PySem.W.fnOf "__init__" qual params [.Assign [.Attribute (.Name self p1) "row" p2] (.Name rn p3) p4] scope .none kV doc pm an cdv ct) ⟨[a,b],[]⟩=pure [(self,a),(rn,b)]):XRow K mg :=
 ⟨aW,fI,CH X G n,q,⟨.none,od',kV,doc,pm,an,cdv,ct,osl,qual,self,rn,params,scope,p1,p2,p3,p4,lf,c,s1,s2,s3,s4,s5,s6,s7,s8,hb⟩,by rfl⟩
end Lp
namespace Lr
open Lp
open PySem
theorem j9 {f:D->Sl->Sto->Res Fl} (I:Nat->Sl->Sto->Prop):∀{ds:List D} {σ:Sl} {μ:Sto} (k:Nat),I k σ μ ->
  (∀(j:Nat) d σ μ,ds[j]? = some d->I (k+j) σ μ->∃σ' μ',f d σ μ=.ok (.nx σ') μ'/\I (k+j+1) σ' μ') ->
  ∃σ' μ',de none f ds σ μ=.ok (.nx σ') μ'/\I (k+ds.length) σ' μ'
 | [],σ,μ,k,h,_=>⟨σ,μ,by simp[de],h⟩
 | d::ds,σ,μ,k,h,st=>by
  obtain⟨σ1,μ1,e1,h1⟩:=st 0 d σ μ rfl h
  obtain⟨σ2,μ2,e2,h2⟩:=j9 I (ds:=ds) (σ:=σ1) (μ:=μ1) (k+1) h1 λj d σ μ e i=>by
   obtain⟨σ',μ',a,b⟩:=st (j+1) d σ μ (by simpa using e) (by rw[show k+(j+1)=k+1+j by omega];exact i)
   exact⟨σ',μ',a,by rw[show k+1+j+1=k+(j+1)+1 by omega];exact b⟩
  refine⟨σ2,μ2,?_,by rw[show k+(d::ds).length=k+1+ds.length by simp;omega];exact h2⟩
  simp![de,mv,if_true,e1,Res.az,e2]
theorem bf {T:List Df} {n i:Nat} {d:Df} {ds:List D} {μ:Sto} (h:T[i]? = some d):ai T (n+1) i ds μ=qg (ai T n) d ds μ:=by
 simp![ai,h]
def finD (fl:Fl) (μ:Sto):Res D:=match fl with
 | .nx _=>.ok .non μ
 | .rt d=>.ok d μ
 | _=>.stuck
@[simp] theorem og (d:D) (μ:Sto):finD (.rt d) μ=.ok d μ:=rfl
@[simp] theorem oh (σ:Sl) (μ:Sto):finD (.nx σ) μ=.ok .non μ:=rfl
theorem run_eq {φ:Phi} {f:Df} {ds:List D} {μ:Sto} (h:ds.length=f.np):qg φ f ds μ=(b8 φ f.body (ds.map some++List.replicate (f.nn-f.np) none) μ).bind finD:=by
 rw[qg,if_pos h];rfl
theorem cw (b:Nat):∀(k:Nat) (d:D),D.pureN k d=true->D.belowN b k d=true
 | 0,d,h=>by cases d<;>simp_all[D.pureN,D.belowN]
 | k+1,d,h=>by
  cases d with
  | tup ds =>
   simp![D.pureN,D.belowN,BX]at h ⊢
   exact λx hx=>cw b k x (h x hx)
  | lst ds =>
   simp![D.pureN,D.belowN,BX]at h ⊢
   exact λx hx=>cw b k x (h x hx)
  | loc n=>simp[D.pureN]at h
  | _=>rfl
abbrev yj (μ:Sto):Prop:=μ.all (bz μ.length)=true
theorem lr {d:D} {μ:Sto} {b:Nat} (hd:d.pure=true) (hb:μ.length=b) (hr:yj μ):eo false b (.ok d μ)=.ok d μ:=by
 have e:μ.take b=μ:=List.take_of_length_le (by omega)
 have hr':μ.all (bz b)=true:=by rw[<-hb];exact hr
 simp![eo,CC,if_false,e,cw b 8 d hd,hr',and_self,if_true]
@[simp] theorem du {d:D} {μ:Sto} {b:Nat}:eo true b (.ok d μ)=.ok d μ:=by simp[eo]
theorem op_mul {i j:Int} {μ:Sto} (h:CMul i j):opI .Mult i j μ=.ok (.int (i*j)) μ:=by simp[opI,h]
theorem op_mod {i j:Int} {μ:Sto} (h:0<j):opI .Mod i j μ=.ok (.int (i % j)) μ:=by simp[opI,h]
theorem op_add {i j:Int} {μ:Sto}:opI .Add i j μ=.ok (.int (i+j)) μ:=rfl
theorem op_sub {i j:Int} {μ:Sto}:opI .Sub i j μ=.ok (.int (i-j)) μ:=rfl
theorem op_pow {i:Int} {j:Int} {μ:Sto} (h:0<=j/\j<=1000000/\i.natAbs<2 ^ 64):opI .Pow i j μ=.ok (.int (i ^ j.toNat)) μ:=by simp[opI,h]
theorem op_shr {i j:Int} {μ:Sto} (h:0<=j):opI .RShift i j μ=.ok (.int (i / 2 ^ j.toNat)) μ:=by simp[opI,h]
theorem jv {op:Operator} {m:Mk} {i j:Int} {μ:Sto}:opD op m (.int i) (.int j) μ=opI op i j μ:=rfl
open PySem
section
variable (φ : Phi)
def Ew (o:Option (Option D)) (μ:Sto):Res D:=match o with
 | some (some d)=>.ok d μ
 | _=>.stuck
def kB (op:Operator) (m:Mk) (b:Ex) (σ:Sl) (x:D) (μ:Sto):Res D:=(evE φ b σ μ).bind (opD op m x)
def kNeg (x:D) (μ:Sto):Res D:=match x with
 | .int i=>.ok (.int (-i)) μ
 | _=>.stuck
def kNot (x:D) (μ:Sto):Res D:=match x with
 | .bl b=>.ok (.bl (!b)) μ
 | _=>.stuck
def D9 (b:Ex) (σ:Sl) (x:D) (μ:Sto):Res D:=match x with
 | .bl c=>if c=true then evE φ b σ μ else .ok (.bl false) μ
 | _=>.stuck
def kOr (b:Ex) (σ:Sl) (x:D) (μ:Sto):Res D:=match x with
 | .bl c=>if c=true then .ok (.bl true) μ else evE φ b σ μ
 | _=>.stuck
def Ea (a b:Ex) (σ:Sl) (x:D) (μ:Sto):Res D:=match x with
 | .bl c=>if c=true then evE φ a σ μ else evE φ b σ μ
 | _=>.stuck
def Ey (r:Cps) (σ:Sl) (x:D) (μ:Sto):Res D:=evC φ r x σ μ
def Cg (r:Cps) (y:D) (σ:Sl) (z:D) (μ:Sto):Res D:=match z with
 | .bl b=>if b=true then evC φ r y σ μ else .ok (.bl false) μ
 | _=>.stuck
def kCh (op:Cp) (x:D) (r:Cps) (σ:Sl) (y:D) (μ:Sto):Res D:=(cpD op x y μ).bind (Cg φ r y σ)
def i8 (keep:Bool) (f:Nat) (ds:List D) (μ:Sto):Res D:=eo keep μ.length (φ f ds μ)
def kM (mt:Mt) (es:Exs) (σ:Sl) (x:D) (μ:Sto):Res D:=if tx mt x μ=true then(cc φ es σ μ).bind (mtD mt x)else .stuck
def kIx (b:Ex) (σ:Sl) (x:D) (μ:Sto):Res D:=(evE φ b σ μ).bind (ixD x)
def Eb (m:Mk) (hi:ExO) (σ:Sl) (x:D) (l:Option Int) (μ:Sto):Res D:=(evO φ hi σ μ).bind (slD m x l)
def kSl (m:Mk) (lo hi:ExO) (σ:Sl) (x:D) (μ:Sto):Res D:=(evO φ lo σ μ).bind (Eb φ m hi σ x)
def kTup (ds:List D) (μ:Sto):Res D:=.ok (.tup ds) μ
def Ec (d:D) (ds:List D) (μ:Sto):Res (List D):=.ok (d::ds) μ
def kEs (es:Exs) (σ:Sl) (d:D) (μ:Sto):Res (List D):=(cc φ es σ μ).bind (Ec d)
def kInt (x:D) (μ:Sto):Res (Option Int):=match x with
 | .int i=>.ok (some i) μ
 | _=>.stuck
def kOne (x:D) (μ:Sto):Res (List D):=.ok [x] μ
def Ci (elt:Ex) (σ:Sl) (b:Bool) (μ:Sto):Res (List D):=if b=true then(evE φ elt σ μ).bind kOne else .ok [] μ
def Ez (cs:Exs) (elt:Ex) (μ:Sto) (σ:Sl):Res (List D):=(mw φ cs σ μ).bind (Ci φ elt σ)
def Cj (tg:Tg) (cs:Exs) (elt:Ex) (σ0:Sl) (d:D) (μ:Sto):Res (List D):=cg (br tg d σ0) (Ez φ cs elt μ)
def sk (m:Mk) (tg:Tg) (cs:Exs) (elt:Ex) (σ0:Sl) (w:List D×Gd) (μ:Sto):Res D:=(mapR w.2 (Cj φ tg cs elt σ0) w.1 μ).bind (mkL m)
def kCs (es:Exs) (σ:Sl) (x:D) (μ:Sto):Res Bool:=match x with
 | .bl b=>if b=true then mw φ es σ μ else .ok false μ
 | _=>.stuck
def kSeq (x:D) (μ:Sto):Res (List D×Gd):=match cj μ x with
 | some w=>.ok w μ
 | none=>.stuck
def kRng (x:D) (μ:Sto):Res (List D×Gd):=match x with
 | .int j=>if -(lim:Int)<=j/\j<=lim then .ok ((List.range j.toNat).map fun(i:Nat)=>D.int i,none) μ else .stuck
 | _=>.stuck
def uh (x y:D) (μ:Sto):Res (List D×Gd):=match x,y with
 | .int i,.int j=>if -(lim:Int)<=i/\i<=lim/\j<=lim /\ -(lim:Int)<=j/\(j-i)<=lim then .ok ((List.range (j-i).toNat).map fun(k:Nat)=>D.int (i+k),none) μ else .stuck
 | _,_=>.stuck
def Ax (b:Ex) (σ:Sl) (x:D) (μ:Sto):Res (List D×Gd):=(evE φ b σ μ).bind (uh x)
def Ay (x y:D) (μ:Sto):Res (List D×Gd):=match cj μ x,eh [] y with
 | some w,some ys=>.ok ((w.1.zip ys).map λp=>.tup [p.1,p.2],w.2) μ
 | _,_=>.stuck
def E1 (b:Ex) (σ:Sl) (x:D) (μ:Sto):Res (List D×Gd):=(evE φ b σ μ).bind (Ay x)
def kEnum (x:D) (μ:Sto):Res (List D×Gd):=match cj μ x with
 | some w=>.ok ((List.range w.1.length |>.zip w.1).map fun(p:Nat×D)=>.tup [.int p.1,p.2],w.2) μ
 | none=>.stuck
def kVals (x:D) (μ:Sto):Res (List D×Gd):=match x with
 | .loc n=>match μ[n]? with
  | some (.d kvs)=>.ok (kvs.map (·.2),none) (μ.set n .dead)
  | _=>.stuck
 | _=>.stuck
def E2 (i:Nat) (σ:Sl) (d:D) (μ:Sto):Res Fl:=.ok (.nx (σ.set i (some d))) μ
def Ed (o:Option Sl) (μ:Sto):Res Fl:=match o with
 | some σ'=>.ok (.nx σ') μ
 | none=>.stuck
def E3 (is:List Nat) (σ:Sl) (d:D) (μ:Sto):Res Fl:=Ed (br (.many is) d σ) μ
def kNx {α:Type} (σ:Sl) (_:α) (μ:Sto):Res Fl:=.ok (.nx σ) μ
def Ee (σ:Sl) (d x:D) (y:D) (μ:Sto):Res Fl:=(yh x y d μ).bind (kNx σ)
def Ef (i:Ex) (σ:Sl) (d:D) (x:D) (μ:Sto):Res Fl:=(evE φ i σ μ).bind (Ee σ d x)
def kSx (o i:Ex) (σ:Sl) (d:D) (μ:Sto):Res Fl:=(evE φ o σ μ).bind (Ef φ i σ d)
def kIf (a b:Sms) (σ:Sl) (x:D) (μ:Sto):Res Fl:=match x with
 | .bl k=>if k=true then b8 φ a σ μ else b8 φ b σ μ
 | _=>.stuck
def kLp (b:Sms) (μ:Sto) (σ:Sl):Res Fl:=b8 φ b σ μ
def fLp (tg:Tg) (b:Sms) (d:D) (σ:Sl) (μ:Sto):Res Fl:=cg (br tg d σ) (kLp φ b μ)
def Az (tg:Tg) (b:Sms) (σ:Sl) (w:List D×Gd) (μ:Sto):Res Fl:=de w.2 (fLp φ tg b) w.1 σ μ
def kRet (d:D) (μ:Sto):Res Fl:=.ok (.rt d) μ
def kSs (r:Sms) (fl:Fl) (μ:Sto):Res Fl:=match fl with
 | .nx σ'=>b8 φ r σ' μ
 | fl=>.ok fl μ
end
section
variable {φ : Phi} {σ : Sl} {μ : Sto} {a b c e o i : Ex} {es : Exs} {m : Mk} {op : Operator} {r : Cps} {s : Sm} {rs : Sms}
theorem A0 {i:Nat}:evE φ (.var i) σ μ=Ew σ[i]? μ:=rfl
theorem A1 {d:D}:evE φ (.cst d) σ μ=.ok d μ:=rfl
theorem A2:evE φ (.bin op m a b) σ μ=(evE φ a σ μ).bind (kB φ op m b σ):=rfl
theorem A3:evE φ (.neg a) σ μ=(evE φ a σ μ).bind kNeg:=rfl
theorem A4:evE φ (.not a) σ μ=(evE φ a σ μ).bind kNot:=rfl
theorem A5:evE φ (.and a b) σ μ=(evE φ a σ μ).bind (D9 φ b σ):=rfl
theorem E4:evE φ (.or a b) σ μ=(evE φ a σ μ).bind (kOr φ b σ):=rfl
theorem A6:evE φ (.ite c a b) σ μ=(evE φ c σ μ).bind (Ea φ a b σ):=rfl
theorem A7:evE φ (.cmp a r) σ μ=(evE φ a σ μ).bind (Ey φ r σ):=rfl
theorem sm {α:Type} (x:Res α):(x.bind λa μ=>.ok a μ)=x:=by cases x<;>rfl
theorem A8 {op:Cp} {x:D}:evC φ (.cons op e .nil) x σ μ=(evE φ e σ μ).bind (cpD op x):=by
 simp![evC,sm]
theorem ui {op op':Cp} {x:D} {e':Ex}:evC φ (.cons op e (.cons op' e' r)) x σ μ=(evE φ e σ μ).bind (kCh φ op x (.cons op' e' r) σ):=by
 rw[evC]
 all_goals rfl
theorem uj {keep:Bool} {f:Nat}:evE φ (.call keep f es) σ μ=(cc φ es σ μ).bind (i8 φ keep f):=rfl
theorem A9 {b:Bt}:evE φ (.blt b m es) σ μ=(cc φ es σ μ).bind (btD b m):=rfl
theorem Ba {c:Cl}:evE φ (.isi a c) σ μ=(evE φ a σ μ).bind (qz c):=rfl
theorem uk {mt:Mt}:evE φ (.meth mt o es) σ μ=(evE φ o σ μ).bind (kM φ mt es σ):=rfl
theorem E5:evE φ (.ix a b) σ μ=(evE φ a σ μ).bind (kIx φ b σ):=rfl
theorem E6 {lo hi:ExO}:evE φ (.sl m a lo hi) σ μ=(evE φ a σ μ).bind (kSl φ m lo hi σ):=rfl
theorem Bb:evE φ (.tup es) σ μ=(cc φ es σ μ).bind kTup:=rfl
theorem Bc:evE φ (.lst m es) σ μ=(cc φ es σ μ).bind (mkL m):=rfl
theorem Bd {t:Bool}:evE φ (.dic t es) σ μ=(cc φ es σ μ).bind (Es t):=rfl
theorem um {cap:List Nat} {nl:Nat} {tg:Tg} {it:It} {cs:Exs} {elt:Ex}:evE φ (.comp m cap nl tg it cs elt) σ μ=(evI φ it σ μ).bind (sk φ m tg cs elt (cap.map (λi=>(σ[i]?).getD none)++List.replicate nl none)):=rfl
theorem uo:cc φ .nil σ μ=.ok [] μ:=rfl
theorem oj:cc φ (.cons e es) σ μ=(evE φ e σ μ).bind (kEs φ es σ):=rfl
theorem E7:evO φ .no σ μ=.ok none μ:=rfl
theorem E8:evO φ (.so e) σ μ=(evE φ e σ μ).bind kInt:=rfl
theorem uq:mw φ .nil σ μ=.ok true μ:=rfl
theorem om:mw φ (.cons e es) σ μ=(evE φ e σ μ).bind (kCs φ es σ):=rfl
theorem Be:evI φ (.seq e) σ μ=(evE φ e σ μ).bind kSeq:=rfl
theorem Bf:evI φ (.rng e) σ μ=(evE φ e σ μ).bind kRng:=rfl
theorem ur:evI φ (.rng2 a b) σ μ=(evE φ a σ μ).bind (Ax φ b σ):=rfl
theorem Bg:evI φ (.zip a b) σ μ=(evE φ a σ μ).bind (E1 φ b σ):=rfl
theorem uu:evI φ (.enum a) σ μ=(evE φ a σ μ).bind kEnum:=rfl
theorem uv:evI φ (.vals a) σ μ=(evE φ a σ μ).bind kVals:=rfl
theorem Bh {i:Nat}:evS φ (.set i e) σ μ=(evE φ e σ μ).bind (E2 i σ):=rfl
theorem Bi {is:List Nat}:evS φ (.unp is e) σ μ=(evE φ e σ μ).bind (E3 is σ):=rfl
theorem uw:evS φ (.setx o i e) σ μ=(evE φ e σ μ).bind (kSx φ o i σ):=rfl
theorem E9:evS φ (.ex e) σ μ=(evE φ e σ μ).bind (kNx σ):=rfl
theorem Bj {x y:Sms}:evS φ (.ite c x y) σ μ=(evE φ c σ μ).bind (kIf φ x y σ):=rfl
theorem ux {tg:Tg} {it:It} {b:Sms}:evS φ (.loop tg it b) σ μ=(evI φ it σ μ).bind (Az φ tg b σ):=rfl
theorem Bk:evS φ (.ret e) σ μ=(evE φ e σ μ).bind kRet:=rfl
theorem uy:evS φ .pass σ μ=.ok (.nx σ) μ:=rfl
theorem Bl:evS φ .brk σ μ=.ok (.bk σ) μ:=rfl
theorem uz:evS φ .cont σ μ=.ok (.ct σ) μ:=rfl
theorem u0:b8 φ .nil σ μ=.ok (.nx σ) μ:=rfl
theorem oo:b8 φ (.cons s rs) σ μ=(evS φ s σ μ).bind (kSs φ rs):=rfl
theorem g8 {f:Nat} {ds:List D} {d:D} {μ':Sto} (h:φ f ds μ=.ok d μ') (hd:d.pure=true) (hl:μ'.length=μ.length) (hr:yj μ'):i8 φ false f ds μ=.ok d μ':=by
 rw[i8,h,lr hd hl hr]
theorem i9 {d:D}:Ew (some (some d)) μ=.ok d μ:=rfl
theorem ka {i:Int}:kNeg (.int i) μ=.ok (.int (-i)) μ:=rfl
theorem oq {b:Bool}:kNot (.bl b) μ=.ok (.bl (!b)) μ:=rfl
theorem u3 {b:Ex}:D9 φ b σ (.bl true) μ=evE φ b σ μ:=rfl
theorem u4 {b:Ex}:D9 φ b σ (.bl false) μ=.ok (.bl false) μ:=rfl
theorem Bm {b:Ex}:kOr φ b σ (.bl true) μ=.ok (.bl true) μ:=rfl
theorem Bo {b:Ex}:kOr φ b σ (.bl false) μ=evE φ b σ μ:=rfl
theorem u5:Ea φ a b σ (.bl true) μ=evE φ a σ μ:=rfl
theorem u6:Ea φ a b σ (.bl false) μ=evE φ b σ μ:=rfl
theorem u7 {y:D}:Cg φ r y σ (.bl true) μ=evC φ r y σ μ:=rfl
theorem u9 {y:D}:Cg φ r y σ (.bl false) μ=.ok (.bl false) μ:=rfl
theorem Bp:kCs φ es σ (.bl true) μ=mw φ es σ μ:=rfl
theorem Bq:kCs φ es σ (.bl false) μ=.ok false μ:=rfl
theorem va {elt:Ex}:Ci φ elt σ true μ=(evE φ elt σ μ).bind kOne:=rfl
theorem vb {elt:Ex}:Ci φ elt σ false μ=.ok [] μ:=rfl
theorem kc {i:Int}:kInt (.int i) μ=.ok (some i) μ:=rfl
theorem Br {x y:Sms}:kIf φ x y σ (.bl true) μ=b8 φ x σ μ:=rfl
theorem Bs {x y:Sms}:kIf φ x y σ (.bl false) μ=b8 φ y σ μ:=rfl
theorem vc {σ':Sl}:kSs φ rs (.nx σ') μ=b8 φ rs σ' μ:=rfl
theorem vd {d:D}:kSs φ rs (.rt d) μ=.ok (.rt d) μ:=rfl
theorem ve {σ':Sl}:kSs φ rs (.bk σ') μ=.ok (.bk σ') μ:=rfl
theorem vf {σ':Sl}:kSs φ rs (.ct σ') μ=.ok (.ct σ') μ:=rfl
theorem ja {σ':Sl}:Ed (some σ') μ=.ok (.nx σ') μ:=rfl
theorem kd {ds:List D}:kSeq (.tup ds) μ=.ok (ds,none) μ:=rfl
theorem kf {ds:List D}:kSeq (.lst ds) μ=.ok (ds,none) μ:=rfl
theorem yb {j:Int} (h:-1000000<=j/\j<=1000000):kRng (.int j) μ=.ok ((List.range j.toNat).map fun(i:Nat)=>D.int i,none) μ:=by
 have:=gr
 simp![kRng]
 rw[if_pos ⟨by lia,by lia⟩]
theorem sr {n:Nat} (h:n<=1000000):kRng (.int n) μ=.ok ((List.range n).map fun(i:Nat)=>D.int i,none) μ:=by
 rw[yb ⟨by lia,by lia⟩,Int.toNat_natCast]
theorem jb {i:Nat} {d:D}:br (.one i) d σ=some (σ.set i (some d)):=rfl
theorem Bu {i j:Int}:cpD .lt (.int i) (.int j) μ=.ok (.bl (decide (i<j))) μ:=rfl
theorem Bv {i j:Int}:cpD .le (.int i) (.int j) μ=.ok (.bl (decide (i<=j))) μ:=rfl
theorem Bw {i j:Int}:cpD .gt (.int i) (.int j) μ=.ok (.bl (decide (j<i))) μ:=rfl
theorem Bx {i j:Int}:cpD .ge (.int i) (.int j) μ=.ok (.bl (decide (j<=i))) μ:=rfl
theorem vg {i j:Int}:cpD .eq (.int i) (.int j) μ=.ok (.bl (decide (i=j))) μ:=rfl
theorem By {x y:D} (hx:x.pure=true) (hy:y.pure=true):cpD .ne x y μ=.ok (.bl (!deq x y)) μ:=by simp[cpD,hx,hy]
theorem vh {i j:Int}:cpD .ne (.int i) (.int j) μ=.ok (.bl (!decide (i=j))) μ:=By rfl rfl
theorem vi {i j:Bool}:cpD .ne (.bl i) (.bl j) μ=.ok (.bl (!(i==j))) μ:=By rfl rfl
theorem Eg {x y:D} (hx:x.pure=true) (hy:y.pure=true):cpD .eq x y μ=.ok (.bl (deq x y)) μ:=by simp[cpD,hx,hy]
theorem bt_min {i j:Int}:btD .min m [.int i,.int j] μ=.ok (.int (min i j)) μ:=by
 simp![btD,minD]
 congr 2
 split<;>lia
theorem bt_max {i j:Int}:btD .max m [.int i,.int j] μ=.ok (.int (max i j)) μ:=by
 simp![btD,maxD]
 congr 2
 split<;>lia
theorem g9 {ds:List D}:mkL .z ds μ=.ok (.lst ds) μ:=rfl
theorem ot {i j:Nat} {a b:D}:br (.many [i,j]) (.tup [a,b]) σ=some ((σ.set i (some a)).set j (some b)):=rfl
theorem ou {i j k:Nat} {a b c:D}:br (.many [i,j,k]) (.tup [a,b,c]) σ=some (((σ.set i (some a)).set j (some b)).set k (some c)):=rfl
theorem ov {i j k l:Nat} {a b c d:D}:br (.many [i,j,k,l]) (.tup [a,b,c,d]) σ=some ((((σ.set i (some a)).set j (some b)).set k (some c)).set l (some d)):=rfl
theorem ow {i j k l m:Nat} {a b c d e:D}:br (.many [i,j,k,l,m]) (.tup [a,b,c,d,e]) σ=some (((((σ.set i (some a)).set j (some b)).set k (some c)).set l (some d)).set m (some e)):=rfl
theorem yc {α:Type} {tg:Tg} {b:Sms} {xs:List α} {en:α->D} (I:Nat->Sl->Prop) (h0:I 0 σ) (st:∀(k:Nat) a σ,xs[k]? = some a->I k σ->∃σ',fLp φ tg b (en a) σ μ=.ok (.nx σ') μ/\I (k+1) σ') :
  ∃σ',Az φ tg b σ (xs.map en,none) μ=.ok (.nx σ') μ/\I xs.length σ':=by
 obtain⟨σ',μ',e,rfl,i⟩:=j9 (f:=fLp φ tg b) (λk σ μ'=>μ'=μ/\I k σ) (ds:=xs.map en) (σ:=σ) (μ:=μ) 0 ⟨rfl,h0⟩ λj d σ μ' e ⟨q,i⟩=>by
  subst q
  rw[BH]at e
  cases ex:xs[j]? with
  | none=>rw[ex]at e;cases e
  | some a =>
   rw[ex]at e
   cases e
   obtain⟨σ',e',i'⟩:=st j a σ ex (by simpa using i)
   exact⟨σ',_,e',rfl,by simpa using i'⟩
 exact⟨σ',e,by simpa using i⟩
theorem comp_map {α:Type} {tg:Tg} {cs:Exs} {elt:Ex} {σ0:Sl} {xs:List α} {en:α->D} {g:α->D} (h:∀a∈xs,Cj φ tg cs elt σ0 (en a) μ=.ok [g a] μ):sk φ m tg cs elt σ0 (xs.map en,none) μ=mkL m (xs.map g) μ:=by
 have e:mapR none (Cj φ tg cs elt σ0) (xs.map en) μ=.ok (xs.map g) μ:=by
  induction xs with
  | nil=>simp[mapR]
  | cons a r ih =>
   simp![BJ,mapR,mv,if_true,h a AY,Res.az,ih λx hx=>h x (AV _ hx)]
   rfl
 rw[sk]
 show(mapR none _ (xs.map en) μ).bind _=_
 rw[e];rfl
def many {S α:Type} (G:S->α×S):Nat->S->List α×S
 | 0,s=>([],s)
 | n+1,s=>((G s).1::(many G n (G s).2).1,(many G n (G s).2).2)
theorem Bz {x:D}:kB φ op m b σ x μ=(evE φ b σ μ).bind (opD op m x):=rfl
theorem ox {x:D}:Ey φ r σ x μ=evC φ r x σ μ:=rfl
theorem vj {o:Cp} {x y:D}:kCh φ o x r σ y μ=(cpD o x y μ).bind (Cg φ r y σ):=rfl
theorem vk {x:D}:kIx φ b σ x μ=(evE φ b σ μ).bind (ixD x):=rfl
theorem oy {hi:ExO} {x:D} {l:Option Int}:Eb φ m hi σ x l μ=(evO φ hi σ μ).bind (slD m x l):=rfl
theorem vl {lo hi:ExO} {x:D}:kSl φ m lo hi σ x μ=(evO φ lo σ μ).bind (Eb φ m hi σ x):=rfl
theorem oz {ds:List D}:kTup ds μ=.ok (.tup ds) μ:=rfl
theorem o5 {d:D} {ds:List D}:Ec d ds μ=.ok (d::ds) μ:=rfl
theorem vm {d:D}:kEs φ es σ d μ=(cc φ es σ μ).bind (Ec d):=rfl
theorem o6 {x:D}:kOne x μ=.ok [x] μ:=rfl
theorem o7 {cs:Exs} {elt:Ex}:Ez φ cs elt μ σ=(mw φ cs σ μ).bind (Ci φ elt σ):=rfl
theorem kg {x:D}:Ax φ b σ x μ=(evE φ b σ μ).bind (uh x):=rfl
theorem o8 {x:D}:E1 φ b σ x μ=(evE φ b σ μ).bind (Ay x):=rfl
theorem o9 {i:Nat} {d:D}:E2 i σ d μ=.ok (.nx (σ.set i (some d))) μ:=rfl
theorem pd {is:List Nat} {d:D}:E3 is σ d μ=Ed (br (.many is) d σ) μ:=rfl
theorem pe {d:D}:kNx σ d μ=.ok (.nx σ) μ:=rfl
theorem pf {d:Unit}:kNx σ d μ=.ok (.nx σ) μ:=rfl
theorem pg {d x y:D}:Ee σ d x y μ=(yh x y d μ).bind (kNx σ):=rfl
theorem ph {i:Ex} {d x:D}:Ef φ i σ d x μ=(evE φ i σ μ).bind (Ee σ d x):=rfl
theorem vn {o i:Ex} {d:D}:kSx φ o i σ d μ=(evE φ o σ μ).bind (Ef φ i σ d):=rfl
theorem vo {b:Sms}:kLp φ b μ σ=b8 φ b σ μ:=rfl
theorem pj {d:D}:kRet d μ=.ok (.rt d) μ:=rfl
theorem kh {n:Nat}:List.replicate (n+1) (none:Option D)=none::List.replicate n none:=rfl
theorem ki:List.replicate 0 (none:Option D)=[]:=rfl
end
section
variable {φ : Phi} {σ : Sl} {μ : Sto}
def Fb (φ:Phi) (b:Ex) (σ:Sl) (x:D) (μ:Sto):Res D:=(evE φ b σ μ).bind (Dj x)
def Ck (σ:Sl) (x y z:D) (μ:Sto):Res Fl:=(yh x y z μ).bind (kNx σ)
def Cm (op:Operator) (σ:Sl) (x y old d:D) (μ:Sto):Res Fl:=(Er op old d μ).bind (Ck σ x y)
def Eh (φ:Phi) (op:Operator) (e:Ex) (σ:Sl) (x y old:D) (μ:Sto):Res Fl:=(evE φ e σ μ).bind (Cm op σ x y old)
def Ei (φ:Phi) (op:Operator) (e:Ex) (σ:Sl) (x y:D) (μ:Sto):Res Fl:=(ixL x y μ).bind (Eh φ op e σ x y)
def Fc (φ:Phi) (op:Operator) (i e:Ex) (σ:Sl) (x:D) (μ:Sto):Res Fl:=(evE φ i σ μ).bind (Ei φ op e σ x)
theorem B0 {a b:Ex}:evE φ (.dix a b) σ μ=(evE φ a σ μ).bind (Fb φ b σ):=rfl
theorem pk {b:Ex} {x:D}:Fb φ b σ x μ=(evE φ b σ μ).bind (Dj x):=rfl
theorem vp {op:Operator} {o i e:Ex}:evS φ (.augx op o i e) σ μ=(evE φ o σ μ).bind (Fc φ op i e σ):=rfl
theorem pq {op:Operator} {i e:Ex} {x:D}:Fc φ op i e σ x μ=(evE φ i σ μ).bind (Ei φ op e σ x):=rfl
theorem p9 {op:Operator} {e:Ex} {x y:D}:Ei φ op e σ x y μ=(ixL x y μ).bind (Eh φ op e σ x y):=rfl
theorem qa {op:Operator} {e:Ex} {x y old:D}:Eh φ op e σ x y old μ=(evE φ e σ μ).bind (Cm op σ x y old):=rfl
theorem kj {x y:D} {i j:Int}:Cm .Add σ x y (.int i) (.int j) μ=Ck σ x y (.int (i+j)) μ:=rfl
theorem kl {x y:D} {i j:Int}:Cm .Sub σ x y (.int i) (.int j) μ=Ck σ x y (.int (i-j)) μ:=rfl
theorem qb {x y z:D}:Ck σ x y z μ=(yh x y z μ).bind (kNx σ):=rfl
end
section
variable {μ : Sto}
theorem Fd {α β:Type} (a:α) (f:α->Sto->Res β):(Res.ok a μ).bind f=f a μ:=rfl
theorem Fe {α β:Type} (a:α) (k:α->Res β):cg (some a) k=k a:=rfl
theorem Gj (d:D):finD (.rt d) μ=.ok d μ:=rfl
theorem Gk (σ:Sl):finD (.nx σ) μ=.ok .non μ:=rfl
theorem Gm {α β:Type} (f:α->β) (a:α) (l:List α):(a::l).map f=f a::l.map f:=rfl
theorem Gn {α β:Type} (f:α->β):([]:List α).map f=[]:=rfl
theorem Gp {α:Type} (a:α) (l m:List α):a::l++m=a::(l++m):=rfl
theorem Gq {α:Type} (m:List α):[]++m=m:=rfl
theorem Gr {α:Type} (a:α) (l:List α):(a::l)[0]? = some a:=rfl
theorem Gs {α:Type} (a:α) (l:List α) (i:Nat):(a::l)[i+1]? = l[i]?:=rfl
theorem Gu {α:Type} (a b:α) (l:List α):(a::l).set 0 b=b::l:=rfl
theorem Gv {α:Type} (a b:α) (l:List α) (i:Nat):(a::l).set (i+1) b=a::l.set i b:=rfl
theorem Gw {α:Type} (a b:α):(some a).getD b=a:=rfl
theorem Gx {op:Operator} {m:Mk} {i j:Int}:opD op m (.int i) (.int j) μ=opI op i j μ:=jv
theorem Gy {i j:Int}:opI .Add i j μ=.ok (.int (i+j)) μ:=op_add
theorem Gz {i j:Int}:opI .Sub i j μ=.ok (.int (i-j)) μ:=op_sub
theorem G0 {d:D} {b:Nat}:eo true b (.ok d μ)=.ok d μ:=du
end
theorem EV1:type_of% (@A0)/\type_of% (@A1)/\type_of% (@A2)/\type_of% (@A3)/\type_of% (@A4)/\type_of% (@A5)/\type_of% (@E4)/\type_of% (@A6)/\type_of% (@A7)/\type_of% (@A8)/\type_of% (@ui)/\type_of% (@uj)/\type_of% (@A9)/\type_of% (@Ba)/\type_of% (@uk)/\type_of% (@E5)/\type_of% (@E6)/\type_of% (@Bb)/\type_of% (@Bc)/\type_of% (@Bd)/\type_of% (@um)/\type_of% (@uo)/\type_of% (@oj)/\type_of% (@E7)/\type_of% (@E8)/\type_of% (@uq)/\type_of% (@om)/\type_of% (@Be)/\type_of% (@Bf)/\type_of% (@ur)/\type_of% (@Bg)/\type_of% (@uu):=⟨@A0,@A1,@A2,@A3,@A4,@A5,@E4,@A6,@A7,@A8,@ui,@uj,@A9,@Ba,@uk,@E5,@E6,@Bb,@Bc,@Bd,@um,@uo,@oj,@E7,@E8,@uq,@om,@Be,@Bf,@ur,@Bg,@uu⟩
theorem EV2:type_of% (@uv)/\type_of% (@Bh)/\type_of% (@Bi)/\type_of% (@uw)/\type_of% (@E9)/\type_of% (@Bj)/\type_of% (@ux)/\type_of% (@Bk)/\type_of% (@uy)/\type_of% (@Bl)/\type_of% (@uz)/\type_of% (@u0)/\type_of% (@oo)/\type_of% (@i9)/\type_of% (@Bz)/\type_of% (@ka)/\type_of% (@oq)/\type_of% (@u3)/\type_of% (@u4)/\type_of% (@Bm)/\type_of% (@Bo)/\type_of% (@u5)/\type_of% (@u6)/\type_of% (@ox)/\type_of% (@u7)/\type_of% (@u9)/\type_of% (@vj)/\type_of% (@vk)/\type_of% (@vl)/\type_of% (@oy)/\type_of% (@oz)/\type_of% (@vm):=⟨@uv,@Bh,@Bi,@uw,@E9,@Bj,@ux,@Bk,@uy,@Bl,@uz,@u0,@oo,@i9,@Bz,@ka,@oq,@u3,@u4,@Bm,@Bo,@u5,@u6,@ox,@u7,@u9,@vj,@vk,@vl,@oy,@oz,@vm⟩
theorem EV3:type_of% (@o5)/\type_of% (@kc)/\type_of% (@o6)/\type_of% (@va)/\type_of% (@vb)/\type_of% (@o7)/\type_of% (@Bp)/\type_of% (@Bq)/\type_of% (@kd)/\type_of% (@kf)/\type_of% (@kg)/\type_of% (@o8)/\type_of% (@o9)/\type_of% (@pd)/\type_of% (@ja)/\type_of% (@pe)/\type_of% (@pf)/\type_of% (@vn)/\type_of% (@ph)/\type_of% (@pg)/\type_of% (@Br)/\type_of% (@Bs)/\type_of% (@vo)/\type_of% (@pj)/\type_of% (@vc)/\type_of% (@vd)/\type_of% (@ve)/\type_of% (@vf)/\type_of% (@Res.az)/\type_of% (@c6)/\type_of% (@jb)/\type_of% (@ot):=⟨@o5,@kc,@o6,@va,@vb,@o7,@Bp,@Bq,@kd,@kf,@kg,@o8,@o9,@pd,@ja,@pe,@pf,@vn,@ph,@pg,@Br,@Bs,@vo,@pj,@vc,@vd,@ve,@vf,@Res.az,@c6,@jb,@ot⟩
theorem EV4:type_of% (@ou)/\type_of% (@ov)/\type_of% (@ow)/\type_of% (@jv)/\type_of% (@op_add)/\type_of% (@op_sub)/\type_of% (@Bu)/\type_of% (@Bv)/\type_of% (@Bw)/\type_of% (@Bx)/\type_of% (@vg)/\type_of% (@vh)/\type_of% (@vi)/\type_of% (@bt_min)/\type_of% (@bt_max)/\type_of% (@g9)/\type_of% (@og)/\type_of% (@oh)/\type_of% (@BJ.{0,0})/\type_of% (@CK.{0,0})/\type_of% (@kh)/\type_of% (@ki)/\type_of% (@Db.{0})/\type_of% (@FE.{0})/\type_of% (@EY.{0})/\type_of% (@EZ.{0})/\type_of% (@List.set_cons_zero.{0})/\type_of% (@List.set_cons_succ.{0})/\type_of% (@EW.{0})/\type_of% (@du):=⟨@ou,@ov,@ow,@jv,@op_add,@op_sub,@Bu,@Bv,@Bw,@Bx,@vg,@vh,@vi,@bt_min,@bt_max,@g9,@og,@oh,@BJ.{0,0},@CK.{0,0},@kh,@ki,@Db.{0},@FE.{0},@EY.{0},@EZ.{0},@List.set_cons_zero.{0},@List.set_cons_succ.{0},@EW.{0},@du⟩
theorem EV5:type_of% (@B0)/\type_of% (@pk)/\type_of% (@vp)/\type_of% (@pq)/\type_of% (@p9)/\type_of% (@qa)/\type_of% (@kj)/\type_of% (@kl)/\type_of% (@qb):=⟨@B0,@pk,@vp,@pq,@p9,@qa,@kj,@kl,@qb⟩
end Lr
namespace Lp
open PySem
abbrev bh:Nat:=6
abbrev b7:Nat:=177
abbrev av:Nat:=183
abbrev aq:Nat:=184
abbrev ba:Nat:=185
abbrev fj:Nat:=186
def D_law_whole:Df:=⟨1,1,(.cons (.ret (.and (.isi (.var 0) .int) (.not (.isi (.var 0) .bool)))) .nil)⟩
def D_law_kinds:Df:=⟨1,2,(.cons (.set 1 (.lst .z (.cons (.isi (.var 0) (.own "BadBook")) (.cons (.isi (.var 0) (.own "BadTicks")) (.cons (.isi (.var 0) (.own "NoDeed")) (.cons (.isi (.var 0) (.own "NoRest")) .nil)))))) (.cons (.ret (.bin .Add .z (.var 1) (.lst .z (.cons (.isi (.var 0) (.own "BadRow")) (.cons (.isi (.var 0) (.own "ValueError")) .nil))))) .nil))⟩
def D_law_raised:Df:=⟨2,2,(.cons (.ite (.cmp (.var 0) (.cons .eq (.cst (.int 0)) .nil)) (.cons (.raise "BadBook" (.cons (.cst (.str (PySem.Str.ofString "one"))) .nil)) .nil) .nil) (.cons (.ite (.cmp (.var 0) (.cons .eq (.cst (.int 1)) .nil)) (.cons (.raise "BadTicks" (.cons (.cst (.str (PySem.Str.ofString "one"))) .nil)) .nil) .nil) (.cons (.ite (.cmp (.var 0) (.cons .eq (.cst (.int 2)) .nil)) (.cons (.raise "NoDeed" (.cons (.cst (.str (PySem.Str.ofString "one"))) .nil)) .nil) .nil) (.cons (.ite (.cmp (.var 0) (.cons .eq (.cst (.int 3)) .nil)) (.cons (.raise "NoRest" (.cons (.cst (.str (PySem.Str.ofString "one"))) .nil)) .nil) .nil) (.cons (.raise "BadRow" (.cons (.var 1) .nil)) .nil)))))⟩
def D_law_row_kept:Df:=⟨1,3,(.cons (.set 1 (.cst .non)) (.cons (.tryi 2 1 (.var 0)) (.cons (.ret (.and (.call false bh (.cons (.var 1) .nil)) (.cmp (.var 1) (.cons .eq (.var 0) .nil)))) .nil)))⟩
def bq:Ex:=(.cmp (.var 0) (.cons .eq (.var 1) .nil))
def D_law_apart:Df:=⟨2,4,(.cons (.set 2 (.lst .z .nil)) (.cons (.tryc av (.cons (.var 0) (.cons (.var 1) .nil)) 3 (.cons (.set 2 (.call false b7 (.cons (.var 3) .nil))) .nil)) (.cons (.ret (.cmp (.var 2) (.cons .eq (.bin .Add .z (.comp .z [0] 1 (.one 1) (.rng (.cst (.int 5))) .nil bq) (.lst .z (.cons (.cst (.bl true)) .nil))) .nil))) .nil)))⟩
def cu:Sms:=(.cons (.set 2 (.bin .Add .z (.cst (.int 1)) (.bin .Mod .z (.var 1) (.cst (.int 6001))))) (.cons (.ite (.or (.not (.call false ba (.cons (.cst (.int 4)) (.cons (.var 2) .nil)))) (.or (.not (.call false aq (.cons (.var 2) .nil))) (.not (.call false ba (.cons (.bin .Mod .z (.var 1) (.cst (.int 5))) (.cons (.var 2) .nil)))))) (.cons (.ret (.cst (.bl false))) .nil) .nil) .nil))
def D_law_k05:Df:=⟨1,3,(.cons (.loop (.one 1) (.seq (.bin .Add .z (.var 0) (.lst .z (.cons (.cst (.int 0)) .nil)))) cu) (.cons (.ret (.cst (.bl true))) .nil))⟩
def Dz:Df:=⟨0,0,.nil⟩
def GL:List Df:=[Dz,Dz,Dz,Dz,Dz,Dz,D_law_whole,Dz,Dz,Dz,Dz,Dz,Dz,Dz,Dz,Dz,Dz,Dz,Dz,Dz,Dz,Dz,Dz,Dz,Dz,Dz,Dz,Dz,Dz,Dz,Dz,Dz,Dz,Dz,Dz,Dz,Dz,Dz,Dz,Dz,Dz,Dz,Dz,Dz,Dz,Dz,Dz,Dz,Dz,Dz,Dz,Dz,Dz,Dz,Dz,Dz,Dz,Dz,Dz,Dz,Dz,Dz,Dz,Dz,Dz,Dz,Dz,Dz,Dz,Dz,Dz,Dz,Dz,Dz,Dz,Dz,Dz,Dz,Dz,Dz,Dz,Dz,Dz,Dz,Dz,Dz,Dz,Dz,Dz,Dz,Dz,Dz,Dz,Dz,Dz,Dz,Dz,Dz,Dz,Dz,Dz,Dz,Dz,Dz,Dz,Dz,Dz,Dz,Dz,Dz,Dz,Dz,Dz,Dz,Dz,Dz,Dz,Dz,Dz,Dz,Dz,Dz,Dz,Dz,Dz,Dz,Dz,Dz,Dz,Dz,Dz,Dz,Dz,Dz,Dz,Dz,Dz,Dz,Dz,Dz,Dz,Dz,Dz,Dz,Dz,Dz,Dz,Dz,Dz,Dz,Dz,Dz,Dz,Dz,Dz,Dz,Dz,Dz,Dz,Dz,Dz,Dz,Dz,Dz,Dz,Dz,Dz,Dz,Dz,Dz,Dz,Dz,Dz,Dz,Dz,Dz,Dz,D_law_kinds,Dz,Dz,Dz,Dz,Dz,D_law_raised,D_law_row_kept,D_law_apart,D_law_k05]
theorem jw:GL[bh]? = some D_law_whole:=rfl
theorem jx:GL[b7]? = some D_law_kinds:=rfl
theorem jc:GL[av]? = some D_law_raised:=rfl
theorem f9:GL[aq]? = some D_law_row_kept:=rfl
theorem jy:GL[ba]? = some D_law_apart:=rfl
theorem qc:GL[fj]? = some D_law_k05:=rfl
end Lp
local macro_rules | `(tactic| simp! only [$ls,*]) => do
  let mut a := ls.getElems
  for s in "A0 A1 A2 A3 A4 A5 E4 A6 A7 A8 ui uj A9 Ba uk E5 E6 Bb Bc Bd um uo oj E7 E8 uq om Be Bf ur Bg uu uv Bh Bi uw E9 Bj ux Bk uy Bl uz u0 oo i9 ka oq u3 u4 Bm Bo u5 u6 u7 u9 Bp Bq va vb kc Br Bs vc vd ve vf ja kd kf jb Bu Bv Bw Bx vg vh vi bt_min bt_max g9 ot ou ov ow Bz ox vj vk oy vl oz o5 vm o6 o7 kg o8 o9 pd pe pf pg ph vn vo pj kh ki B0 pk vp pq p9 qa kj kl qb Fd Fe Gj Gk Gm Gn Gp Gq Gr Gs Gu Gv Gw Gx Gy Gz G0 Nat.reduceSub decide_true decide_false Bool.not_true Bool.not_false".splitOn " " do
    a := a.push ⟨(<- `(Lean.Parser.Tactic.simpLemma| $(Lean.mkIdent ((s.splitOn ".").foldl Lean.Name.mkStr .anonymous)):ident)).raw⟩
  `(tactic| simp only [$a,*])
namespace Lr
open Lp
open PySem
def Lf (cs:List Int):O:=.l (cs.reverse.map D.int)
@[simp] theorem Ff (cs:List Int):noR (Lf cs)=true:=rfl
section
variable {n : Nat} {μ ρ : Sto}
theorem su (c:Int):ai GL (n+1) bh [.int c] μ=.ok (.bl true) μ:=by
 rw[bf jw,run_eq rfl]
 simp! only[D_law_whole,qz]
theorem sv (hr:yj μ) (c:Int):i8 (ai GL (n+1)) false bh [.int c] μ=.ok (.bl true) μ:=g8 (su c) rfl rfl hr
end
open PySem
theorem fk {k:Nat} (ih:∀d:D,D.pureN k d=true->deq d d=true):∀ds:List D,ds.all (D.pureN k)=true->lx ds ds=true
 | [],_=>by rw[lx]
 | d::r,h=>by
  simp![BK,AK]at h
  rw[lx,ih d h.1,fk ih r h.2];rfl
theorem h7:∀(k:Nat) (d:D),D.pureN k d=true->deq d d=true
 | 0,d,h=>by cases d<;>simp_all[D.pureN,deq]
 | k+1,d,h=>by
  cases d with
  | tup ds=>rw[deq];exact fk (h7 k) ds h
  | lst ds=>rw[deq];exact fk (h7 k) ds h
  | loc n=>simp[D.pureN]at h
  | _=>simp[deq]
section
variable {n : Nat} {μ ρ : Sto} {m : Mk} {φ : Phi} {σ : Sl} {es : Exs}
theorem bu {f:Nat} {ds:List D} {d:D} (h:φ f ds μ=.ok d (μ++ρ)) (hd:d.pure=true) (hr:yj μ):i8 φ false f ds μ=.ok d μ:=by
 rw[i8,h]
 have e:(μ++ρ).take μ.length=μ:=by simp
 have hr':μ.all (bz μ.length)=true:=hr
 simp![eo,CC,if_false,e,cw _ 8 d hd,hr',and_self,if_true]
end
open PySem
section
variable {φ : Phi} {σ : Sl} {μ ρ : Sto}
def kRs (c:Str) (_:List D) (μ:Sto):Res Fl:=.ok (.rt (.tup [.bl false,.str c])) μ
def kTc (φ:Phi) (f:Nat) (σ:Sl) (ei:Nat) (h:Sms) (ds:List D) (μ:Sto):Res Fl:=(jl μ.length (φ f ds μ)).bind (Cb σ ei λσ μ=>b8 φ h σ μ)
theorem fm {c:Str} {es:Exs}:evS φ (.raise c es) σ μ=(cc φ es σ μ).bind (kRs c):=rfl
theorem jd {c:Str} {ds:List D}:kRs c ds μ=.ok (.rt (.tup [.bl false,.str c])) μ:=rfl
theorem B1 {f ei:Nat} {es:Exs} {h:Sms}:evS φ (.tryc f es ei h) σ μ=(cc φ es σ μ).bind (kTc φ f σ ei h):=rfl
theorem B2 {f:Nat} {ds:List D} {d:D} {r:Sum D Str} (e:φ f ds μ=.ok d (μ++ρ)) (hd:wx d=some r) (hr:yj μ):jl μ.length (φ f ds μ)=.ok (match r with | .inl _=>none | .inr c=>some c) μ:=by
 have t:(μ++ρ).take μ.length=μ:=by simp
 have hr':μ.all (bz μ.length)=true:=hr
 rw[e]
 simp![jl,t,hr',if_true,hd]
 cases r<;>rfl
theorem B3 {f ei:Nat} {h:Sms} {ds:List D} {d:D} {c:Str} (e:φ f ds μ=.ok d (μ++ρ)) (hd:wx d=some (.inr c)) (hr:yj μ) (hc:xcls.contains c=true) :
  kTc φ f σ ei h ds μ=(b8 φ h (σ.set ei (some (.loc μ.length))) (μ++[.x c])).bind (kGo ei):=by
 rw[kTc,B2 e hd hr]
 simp![Res.az,Cb,hc,if_true]
theorem B4 {ei:Nat}:kGo ei (.nx σ) μ=.ok (.nx (σ.set ei none)) μ:=rfl
end
open PySem
theorem B5 {φ:Phi} {σ:Sl} {μ:Sto} {i j:Nat} {e:Ex}:evS φ (.tryi i j e) σ μ=(evE φ e σ μ).bind (kTi σ i j):=rfl
section
variable {n : Nat}
def yd (k:Int) (c:Str) (b0 b1 b2 b3 b4:Bool):Prop:=xcls.contains c=true/\(ia c "BadBook"=b0/\ia c "BadTicks"=b1/\ia c "NoDeed"=b2/\ia c "NoRest"=b3/\ia c "BadRow"=b4/\ia c "ValueError"=true)/\decide (k=0)=b0/\decide (k=1)=b1/\decide (k=2)=b2/\decide (k=3)=b3/\decide (k=4)=b4
theorem qd {k:Int} {c:Str} {b0 b1 b2 b3 b4:Bool} (h:yd k c b0 b1 b2 b3 b4):ai GL (n+1) b7 [.loc 0] [.x c]=.ok (.lst [.bl b0,.bl b1,.bl b2,.bl b3,.bl b4,.bl true]) [.x c]:=by
 rw[bf jx,run_eq rfl]
 obtain⟨hc,⟨e0,e1,e2,e3,e4,e5⟩,_⟩:=h
 have is:∀(d:Str) (b:Bool),ia c d=b->qz (.own d) (.loc 0) [.x c]=.ok (.bl b) [.x c]:=λd b h=>by
  have a:([O.x c]:Sto)[0]? = some (O.x c):=rfl
  simp![qz,a,hc,if_true,h]
 have op:opD .Add .z (.lst [.bl b0,.bl b1,.bl b2,.bl b3]) (.lst [.bl b4,.bl true]) [.x c]=.ok (.lst [.bl b0,.bl b1,.bl b2,.bl b3,.bl b4,.bl true]) [.x c]:=by
  have:=gr
  simp![opD,Lp.listOf]
  rw[if_pos (by simp;omega),g9];rfl
 simp! only[D_law_kinds,is "BadBook" _ e0,is "BadTicks" _ e1,is "NoDeed" _ e2,is "NoRest" _ e3,is "BadRow" _ e4,is "ValueError" _ e5,g9,op]
theorem dj {k m:Int} {c:Str} {b0 b1 b2 b3 b4:Bool} (h:yd k c b0 b1 b2 b3 b4) (hr:ai GL (n+1) av [.int k,.int m] []=.ok (.tup [.bl false,.str c]) []) :
  ai GL (n+2) ba [.int k,.int m] []=.ok (.bl true) [.x c]:=by
 rw[bf jy,run_eq rfl]
 have h0:=h
 obtain⟨hc,_,e0,e1,e2,e3,e4⟩:=h0
 have t0:∀σ ei h,kTc (ai GL (n+1)) av σ ei h [.int k,.int m] []=(b8 (ai GL (n+1)) h (σ.set ei (some (.loc 0))) [.x c]).bind (kGo ei):=λσ ei h=>B3 (μ:=[]) (ρ:=[]) (by simpa using hr) rfl rfl hc
 have kk:=g8 (qd (n:=n) h) rfl rfl rfl
 have k5:kRng (.int 5) [.x c]=.ok ([0,1,2,3,4].map D.int,none) [.x c]:=sr (n:=5) (by decide)
 have hcm:sk (ai GL (n+1)) .z (.one 1) .nil bq [some (.int k),none] ([0,1,2,3,4].map D.int,none) [.x c]=.ok (.lst ([0,1,2,3,4].map λa=>D.bl (decide (k=a)))) [.x c]:=by
  rw[comp_map (g:=λa:Int=>D.bl (decide (k=a))) λa ha=>by simp![Cj,bq,EV1,EV2,EV3,EV4,EV5,Nat.reduceSub,decide_true,decide_false,Bool.not_true,Bool.not_false]]
  rw[g9]
 have op:opD .Add .z (.lst [.bl b0,.bl b1,.bl b2,.bl b3,.bl b4]) (.lst [.bl true]) [.x c]=.ok (.lst [.bl b0,.bl b1,.bl b2,.bl b3,.bl b4,.bl true]) [.x c]:=by
  have:=gr
  simp![opD,Lp.listOf]
  rw[if_pos (by simp;omega),g9];rfl
 simp![BJ,CK,e0,e1,e2,e3,e4]at hcm k5
 have cp:cpD .eq (.lst [.bl b0,.bl b1,.bl b2,.bl b3,.bl b4,.bl true]) (.lst [.bl b0,.bl b1,.bl b2,.bl b3,.bl b4,.bl true]) [.x c]=.ok (.bl true) [.x c]:=by
  rw[Eg rfl rfl,h7 8 _ rfl]
 simp![D_law_apart,EV1,EV2,EV3,EV4,EV5,Nat.reduceSub,decide_true,decide_false,Bool.not_true,Bool.not_false,B1,g9,t0,B4,kk,k5,hcm,op,cp]
theorem lu {m:Int}:ai GL (n+2) aq [.int m] []=.ok (.bl true) []:=by
 rw[bf f9,run_eq rfl]
 have w:=sv (n:=n) (μ:=[]) rfl m
 have kt:∀σ,kTi σ 2 1 (.int m) []=.ok (.nx ((σ.set 1 (some (.int m))).set 2 none)) []:=λσ=>rfl
 simp! only[D_law_row_kept,B5,kt,w]
theorem qe {k m:Int}:ai GL (n+1) av [.int k,.int m] []=.ok (.tup [.bl false,.str (if k=0 then "BadBook" else if k=1 then "BadTicks" else if k=2 then "NoDeed" else if k=3 then "NoRest" else "BadRow")]) []:=by
 rw[bf jc,run_eq rfl]
 by_cases h0:k=0
 ·simp! only[D_law_raised,h0,fm,jd,if_true]
 by_cases h1:k=1
 ·simp! only[D_law_raised,h0,h1,fm,jd,if_true,if_false,Int.reduceEq]
 by_cases h2:k=2
 ·simp! only[D_law_raised,h0,h1,h2,fm,jd,if_true,if_false,Int.reduceEq]
 by_cases h3:k=3
 ·simp! only[D_law_raised,h0,h1,h2,h3,fm,jd,if_true,if_false,Int.reduceEq]
 ·simp! only[D_law_raised,h0,h1,h2,h3,fm,jd,if_false]
theorem km {k m:Int} (hk:0<=k/\k<5):i8 (ai GL (n+2)) false ba [.int k,.int m] []=.ok (.bl true) []:=by
 have r:=qe (n:=n) (k:=k) (m:=m)
 obtain h | h | h | h | h:k=0\/k=1\/k=2\/k=3\/k=4:=by omega
 all_goals subst h
 ·exact bu (ρ:=[.x "BadBook"]) (dj (b0:=true) (b1:=false) (b2:=false) (b3:=false) (b4:=false) (by unfold yd;decide) r) rfl rfl
 ·exact bu (ρ:=[.x "BadTicks"]) (dj (b0:=false) (b1:=true) (b2:=false) (b3:=false) (b4:=false) (by unfold yd;decide) r) rfl rfl
 ·exact bu (ρ:=[.x "NoDeed"]) (dj (b0:=false) (b1:=false) (b2:=true) (b3:=false) (b4:=false) (by unfold yd;decide) r) rfl rfl
 ·exact bu (ρ:=[.x "NoRest"]) (dj (b0:=false) (b1:=false) (b2:=false) (b3:=true) (b4:=false) (by unfold yd;decide) r) rfl rfl
 ·exact bu (ρ:=[.x "BadRow"]) (dj (b0:=false) (b1:=false) (b2:=false) (b3:=false) (b4:=true) (by unfold yd;decide) r) rfl rfl
end
theorem Ej (ns:List Int) (hn:ns.length<=63):∃μ',ai GL 6 fj [.lst (ns.map D.int)] []=.ok (.bl true) μ':=by
 rw[bf qc,run_eq rfl]
 have op:opD .Add .z (.lst (ns.map D.int)) (.lst [.int 0]) []=.ok (.lst ((ns++[0]).map D.int)) []:=by
  have:=gr
  simp![opD,Lp.listOf]
  rw[if_pos (by simp;omega),g9];simp
 have ks:kSeq (.lst ((ns++[0]).map D.int)) []=.ok ((ns++[0]).map D.int,none) []:=rfl
 obtain⟨σ',el,⟨v1,v2,rfl⟩⟩:=yc (φ:=ai GL 5) (μ:=[]) (tg:=.one 1) (b:=cu) (xs:=ns++[0]) (en:=D.int) (σ:=[some (.lst (ns.map D.int)),none,none])
  (λ_ σ=>∃v1 v2,σ=[some (.lst (ns.map D.int)),v1,v2]) ⟨none,none,rfl⟩ (by
   rintro j c σ hc ⟨v1,v2,rfl⟩
   refine⟨[some (.lst (ns.map D.int)),some (.int c),some (.int (1+c % 6001))],?_,_,_,rfl⟩
   have a4:=km (n:=3) (k:=4) (m:=1+c % 6001) (by decide)
   have a5:=km (n:=3) (k:=c % 5) (m:=1+c % 6001) ⟨Int.emod_nonneg _ (by decide),Int.emod_lt_of_pos _ (by decide)⟩
   have ar:i8 (ai GL 5) false aq [.int (1+c % 6001)] []=.ok (.bl true) []:=g8 (lu (n:=3)) rfl rfl rfl
   simp! only[fLp,cu,op_mod (show(0:Int)<6001 by decide),op_mod (show(0:Int)<5 by decide),a4,a5,ar])
 refine⟨[],?_⟩
 simp! only[D_law_k05,g9,op,ks,el]
end Lr
namespace Lp.Law
open PySem PySem.Spec PyProof.Rows L2 Lp
def top (i:Nat):Stmt:=PySem.Challenge.pw_lamprota_k05_refusals_apart.main.body.getD i (.Pass ⟨0,0,0,0⟩)
def e0:Ent:=⟨bh,"_law_whole",top 8,["found"],["found"],D_law_whole⟩
def e1:Ent:=⟨aq,"_law_row_kept",top 11,["number","kept","e"],["number"],D_law_row_kept⟩
def e2:Ent:=⟨ba,"_law_apart",top 12,["which","number","heard","e"],["which","number"],D_law_apart⟩
def e3:Ent:=⟨fj,"law",top 13,["script","cell","number"],["script"],D_law_k05⟩
def x0:Ent:=⟨av,"_law_raised",top 10,["which","number"],["which","number"],D_law_raised⟩
def q0:Ent:=⟨b7,"_law_kinds",top 9,["e","heard"],["e"],D_law_kinds⟩
def ents:List Ent:=[e0,e1,e2,e3]
def h8:List Ent:=[x0]
def fo:List Ent:=[q0]
def sx:List Str:=["isinstance","int","bool","ValueError","range"]
theorem arS {k:Nat} {Q:List Value->Prop} (h:∀a us,us.length=k->Q (a::us)):∀us:List Value,us.length=k+1->Q us
 | [],e=>nomatch e
 | a::us,e=>h a us (Nat.succ.inj e)
theorem ar0 {Q:List Value->Prop} (h:∀(_:Unit),Q []):∀us:List Value,us.length=0->Q us
 | [],_=>h ()
theorem ar1 {Q:List Value->Prop} (h:∀(a0:Value),Q [a0]):∀us:List Value,us.length=1->Q us:=arS λa0=>ar0 (Q:=λus=>Q (a0::us)) (λ_=>h a0)
theorem ar2 {Q:List Value->Prop} (h:∀(a0 a1:Value),Q [a0,a1]):∀us:List Value,us.length=2->Q us:=arS λa0=>ar1 (Q:=λus=>Q (a0::us)) (h a0)
section
variable {P : Program} {w : World} {K : PySem.W.Frag} {mg : Str -> Option Value} {base : Heap}
theorem dv0 (B:∀(j:Nat) x,sx[j]? = some x->mg x=none) (xf:XF K mg) (xi:XRow K mg):DerP GL P w K mg base ents h8 fo e0:=Ce λn fa cdv A outer s H E hu C D Z =>
 (jq (lj (Ak (An (aw 0) (B 0 _ rfl) (B 1 _ rfl)) (ug (D5 (An (aw 0) (B 0 _ rfl) (B 2 _ rfl)))))) rp)
theorem dv1 (B:∀(j:Nat) x,sx[j]? = some x->mg x=none) (xf:XF K mg) (xi:XRow K mg):DerP GL P w K mg base ents h8 fo e1:=Ce λn fa cdv A outer s H E hu C D Z =>
 (jq (nu 1 D4) (jq (Aw xi (C 0 _ rfl) (ao (aw 0) ck)) (jq (lj (Ak (j6 (C 0 _ rfl) (ao (aw 1) ck)) (ug (xp (aw 1) (xo hu .eq (aw 0)))))) rp)))
theorem dv2 (B:∀(j:Nat) x,sx[j]? = some x->mg x=none) (xf:XF K mg) (xi:XRow K mg):DerP GL P w K mg base ents h8 fo e2:=Ce λn fa cdv A outer s H E hu C D Z =>
 (jq (nu 2 (nk ck)) (jq (As xf (D 0 _ rfl) (ao (aw 0) (ao (aw 1) ck)) λ_=>(jq (nu 2 (xw ((Z 0 _ rfl).mark _) (ao (aw 3) ck))) rp)) (jq (lj (xp (aw 2) (xo hu .eq (lh (Aq ["which","k"] (Ap (B 4 _ rfl) fw) (λ_ _ _ _=>⟨(nt 1),xq,(xp (aw 0) (xo hu .eq (aw 1)))⟩)) (nk (ao D3 ck)))))) rp)))
theorem dv3 (B:∀(j:Nat) x,sx[j]? = some x->mg x=none) (xf:XF K mg) (xi:XRow K mg):DerP GL P w K mg base ents h8 fo e3:=Ce λn fa cdv A outer s H E hu C D Z =>
 (jq (D6 (Ao (lh (aw 0) (nk (ao fw ck)))) (nt 1) (jq (nu 2 (lh fw (lh (aw 1) fw))) (jq (Gf (Ge (Am (nq (jo (j6 (C 2 _ rfl) (ao fw (ao (aw 2) ck))))) (Am (nq (jo (j6 (C 1 _ rfl) (ao (aw 2) ck)))) (Al (nq (jo (j6 (C 2 _ rfl) (ao (lh (aw 1) fw) (ao (aw 2) ck))))))))) (jq (lj D3) rp) rp) rp))) (jq (lj D3) rp))
theorem dx0 (B:∀(j:Nat) x,sx[j]? = some x->mg x=none) (xf:XF K mg) (xi:XRow K mg):DerX GL P w K mg base ents h8 fo x0:=Gg λn fa cdv A outer s H E hu C D Z W =>
 (dh (Cd (j5 (aw 0) (ro hu .eq fw)) (dh (g4 xf W (ao rm ck)) g0) g0) (dh (Cd (j5 (aw 0) (ro hu .eq fw)) (dh (g4 xf W (ao rm ck)) g0) g0) (dh (Cd (j5 (aw 0) (ro hu .eq fw)) (dh (g4 xf W (ao rm ck)) g0) g0) (dh (Cd (j5 (aw 0) (ro hu .eq fw)) (dh (g4 xf W (ao rm ck)) g0) g0) (dh (sj xf xi (C 0 _ rfl) W (ao (aw 1) ck)) g0)))))
theorem dq0 (B:∀(j:Nat) x,sx[j]? = some x->mg x=none) (xf:XF K mg) (xi:XRow K mg):DerQ GL P w K mg base fo q0:=Gh λn fa cdv A outer s H E hu Z =>
 (jq (nu 1 (nk (ao (iz xf (B 0 _ rfl) (aw 0)) (ao (iz xf (B 0 _ rfl) (aw 0)) (ao (iz xf (B 0 _ rfl) (aw 0)) (ao (iz xf (B 0 _ rfl) (aw 0)) ck)))))) (jq (lj (lh (aw 1) (nk (ao (iz xf (B 0 _ rfl) (aw 0)) (ao (Au xf (B 0 _ rfl) (B 3 _ rfl) (aw 0)) ck))))) rp))
theorem dvs (B:∀(j:Nat) x,sx[j]? = some x->mg x=none) (xf:XF K mg) (xi:XRow K mg):∀(j:Nat) e,ents[j]? = some e->DerP GL P w K mg base ents h8 fo e:=(Lp.dr (dv0 B xf xi) (Lp.dr (dv1 B xf xi) (Lp.dr (dv2 B xf xi) (Lp.dr (dv3 B xf xi) Lp.rq))))
theorem dxs (B:∀(j:Nat) x,sx[j]? = some x->mg x=none) (xf:XF K mg) (xi:XRow K mg):∀(j:Nat) e,h8[j]? = some e->DerX GL P w K mg base ents h8 fo e:=(Lp.dr (dx0 B xf xi) Lp.rq)
theorem dqs (B:∀(j:Nat) x,sx[j]? = some x->mg x=none) (xf:XF K mg) (xi:XRow K mg):∀(j:Nat) e,fo[j]? = some e->DerQ GL P w K mg base fo e:=(Lp.dr (dq0 B xf xi) Lp.rq)
end
end Lp.Law
namespace PySem.W.Fast
def tw1574273911610676034:=0
def tw13919963365955670176:=0
def tw7252469269029381187:=0
def tw16021893782883735399:=0
def tw2869739957882354017:=0
def tw2646956896587901825:=0
def tw10870790301666260103:=0
def tw15612686435049424409:=0
def tw8332636586711179791:=0
def tw14491009336531378451:=0
def tw16010336655609293555:=0
def tw15722030958439564495:=0
def tw6432267558375828571:=0
def tw4881662033876945691:=0
def tw5254681273802205686:=0
def tw11763796345733074477:=0
def tw6512320719904846431:=0
def tw2136763466977347927:=0
def tw4670982865078490809:=0
def tw3816337095803630553:=0
def tw4155313393581360115:=0
def tw5600751565717249226:=0
def tw3820529481627391385:=0
def tw17697969369667168390:=0
def tw9834831843255406711:=0
end PySem.W.Fast
open PySem PySem.W PyProof.Rows Lp.Law
open Lp (ModOf)
set_option maxHeartbeats 0 in
theorem PySem.Challenge.cw_lamprota_k05_refusals_apart_holds : PySem.Challenge.rw_lamprota_k05_refusals_apart.Holds := by
 w_on;o_law;k_head;(case hw=>w_witness2)
 k_fill
 refine Lp.rl (l:=PySem.Challenge.rw_lamprota_k05_refusals_apart) (n:=6) ⟨rfl,by decide,by decide⟩ rfl rfl (λw h Y=>PySem.W.kIn_of Y) ?F
 case F =>
  intro w mg fa h KX G hmg
  have m0:ModOf (L2.KOf KX) mg e0:=by
   dsimp only[L2.KOf]
   refine' Lp.gg (e:=e0) KX G ?a ?l ?c ?k λ_ _ _ _ _ _=>ar1 λ_=>rfl
   all_goals try dsimp only[e0]
   (case a=>k_is);(case l=>k_is);(case c=>k_is);(case k=>k_is)
  have m1:ModOf (L2.KOf KX) mg e1:=by
   dsimp only[L2.KOf]
   refine' Lp.gg (e:=e1) KX G ?a ?l ?c ?k λ_ _ _ _ _ _=>ar1 λ_=>rfl
   all_goals try dsimp only[e1]
   (case a=>k_is);(case l=>k_is);(case c=>k_is);(case k=>k_is)
  have m2:ModOf (L2.KOf KX) mg e2:=by
   dsimp only[L2.KOf]
   refine' Lp.gg (e:=e2) KX G ?a ?l ?c ?k λ_ _ _ _ _ _=>ar2 λ_ _=>rfl
   all_goals try dsimp only[e2]
   (case a=>k_is);(case l=>k_is);(case c=>k_is);(case k=>k_is)
  have m3:ModOf (L2.KOf KX) mg e3:=by
   dsimp only[L2.KOf]
   refine' Lp.gg (e:=e3) KX G ?a ?l ?c ?k λ_ _ _ _ _ _=>ar1 λ_=>rfl
   all_goals try dsimp only[e3]
   (case a=>k_is);(case l=>k_is);(case c=>k_is);(case k=>k_is)
  have n0:ModOf (L2.KOf KX) mg x0:=by
   dsimp only[L2.KOf]
   refine' Lp.gg (e:=x0) KX G ?a ?l ?c ?k λ_ _ _ _ _ _=>ar2 λ_ _=>rfl
   all_goals try dsimp only[x0]
   (case a=>k_is);(case l=>k_is);(case c=>k_is);(case k=>k_is)
  have o0:ModOf (L2.KOf KX) mg q0:=by
   dsimp only[L2.KOf]
   refine' Lp.gg (e:=q0) KX G ?a ?l ?c ?k λ_ _ _ _ _ _=>ar1 λ_=>rfl
   all_goals try dsimp only[q0]
   (case a=>k_is);(case l=>k_is);(case c=>k_is);(case k=>k_is)
  have xf:Lp.XF (L2.KOf KX) mg:=by
   dsimp only[L2.KOf]
   refine' Lp.D7 KX G ?n0 ?n1 ?n2 ?n3 ?n4 ?n5 ?l ?c1 ?c2 ?c3 ?c4 ?c5 ?e1 ?e2 ?e3 ?e4
   (case n0=>k_is);(case n1=>k_is);(case n2=>k_is);(case n3=>k_is);(case n4=>k_is);(case n5=>k_is);(case l=>kernel_rfl)
   (case c1=>exact⟨⟨by k_is,by k_is,by k_is,by k_is,by k_is⟩,by kernel_rfl,by k_is,by kernel_rfl,by kernel_rfl,by kernel_rfl,by kernel_rfl,by kernel_rfl,by kernel_rfl,by kernel_rfl⟩);(case c2=>exact⟨⟨by k_is,by k_is,by k_is,by k_is,by k_is⟩,by kernel_rfl,by k_is,by kernel_rfl,by kernel_rfl,by kernel_rfl,by kernel_rfl,by kernel_rfl,by kernel_rfl,by kernel_rfl⟩);(case c3=>exact⟨⟨by k_is,by k_is,by k_is,by k_is,by k_is⟩,by kernel_rfl,by k_is,by kernel_rfl,by kernel_rfl,by kernel_rfl,by kernel_rfl,by kernel_rfl,by kernel_rfl,by kernel_rfl⟩);(case c4=>exact⟨⟨by k_is,by k_is,by k_is,by k_is,by k_is⟩,by kernel_rfl,by k_is,by kernel_rfl,by kernel_rfl,by kernel_rfl,by kernel_rfl,by kernel_rfl,by kernel_rfl,by kernel_rfl⟩);(case c5=>exact⟨⟨by k_is,by k_is,by k_is,by k_is,by k_is⟩,by kernel_rfl,by k_is,by kernel_rfl,by kernel_rfl,by kernel_rfl,by kernel_rfl,by kernel_rfl,by kernel_rfl,by kernel_rfl⟩)
   (case e1=>kernel_rfl);(case e2=>kernel_rfl);(case e3=>kernel_rfl);(case e4=>kernel_rfl)
  have xi:Lp.XRow (L2.KOf KX) mg:=by
   dsimp only[L2.KOf]
   refine' Lp.ya KX G ?n ?l ?i ?hq ?lf ?c ?s1 ?s2 ?s3 ?s4 ?s5 ?s6 ?s7 ?s8 ?hb
   (case n=>k_is);(case l=>k_is);(case i=>k_is);(case hq=>kernel_rfl);(case lf=>k_is);(case c=>k_is)
   (case s1=>rfl);(case s2=>rfl);(case s3=>rfl);(case s4=>rfl);(case s5=>rfl);(case s6=>decide);(case s7=>rfl);(case s8=>rfl);(case hb=>exact λ_ _=>rfl)
  have b0:mg "isinstance"=none:=CM KX G (by k_is)
  have b1:mg "int"=none:=CM KX G (by k_is)
  have b2:mg "bool"=none:=CM KX G (by k_is)
  have b3:mg "ValueError"=none:=CM KX G (by k_is)
  have b4:mg "range"=none:=CM KX G (by k_is)
  exact Lp.se (T:=Lp.GL) (es:=ents) (xs:=h8) (qs:=fo) (n:=6) (j:=3) (e:=e3) (Lp.dr m0 (Lp.dr m1 (Lp.dr m2 (Lp.dr m3 Lp.rq)))) (Lp.dr n0 Lp.rq) (Lp.dr o0 Lp.rq) (λbase=>dvs (Lp.dr b0 (Lp.dr b1 (Lp.dr b2 (Lp.dr b3 (Lp.dr b4 Lp.rq))))) xf xi) (λbase=>dxs (Lp.dr b0 (Lp.dr b1 (Lp.dr b2 (Lp.dr b3 (Lp.dr b4 Lp.rq))))) xf xi) (λbase=>dqs (Lp.dr b0 (Lp.dr b1 (Lp.dr b2 (Lp.dr b3 (Lp.dr b4 Lp.rq))))) xf xi) rfl hmg rfl (λns hn=>Lr.Ej ns hn)
