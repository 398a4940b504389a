import PyProof.Rows.All
import Wide.All
import OpenK.AllK
import Wide.FinOn
import Lean
import PyProof.EqAt
import PyProof.EqKinds
import PyProof.TupleCall
import PySem.Syntax
import PyProof.Rows.ZipGen
import PyProof.EnumMake
import PyProof.EnumFor
import PyProof.Rows.EnumRows
import PyProof.DictValues
import KE.KSortTup
import PyProof.Rows.SetFrom
import PyProof.WalksMore
import PyProof.FactsAll.set
import PyProof.ForAny
import PyProof.CollectWalk
import PyProof.ListRange
import PyProof.Rows.SortShell
import PyProof.AttrMissHeap
import PySem.Challenge.RW_lamprota_k14_ticks_refused
noncomputable section
local macro_rules | `(tactic| simp! [$ls,*] $[$l:location]?) => `(tactic| simp only [$ls,*] $[$l]?)
open List renaming getElem?_eq_getElem -> AA, size_toArray -> AC, prefix_refl -> AD, getElem?_eq_some_iff -> AF, getElem?_append_left -> AI, mem_cons -> AL, mem_cons_of_mem -> AO, map_cons -> AQ, mem_append_right -> AU, length_cons -> AV, all_eq_true -> AW, getElem?_map -> AY, length_map -> AZ, getElem?_set_ne -> BA, getD_eq_getElem?_getD -> BD, mem_cons_self -> BF, length_append -> BH, not_mem_nil -> BI, getElem?_append_right -> BL, getElem?_set_self -> BM, all_cons -> BN, length_nil -> BP, getElem?_replicate -> BR, any_cons -> BV, filterMap_cons -> BW, append_nil -> BY, nil_prefix -> CA, cons_append -> CB, replicate_succ -> CH, map_nil -> CI, zip_cons_cons -> CJ, lookup_cons -> CQ, mem_singleton -> CT, take_of_length_le -> CW, mem_append -> CY, find?_cons -> CZ, flatten_cons -> DB, eraseIdx_cons_succ -> DJ, eraseIdxIfInBounds_toArray -> DN, length_replicate -> DO, getElem?_eq_none -> DQ, length_take -> DR, mem_of_getElem? -> DT, nodup_cons -> DW, nil_append -> DZ, zip_nil_right -> ED, set_cons_zero -> EG, set_cons_succ -> EH, drop_eq_getElem_cons -> EJ, getElem?_zip_eq_some -> EK, zip_nil_left -> EM, length_range -> ES, getElem?_take_of_lt -> EU, getElem?_cons_zero -> FC, getElem?_cons_succ -> FD, range_succ_eq_map -> FI, all_map -> FJ, mem_map -> FL, of_mem_zip -> FM, dropLast_eq_take -> FR, getElem?_toArray -> FS, contains_iff_mem -> FT
open PySem renaming wpAny_bind -> AB, wpAny_pure -> AJ, wpAny_mono -> BK, wpAny_loadPart' -> BO, wpAny_callSpecial?_slot -> BS, wpAny_field -> BZ, wpAny_newObj_type -> CD, wpAny_loadPart_at -> CF, wpAny_truthy_bool -> CM, mem_of_lookup -> CO, wpAny_call_entry -> CP, wpAny_pyIter_tuple -> CU, wpAny_setField_rec -> CV, wpAny_holding -> DD, wpAny_passesOwn -> DG, wpAny_Call_Name_kw -> DH, richCompare_meets_room -> DK, wpAny_execs_nil -> DV, call_meets -> EE, tupleKind_room_in1 -> EF, sizeLine_eq -> EL, wpAny_forIn_list -> EW, noFill_tuple_add -> EY, codeAny_mono -> FF
open PySem.Heap renaming get?_push_of_some -> AE, lt_size -> AG, get?_push_size -> AM, size_push -> EI, get?_update_other -> FH, get?_update_self -> FO
open Nat renaming le_refl -> AH, lt_of_lt_of_le -> AK, ne_of_lt -> AN, lt_irrefl -> BU, le_trans -> CC, le_of_lt -> DC, lt_succ_of_lt -> EO, lt_succ_self -> FB, ne_of_gt -> FE
open Bool renaming false_ne_true -> AR, and_eq_true -> AS, false_eq_true -> CK, beq_eq_decide_eq -> Db, not_false -> FV, not_true -> FX
open Option.some renaming injEq -> AT, inj -> AX
open PySem.W renaming mg_none_of -> BB, hideAll_none -> BJ, hideAll_get -> CN, of_hideAll -> CS, mg_of -> Da, cellsFrom_some -> FG, callWith_K -> Go
open PyProof.Rows renaming slot_tuple_getitem -> BC, callWith_type1 -> DA
open Int renaming emod_lt_of_pos -> BQ, emod_nonneg -> CG, toNat_natCast -> DM, fdiv_eq_ediv_of_nonneg -> EC
open Array renaming length_toList -> BX, getElem?_toList -> FP
open PySem.F renaming slot_tuple_iterator_next -> CL, slot_enumerate_next -> Do, args_tuple_add_2 -> DF, entry_tuple_add -> DI, slot_tuple_add -> DL, typeOf_object_class -> DP, excBase_ValueError -> DU, args_tuple_iterator_next_1 -> Ev, entry_tuple_iterator_next -> EA, plainAttrs_list -> ER, slot_list_pop -> FN
open PySem.AutoSeq1 renaming sub_tuple_tuple -> DE
open PySem.Paired renaming length -> DS
open Option renaming map_some -> DY, isSome_map -> EN, isSome_iff_exists -> ET, bind_eq_some_iff -> EZ, getD_some -> FA, map_eq_some_iff -> FK
open PySem.Calls renaming Name_function_global -> EB, evalArgs_plain -> FU
open Prod.mk renaming injEq -> EV
open PySem.Heap.SameBut renaming update -> FW
open PySem.SeqAt.EqAt renaming int_str -> FY, str_int -> FZ, int_int -> Gt
open Classical renaming not_not -> GA
set_option Elab.async false
set_option linter.all false
set_option maxRecDepth 100000
namespace L2
open PySem PySem.Spec PyProof.Rows
abbrev Key:=Sum Int Str
def pf:Key->Value->Bool
 | .inl k,v=>Value.isInt k v
 | .inr x,v=>Value.isStrOf x v
def Ku (w:World):Key->Int
 | .inl k=>hashInt k
 | .inr x=>hashStr w x
theorem bb:∀{k:Key} {v:Value},pf k v=true->(∃i t,k=Sum.inl i/\v=Value.int i t)\/(∃x t,k=Sum.inr x/\v=Value.str x t)
 | .inl i,v,h=>by
  obtain⟨t,e⟩:=Value.isInt_shape (k:=i) (v:=v) h
  exact .inl ⟨i,t,rfl,e⟩
 | .inr x,v,h=>by
  obtain⟨t,e⟩:=Value.isStrOf_shape (x:=x) (v:=v) h
  exact .inr ⟨x,t,rfl,e⟩
theorem qu (i:Int) (t:Tok):pf (.inl i) (.int i t)=true:=by simp[pf,Value.isInt]
theorem qw (x:Str) (t:Tok):pf (.inr x) (.str x t)=true:=by simp[pf,Value.isStrOf]
theorem Cz (a b:Int):decide ((Sum.inl a:Key)=Sum.inl b)=(a==b):=by
 by_cases e:a=b
 ·subst e;simp
 ·have h:¬(Sum.inl a:Key)=Sum.inl b:=λq=>e (Sum.inl.inj q)
  rw[decide_eq_false h]
  exact(beq_eq_false_iff_ne.mpr e).symm
theorem C0 (a b:Str):decide ((Sum.inr a:Key)=Sum.inr b)=decide (a=b):=by
 by_cases e:a=b
 ·subst e;simp
 ·have h:¬(Sum.inr a:Key)=Sum.inr b:=λq=>e (Sum.inr.inj q)
  rw[decide_eq_false h,decide_eq_false e]
theorem C2 (a:Int) (b:Str):decide ((Sum.inl a:Key)=Sum.inr b)=false:=decide_eq_false (λq=>nomatch q)
theorem C3 (a:Str) (b:Int):decide ((Sum.inr a:Key)=Sum.inl b)=false:=decide_eq_false (λq=>nomatch q)
def bt (prog:Program) (w:World):PySem.KeyKind prog w Key where
 is:=pf
 hash:=Ku w
 inj:=λv a b ha hb=>by
  rcases bb ha with⟨i,t,rfl,rfl⟩ | ⟨x,t,rfl,rfl⟩
  ·rcases bb hb with⟨j,u,rfl,e⟩ | ⟨y,u,rfl,e⟩
   ·injection e with e1 _;rw[e1]
   ·exact nomatch e
  ·rcases bb hb with⟨j,u,rfl,e⟩ | ⟨y,u,rfl,e⟩
   ·exact nomatch e
   ·injection e with e1 _;rw[e1]
 byValue:=λk v h=>by
  rcases bb h with⟨i,t,rfl,rfl⟩ | ⟨x,t,rfl,rfl⟩<;>rfl
 pyHash:=λhv h=>by
  rcases bb hv with⟨i,t,rfl,rfl⟩ | ⟨x,t,rfl,rfl⟩
  ·exact wpAny_pyHash_int h
  ·exact wpAny_pyHash_str h
 eqBool:=λhu hv h=>by
  rcases bb hu with⟨i,t,rfl,rfl⟩ | ⟨x,t,rfl,rfl⟩
  ·rcases bb hv with⟨j,u,rfl,rfl⟩ | ⟨y,u,rfl,rfl⟩
   ·rw[Cz]at h;exact wpAny_eqBool_int h
   ·rw[C2]at h;exact FY i t y u _ _ _ _ h
  ·rcases bb hv with⟨j,u,rfl,rfl⟩ | ⟨y,u,rfl,rfl⟩
   ·rw[C3]at h;exact FZ x t j u _ _ _ _ h
   ·rw[C0]at h;exact wpAny_eqBool_str h
 «strs»:=λk x t v h=>by
  rcases bb h with⟨i,u,rfl,e⟩ | ⟨y,u,rfl,e⟩
  ·exact nomatch e
  ·injection e with e1 _
   subst e1
   cases v<;>rfl
theorem mm (prog:Program) (w:World) (i:Int) (t:Tok):(bt prog w).is (.inl i) (.int i t)=true:=qu i t
theorem mn (prog:Program) (w:World) (x:Str) (t:Tok):(bt prog w).is (.inr x) (.str x t)=true:=qw x t
inductive V where
 | non | bl (b:Bool) | int (i:Int) | str (x:Str) | byt (b:Array UInt8) | flt (b:UInt64) | ref (a:Addr) | ty (n:String)
 deriving DecidableEq
def RelV:V->Value->Prop
 | .non,u=>u=Value.none
 | .bl b,u=>u=Value.bool b
 | .int i,u=>∃t,u=Value.int i t
 | .str x,u=>∃t,u=Value.str x t
 | .byt b,u=>∃t,u=Value.bytes b t
 | .flt b,u=>∃t,u=Value.float b t
 | .ref a,u=>u=Value.ref a
 | .ty n,u=>u=Value.type n
abbrev ay:List V->List Value->Prop:=Paired RelV
theorem ay.length {xs:List V} {us:List Value} (r:ay xs us):xs.length=us.length:=DS r
theorem ay.get:∀{xs:List V} {us:List Value} {i:Nat} {x:V},ay xs us->xs[i]? = some x->∃u,us[i]? = some u/\RelV x u
 | _,_,_,_,.nil,e=>by simp at e
 | _,_,0,_,.cons r _,e=>by simp at e;subst e;exact⟨_,rfl,r⟩
 | _,_,i+1,x,.cons _ t,e=>by
  obtain⟨u,h1,h2⟩:=ay.get (i:=i) (x:=x) t (by simpa using e)
  exact⟨u,by simpa using h1,h2⟩
theorem ay.set {x:V} {u:Value} (r:RelV x u):∀{xs:List V} {us:List Value} (i:Nat),ay xs us->ay (xs.set i x) (us.set i u)
 | _,_,_,.nil=>.nil
 | _,_,0,.cons _ t=>.cons r t
 | _,_,i+1,.cons q t=>.cons q (ay.set r i t)
theorem ay.append:∀{xs ys:List V} {us ws:List Value},ay xs us->ay ys ws->ay (xs++ys) (us++ws)
 | _,_,_,_,.nil,s=>s
 | _,_,_,_,.cons r t,s=>.cons r (ay.append t s)
theorem ay.take:∀{xs:List V} {us:List Value} (n:Nat),ay xs us->ay (xs.take n) (us.take n)
 | _,_,0,_=>.nil
 | _,_,_+1,.nil=>.nil
 | _,_,n+1,.cons r t=>.cons r (ay.take n t)
theorem ay.drop:∀{xs:List V} {us:List Value} (n:Nat),ay xs us->ay (xs.drop n) (us.drop n)
 | _,_,0,r=>r
 | _,_,_+1,.nil=>.nil
 | _,_,n+1,.cons _ t=>ay.drop n t
def Cr:Option V->Option Value->Prop
 | some v,some u=>RelV v u
 | none,none=>True
 | _,_=>False
def KV {κ:Type}:List (κ×V)->List (κ×Value)->Prop:=Paired fun(p:κ×V) (q:κ×Value)=>p.1=q.1/\RelV p.2 q.2
def kV:Key->V
 | .inl i=>.int i
 | .inr x=>.str x
inductive HO where
 /-- a list -/
 | lst (xs:List V)
 /-- a tuple (never changes) -/
 | tup (xs:List V)
 /-- a dict whose keys are ints and texts;one whose keys are tuples of ints and texts (the empty one is both) -/
 | dK (kvs:List (Key×V)) | dT (kvs:List (List Key×V))
 /-- a set of ints: its members,its size -/
 | set (S:Int->Bool) (n:Nat)
 /-- an instance of the class at C,its dict at dx,its attributes -/
 | ins (C dx:Addr) (fs:List (Str×V))
 /-- the dict of the instance at x -/
 | own (x:Addr)
 /-- the dict of an exception -/
 | xd (fs:List (Str×V))
 /-- a bound method,f of x -/
 | met (f x:Addr)
 /-- a range object lo,lo+1,.. below hi -/
 | rng (lo hi:Int)
 /-- a thing that is known to the object (the script;a dict while a loop walks it): read,never written while it is so -/
 | frz (o:Obj) (u:HO)
 /-- a code object's table -/
 | tbl (ps:Array Value)
 /-- any other thing,by what is true of its one object (a def of one's own: SetO a S n:=HO.ext λh=>..) -/
 | ext (φ:Heap->Prop)
abbrev Hp:=Addr->Option HO
def upd (H:Hp) (a:Addr) (o:HO):Hp:=λb=>if b=a then some o else H b
theorem av {H:Hp} {a:Addr} {o:HO}:upd H a o a=some o:=by unfold upd;rw[if_pos rfl]
theorem aj {H:Hp} {a b:Addr} {o:HO} (h:b≠a):upd H a o b=H b:=by unfold upd;rw[if_neg h]
theorem Ar {H:Hp} {a:Addr} {o u:HO}:upd (upd H a o) a u=upd H a u:=by
 funext b;unfold upd;split<;>rfl
theorem jf {H:Hp} {a b:Addr} {o u:HO} (h:H a=some o) (h':H b=some u) (d:o≠u):a≠b:=by
 intro e;subst e;rw[h]at h';exact d (AX h')
theorem aq {H:Hp} {a b:Addr} {o:HO} (h:H a=some o) (h':H b=none):a≠b:=by
 intro e;subst e;rw[h]at h';cases h'
def g5 (h:Heap) (a:Addr) (items:Array Value):Prop:=∃o,h.get? a=some o/\o.cls=.type "tuple"/\o.dict=none/\∃n,o.data=.seq items n
theorem g5.tup {h:Heap} {a:Addr} {items:Array Value} (x:g5 h a items):IsTup h a items:=let ⟨o,e,c,_,d⟩:=x;⟨o,e,c,d⟩
theorem g5.new (h:Heap) (items:Array Value):g5 (h.push {cls:=.type "tuple",data:=.seq items}) h.objs.size items:=⟨_,AM _ rfl,rfl,rfl,_,rfl⟩
section
variable (P : Program) (w : World)
def cw (H:Hp) (h:Heap) (a:Addr):HO->Prop
 | .lst xs=>xs.length<=sizeLine/\∃(its:List Value) (n:Nat),ay xs its/\h.get? a=some {cls:=.type "list",data:=.seq its.toArray n}
 | .tup xs=>xs.length<=sizeLine/\∃its:List Value,ay xs its/\g5 h a its.toArray
 | .dK kvs=>kvs.length<=sizeLine/\(a==sysModules)=false/\∃vs,KV kvs vs/\h.DictOf (bt P w) a vs
 | .dT kvs=>kvs.length<=sizeLine/\(a==sysModules)=false/\∃xs:List (List Key×Addr×Value),
   Paired (fun(p:List Key×V) (q:List Key×Addr×Value)=>p.1=q.1/\H q.2.1=some (.tup (p.1.map kV))/\RelV p.2 q.2.2) kvs xs /\
   ∃o es ep,h.get? a=some o/\o.ExactDict/\o.data=.dict es ep/\es.toList=xs.map (entryOfKey (tupleKind (bt P w)))/\(xs.map (·.1)).Nodup
 | .set S n=>h.SetOf (intKind P w) a S n
 | .ins C dx fs=>H dx=some (.own a)/\fs.length<=1000/\dx≠a/\h.get? a=some (PySem.W.instObj C dx) /\
   ∃mA,h.Ns1 dx mA/\(∀f,Cr (fs.lookup f) (mA f))/\PySem.Within mA (fs.map (·.1))
 | .own _=>∃o,h.get? a=some o
 | .xd fs=>∃mA,h.Ns1 a mA/\∀f,Cr (fs.lookup f) (mA f)
 | .rng lo hi=>∃t u v,h.get? a=some {cls:=.type "range",data:=.fields #[.int lo t,.int hi u,.int 1 v]}
 | .frz o u=>h.get? a=some o/\cw H h a u
 | .tbl ps=>h.get? a=some {cls:=.none,data:=.fields ps}
 | .met f x=>h.get? a=some (PySem.W.methodObj (.ref f) (.ref x))
 | .ext φ=>φ h/\(∃o,h.get? a=some o)/\∀h1 h2:Heap,φ h1->(∀o,h1.get? a=some o->h2.get? a=some o)->φ h2
def HOk (H:Hp) (h:Heap):Prop:=∀a o,H a=some o->cw P w H h a o
end
section
variable {P : Program} {w : World} {H H' : Hp} {h h' : Heap} {a : Addr} {o : HO}
theorem cw.lt (x:cw P w H h a o):a<h.objs.size:=by
 cases o with
 | lst xs=>obtain⟨_,_,_,_,e⟩:=x;exact AG e
 | tup xs=>obtain⟨_,_,_,p⟩:=x;exact p.tup.lt
 | dK kvs=>obtain⟨_,_,_,_,o,_,_,e,_⟩:=x;exact AG e
 | dT kvs=>obtain⟨_,_,_,_,o,_,_,e,_⟩:=x;exact AG e
 | set S n=>obtain⟨o,_,_,_,e,_⟩:=x;exact AG e
 | ins C dx fs=>obtain⟨_,_,_,e,_⟩:=x;exact AG e
 | own y=>obtain⟨_,e⟩:=x;exact AG e
 | xd fs=>obtain⟨_,⟨_,_,_,e,_⟩,_⟩:=x;exact AG e
 | rng lo hi=>obtain⟨_,_,_,e⟩:=x;exact AG e
 | frz ob u=>obtain⟨e,_⟩:=x;exact AG e
 | tbl ps=>exact AG (show h.get? a=some _ from x)
 | met f y=>exact AG (show h.get? a=some _ from x)
 | ext φ=>obtain⟨_,⟨_,e⟩,_⟩:=x;exact AG e
theorem Paired.mapP {α β:Type} {F G:α->β->Prop}:∀{l₁:List α} {l₂:List β},Paired F l₁ l₂->(∀a b,F a b->G a b)->Paired G l₁ l₂
 | _,_,.nil,_=>.nil
 | _,_,.cons r t,f=>.cons (f _ _ r) (Paired.mapP t f)
theorem cw.stay (x:cw P w H h a o) (k:∀b u,(b=a\/H b=some (.own a))->h.get? b=some u->h'.get? b=some u)
  (ho:∀b,H b=some (.own a)->H' b=some (.own a)) (ht:∀b xs,H b=some (.tup xs)->H' b=some (.tup xs)):cw P w H' h' a o:=by
 induction o with
 | lst xs=>obtain⟨z,its,n,r,e⟩:=x;exact⟨z,its,n,r,k _ _ (.inl rfl) e⟩
 | tup xs=>obtain⟨z,its,r,ob,e,c⟩:=x;exact⟨z,its,r,ob,k _ _ (.inl rfl) e,c⟩
 | dK kvs=>obtain⟨z,y,vs,r,ob,es,ep,e,c⟩:=x;exact⟨z,y,vs,r,ob,es,ep,k _ _ (.inl rfl) e,c⟩
 | dT kvs =>
  obtain⟨z,y,xs,r,ob,es,ep,e,c⟩:=x
  exact⟨z,y,xs,Paired.mapP r λp q z=>⟨z.1,ht _ _ z.2.1,z.2.2⟩,ob,es,ep,k _ _ (.inl rfl) e,c⟩
 | set S n=>obtain⟨ob,es,ep,t,e,c⟩:=x;exact⟨ob,es,ep,t,k _ _ (.inl rfl) e,c⟩
 | ins C dx fs =>
  obtain⟨d,z,ne,e,mA,⟨od,es,ep,e2,c⟩,r⟩:=x
  exact⟨ho _ d,z,ne,k _ _ (.inl rfl) e,mA,⟨od,es,ep,k _ _ (.inr d) e2,c⟩,r⟩
 | own y=>obtain⟨ob,e⟩:=x;exact⟨ob,k _ _ (.inl rfl) e⟩
 | xd fs=>obtain⟨mA,⟨od,es,ep,e,c⟩,r⟩:=x;exact⟨mA,⟨od,es,ep,k _ _ (.inl rfl) e,c⟩,r⟩
 | rng lo hi=>obtain⟨t,u,v,e⟩:=x;exact⟨t,u,v,k _ _ (.inl rfl) e⟩
 | frz ob u ih=>obtain⟨e,q⟩:=x;exact⟨k _ _ (.inl rfl) e,ih q⟩
 | tbl ps =>
  have e:h.get? a=some {cls:=.none,data:=.fields ps}:=x
  show h'.get? a=some {cls:=.none,data:=.fields ps}
  exact k a _ (.inl rfl) e
 | met f y =>
  have e:h.get? a=some (PySem.W.methodObj (.ref f) (.ref y)):=x
  show h'.get? a=some (PySem.W.methodObj (.ref f) (.ref y))
  exact k a _ (.inl rfl) e
 | ext φ=>obtain⟨p,⟨o,e⟩,st⟩:=x;exact⟨st _ _ p λo q=>k _ _ (.inl rfl) q,⟨o,k _ _ (.inl rfl) e⟩,st⟩
theorem HOk.lt (x:HOk P w H h) (e:H a=some o):a<h.objs.size:=(x a o e).lt
theorem HOk.fresh (x:HOk P w H h) (e:h.objs.size<=a):H a=none:=by
 cases q:H a with
 | none=>rfl
 | some u=>exact absurd (AK (x.lt q) e) (BU _)
theorem HOk.kept (x:HOk P w H h) (k:∀b u,h.get? b=some u->h'.get? b=some u):HOk P w H h':=λa o e =>
 (x a o e).stay (λb u _ q=>k b u q) (λ_ q=>q) λ_ _ q=>q
theorem HOk.laid (x:HOk P w H h) (k:∀b u,h.get? b=some u->h'.get? b=some u) (hp:h.objs.size<=a) (new:cw P w (upd H a o) h' a o):HOk P w (upd H a o) h':=λb u e=>by
 have hn:=x.fresh hp
 by_cases hb:b=a
 ·subst hb;rw[av]at e;cases e;exact new
 ·rw[aj hb]at e
  exact(x b u e).stay (λc v _ q=>k c v q) (λc q=>by rw[aj (aq q hn)];exact q) λc xs q=>by rw[aj (aq q hn)];exact q
end
def Rd (H:Hp) (a:Addr) (u:HO):Prop:=H a=some u\/∃o,H a=some (.frz o u)
theorem Rd.ok {P:Program} {w:World} {H:Hp} {h:Heap} {a:Addr} {u:HO} (r:Rd H a u) (x:HOk P w H h):cw P w H h a u:=by
 rcases r with r | ⟨o,r⟩
 ·exact x a u r
 ·obtain⟨_,q⟩:=x a _ r
  exact q
def Mut:Option HO->Prop
 | some (.lst _)=>True
 | some (.dK _)=>True
 | some (.dT _)=>True
 | some (.set _ _)=>True
 | some (.ins _ _ _)=>True
 | some (.ext _)=>True
 | _=>False
section
variable {P : Program} {w : World} {H : Hp} {h h' : Heap} {x e : Addr} {o' : HO}
theorem HOk.write (ok:HOk P w H h) (mu:Mut (H x)) (he:e=x\/H e=some (.own x)) (k:∀b u,b≠e->h.get? b=some u->h'.get? b=some u) (heo:∃u,h'.get? e=some u)
  (new:cw P w (upd H x o') h' x o'):HOk P w (upd H x o') h':=λb u q=>by
 have nown:∀c y,H c=some (.own y)->c≠x:=λc y r z=>by subst z;rw[r]at mu;exact mu
 have ntup:∀c xs,H c=some (.tup xs)->c≠x:=λc xs r z=>by subst z;rw[r]at mu;exact mu
 by_cases hb:b=x
 ·subst hb;rw[av]at q;cases q;exact new
 ·rw[aj hb]at q
  by_cases hbe:b=e
  ·have q':H b=some (.own x):=by
    rcases he with z | z
    ·exact absurd (hbe.trans z) hb
    ·rw[hbe];exact z
   rw[q]at q';cases q'
   obtain⟨v,hv⟩:=heo
   exact⟨v,by rw[hbe];exact hv⟩
  ·refine(ok b u q).stay (λc v hc r=>k c v ?_ r) (λc r=>by rw[aj (nown c b r)];exact r) λc xs r=>by rw[aj (ntup c xs r)];exact r
   rcases hc with rfl | hc
   ·exact hbe
   ·rintro rfl
    rcases he with z | z
    ·exact nown c b hc z
    ·rw[hc]at z;cases z;exact hb rfl
end
structure Un (fs ex:List Addr) (H H':Hp) (h h':Heap):Prop where
 keep:∀b o,h.get? b=some o->H b=none->b∉fs->b∉ex->h'.get? b=some o
 slot:∀b o,h.get? b=some o->H b=none->b∈fs->b∉ex->∃sl,h'.get? b=some {o with slots:=sl}
 free:∀b o,h.get? b=some o->H b=none->b∉ex->H' b=none
 there:∀b o,h.get? b=some o->b∉ex->∃o',h'.get? b=some o'
 tups:∀b xs,H b=some (.tup xs)->H' b=some (.tup xs)
 frzs:∀b o u,H b=some (.frz o u)->H' b=some (.frz o u)
 tbls:∀b ps,H b=some (.tbl ps)->∃more,H' b=some (.tbl (ps++more))
section
variable {fs fs' ex ex' : List Addr} {H H1 H2 : Hp} {h h1 h2 h' : Heap} {a x e : Addr} {o : HO}
theorem Un.any (u:Un fs ex H H1 h h1) {b:Addr} {ob:Obj} (q:h.get? b=some ob) (n:H b=none) (hx:b∉ex):∃sl,h1.get? b=some {ob with slots:=sl}:=by
 by_cases hb:b∈fs
 ·exact u.slot b ob q n hb hx
 ·exact⟨ob.slots,u.keep b ob q n hb hx⟩
theorem Un.kept (k:∀b u,h.get? b=some u->h'.get? b=some u):Un fs ex H H h h' :=
 ⟨λb ob q _ _ _=>k b ob q,λb ob q _ _ _=>⟨ob.slots,k b ob q⟩,λ_ _ _ n _=>n,λb ob q _=>⟨ob,k b ob q⟩,λ_ _ q=>q,λ_ _ _ q=>q,λ_ ps q=>⟨#[],by rw[q];simp⟩⟩
theorem Un.refl:Un fs ex H H h h:=Un.kept λ_ _ q=>q
theorem Un.laid (k:∀b u,h.get? b=some u->h'.get? b=some u) (hp:h.objs.size<=a) (hn:H a=none):Un fs ex H (upd H a o) h h' where
 keep:=λb u q _ _ _=>k b u q
 slot:=λb u q _ _ _=>⟨u.slots,k b u q⟩
 free:=λb u q n _=>by rw[aj (AN (AK (AG q) hp))];exact n
 there:=λb u q _=>⟨u,k b u q⟩
 tups:=λb xs q=>by rw[aj (aq q hn)];exact q
 frzs:=λb u xs q=>by rw[aj (aq q hn)];exact q
 tbls:=λb ps q=>⟨#[],by rw[aj (aq q hn),q];simp⟩
theorem Un.write (mu:Mut (H x)) (he:e=x\/H e=some (.own x)) (k:∀b u,b≠e->h.get? b=some u->h'.get? b=some u) (heo:∃u,h'.get? e=some u):Un fs ex H (upd H x o) h h':=by
 have hx:∀b,H b=none->b≠x:=λb n z=>by subst z;rw[n]at mu;exact mu
 have hb:∀b,H b=none->b≠e:=λb n z=>by
  subst z
  rcases he with r | r
  ·exact hx b n r
  ·rw[n]at r;cases r
 have hm:∀b u,H b=some u->¬Mut (some u)->b≠x:=λb u q nm z=>by subst z;rw[q]at mu;exact nm mu
 refine⟨λb u q n _ _=>k b u (hb b n) q,λb u q n _ _=>⟨u.slots,k b u (hb b n) q⟩,λb u q n _=>by rw[aj (hx b n)];exact n,λb u q _=>?_,
  λb xs q=>by rw[aj (hm b _ q λz=>z)];exact q,λb u xs q=>by rw[aj (hm b _ q λz=>z)];exact q,λb ps q=>⟨#[],by rw[aj (hm b _ q λz=>z),q];simp⟩⟩
 by_cases hbe:b=e
 ·subst hbe;exact heo
 ·exact⟨u,k b u hbe q⟩
end
def trk (h:Heap) (H:Hp):List Addr:=(List.range h.objs.size).filter λa=>(H a).isSome
def vv (h:Heap) (H:Hp):Heap:=PySem.W.hideAll h (trk h H)
theorem qx (h:Heap) (H:Hp):(vv h H).objs.size=h.objs.size:=PySem.W.hideAll_size _ _
theorem vw {h:Heap} {H:Hp} {b:Addr} {o:Obj} (e:h.get? b=some o) (n:H b=none):(vv h H).get? b=some o :=
 CN _ e λhm=>by
  have q:(H b).isSome=true:=(List.mem_filter.mp hm).2
  rw[n]at q;simp at q
theorem As {h:Heap} {H:Hp} {b:Addr} {o:Obj} (e:(vv h H).get? b=some o):h.get? b=some o/\H b=none:=by
 have e':h.get? b=some o:=CS (trk h H) e
 refine⟨e',?_⟩
 cases q:H b with
 | none=>rfl
 | some x =>
  have hm:b∈trk h H:=List.mem_filter.mpr ⟨List.mem_range.mpr (AG e'),by simp[q]⟩
  have z:(vv h H).get? b=none:=BJ (trk h H) hm
  rw[z]at e;cases e
def Au (g h:Heap) (L:Addr):List (Addr×Obj):=(List.range h.objs.size).filterMap λa=>if a=L\/(g.get? a).isSome=true then none else(h.get? a).map λo=>(a,o)
def rest (g h:Heap) (L d:Addr):List (Addr×Obj):=(Au g h L).filter λp=>decide (p.1≠d)
structure Mod (K:PySem.W.Frag) (mg:Str->Option Value) (base:Heap):Prop where
 kin:K.In base
 glob:base.Ns mainGlobals mg
 blt:∃mb,base.Ns builtinsNs mb/\∀x:Str,x≠"__name__"->mb x=bootBuiltins x
 nolimit:base.NoLimit
structure Cx where
 prog:Program
 w:World
 K:PySem.W.Frag
 mg:Str->Option Value
 base:Heap
 A:Around
 N:List Str
 s₀:Shared
 H₀:Hp
 env:Env
 outer:List Env
 stack:List Env
 ex:List Addr
 fn:Str->Bool
 calm:Bool
 pn:List (Addr×Obj)
 xe:Value->Shared->Prop
def frs (l:List Env):List Addr:=l.filterMap (·.frame)
abbrev Cx.fs (X:Cx):List Addr:=frs X.outer
def Vis (sc:Scope) (x:Str):Prop:=sc.names.lookup x=some .local\/sc.names.lookup x=some .cell\/sc.names.lookup x=some .free
def Loc (sc:Scope) (x:Str):Prop:=sc.names.lookup x=some .local\/sc.names.lookup x=some .cell
def Look (env:Env) (h:Heap) (m:Str->Option Value) (x:Str) (u:Value):Prop :=
 (env.kindOf x=some .local/\m x=some u)\/((env.kindOf x=some .cell\/env.kindOf x=some .free)/\∃c,env.cells.lookup x=some c/\h.IsCell c (some u))
structure Cx.Ok (X:Cx):Prop where
 mod:Mod X.K X.mg X.base
 kind:X.env.scope.kind=.function
 glob:X.env.globals=mainGlobals
 blt:X.env.builtins=builtinsNs
 above:X.s₀.heap.objs.size<=X.env.locals
 inj:∀x y c,X.env.cells.lookup x=some c->X.env.cells.lookup y=some c->x=y
 has:∀x,(X.env.kindOf x=some .cell\/X.env.kindOf x=some .free)->∃c,X.env.cells.lookup x=some c
 cab:∀x c,X.fn x=true->X.env.cells.lookup x=some c->X.s₀.heap.objs.size<=c
 hd:X.calm=true->X.A.handled=none
 frames:X.A.frames=some X.stack
 stk:X.stack=X.outer\/(X.stack=X.env::X.outer/\X.env.frame=some X.env.locals)
 exf:∀b∈X.ex,b≠X.env.locals/\∀x c,X.env.cells.lookup x=some c->c≠b
 bs:∀b o,X.base.get? b=some o->X.s₀.heap.get? b=some o/\X.H₀ b=none
 bsz:X.base.objs.size<=X.s₀.heap.objs.size
 noex:∀b o,X.base.get? b=some o->b∉X.ex
 exfs:∀b∈X.ex,b∉X.fs
 funs:X.s₀.heap.FunFrames X.base X.outer
 frf:∀b∈X.fs,X.H₀ b=none
structure Inv (X:Cx) (pins:List (Addr×Obj)) (σ:List (Option V)) (H:Hp) (s:Shared):Prop where
 ok:X.Ok
 os:s.os=X.s₀.os
 bare:AllBare s.gens
 base:Un X.fs X.ex X.H₀ H X.s₀.heap s.heap
 loc:∃m,s.heap.Ns X.env.locals m/\∀(i:Nat) (x:Str) (v:V),X.N[i]? = some x->σ[i]? = some (some v)->Vis X.env.scope x->∃u,RelV v u/\Look X.env s.heap m x u
 cell:∀x c,X.env.cells.lookup x=some c->∃v,s.heap.IsCell c v
 free:H X.env.locals=none
 freeC:∀x c,X.env.cells.lookup x=some c->H c=none
 pin:∀p∈X.pn++pins,s.heap.get? p.1=some p.2/\H p.1=none/\p.1≠X.env.locals/\p.1∉X.fs/\∀v,p.2.data≠.cell v
 hok:HOk X.prog X.w H s.heap
 len:σ.length=X.N.length
section
variable {X : Cx} {pins : List (Addr × Obj)} {σ : List (Option V)} {H H' : Hp} {s : Shared} {h' : Heap}
theorem Cx.Ok.nofr (ok:X.Ok) {b:Addr} {o:Obj} (e:X.base.get? b=some o):b∉X.fs:=λhb=>by
 have:=(ok.funs.mem hb).1
 rw[e]at this;cases this
theorem Inv.bs (I:Inv X pins σ H s):∀b o,X.base.get? b=some o->s.heap.get? b=some o/\H b=none:=λb o e =>
 ⟨I.base.keep b o (I.ok.bs b o e).1 (I.ok.bs b o e).2 (I.ok.nofr e) (I.ok.noex b o e),I.base.free b o (I.ok.bs b o e).1 (I.ok.bs b o e).2 (I.ok.noex b o e)⟩
theorem Inv.bk (I:Inv X pins σ H s):∀b o,X.base.get? b=some o->s.heap.get? b=some o:=λb o e=>(I.bs b o e).1
theorem Inv.mod (I:Inv X pins σ H s):Mod X.K X.mg X.base:=I.ok.mod
theorem Inv.kIn (I:Inv X pins σ H s):X.K.In s.heap:=I.ok.mod.kin.keeps I.bk
theorem Inv.fr (I:Inv X pins σ H s):∃m,Fr X.base X.env.locals s.heap m :=
 let ⟨m,hn,_⟩:=I.loc
 ⟨m,hn,I.bk,CC I.ok.bsz I.ok.above⟩
theorem Inv.lt (I:Inv X pins σ H s):X.env.locals<s.heap.objs.size:=let ⟨_,hn,_⟩:=I.loc;hn.lt
theorem Inv.sz (I:Inv X pins σ H s):X.s₀.heap.objs.size<=s.heap.objs.size:=CC I.ok.above (DC I.lt)
theorem Inv.nofs (I:Inv X pins σ H s) {a:Addr} (h:s.heap.objs.size<=a):a∉X.fs:=λhb=>by
 obtain⟨_,o,ho,_⟩:=I.ok.funs.mem hb
 exact absurd (AK (AG ho) (CC I.sz h)) (BU _)
theorem Inv.cne (I:Inv X pins σ H s):∀x c,X.env.cells.lookup x=some c->c≠X.env.locals:=λx c e z=>by
 obtain⟨v,o,ho,hd⟩:=I.cell x c e
 obtain⟨m,⟨o',es,ep,ho',hd',_⟩,_⟩:=I.loc
 rw[z,ho']at ho;cases ho;rw[hd']at hd;cases hd
theorem Inv.funs (I:Inv X pins σ H s):s.heap.FunFrames X.base X.outer:=by
 have all:∀(l:List Env),(∀b∈frs l,b∈X.fs)->X.s₀.heap.FunFrames X.base l->s.heap.FunFrames X.base l:=by
  intro l
  induction l with
  | nil=>intro _ _;trivial
  | cons env r ih =>
   intro hs hl
   obtain⟨hk,⟨L,o,hf,hn,ho,hd⟩,hr⟩:=hl
   have hL:L∈X.fs:=hs L (by unfold frs;rw[BW,hf];exact BF)
   obtain⟨sl,e⟩:=I.base.slot L o ho (I.ok.frf L hL) hL λz=>I.ok.exfs L z hL
   exact⟨hk,⟨L,_,hf,hn,e,hd⟩,ih (λb hb=>hs b (by unfold frs;rw[BW,hf];exact AO _ hb)) hr⟩
 exact all X.outer (λ_ hb=>hb) I.ok.funs
theorem Inv.stack (I:Inv X pins σ H s):s.heap.FunFrames X.base X.stack:=by
 rcases I.ok.stk with e | ⟨e,hf⟩
 ·rw[e];exact I.funs
 ·rw[e]
  obtain⟨m,hn,_⟩:=I.loc
  refine .cons (by rw[I.ok.kind];decide) hf hn ?_ I.funs
  exact Heap.get?_none_of_le (CC I.ok.bsz I.ok.above)
theorem Inv.stkSub (I:Inv X pins σ H s):∀b∈frs X.stack,b∈X.env.locals::X.fs:=λb hb=>by
 rcases I.ok.stk with e | ⟨e,hf⟩
 ·rw[e]at hb;exact AO _ hb
 ·rw[e]at hb
  unfold frs at hb
  rw[BW,hf]at hb
  exact hb
theorem Inv.stkFree (I:Inv X pins σ H s):∀b∈frs X.stack,H b=none:=λb hb=>by
 rcases AL.mp (I.stkSub b hb)with e | hb
 ·rw[e];exact I.free
 ·obtain⟨_,o,ho,_⟩:=I.ok.funs.mem hb
  exact I.base.free b o ho (I.ok.frf b hb) λz=>I.ok.exfs b z hb
theorem Inv.step {g':Array GenState} {t':Nat} {d':Drawn} {ch:List Addr} (I:Inv X pins σ H s)
  (hch:∀b∈ch,(b∈X.ex\/X.s₀.heap.objs.size<=b)/\b≠X.env.locals/\(∀x c,X.env.cells.lookup x=some c->c≠b)/\∀p∈X.pn++pins,p.1≠b)
  (keep:∀b o,b≠X.env.locals->b∉X.fs->b∉ch->s.heap.get? b=some o->H b=none->h'.get? b=some o)
  (slot:∀b o,b≠X.env.locals->b∈X.fs->b∉ch->s.heap.get? b=some o->H b=none->∃sl,h'.get? b=some {o with slots:=sl}) (free:∀b o,b∉ch->s.heap.get? b=some o->H b=none->H' b=none)
  (there:∀b o,b∉ch->s.heap.get? b=some o->∃o',h'.get? b=some o')
  (tups:∀b xs,H b=some (.tup xs)->H' b=some (.tup xs)) (frzs:∀b o u,H b=some (.frz o u)->H' b=some (.frz o u)) (tbls:∀b ps,H b=some (.tbl ps)->∃more,H' b=some (.tbl (ps++more)))
  (ns:∀m,s.heap.Ns X.env.locals m->h'.Ns X.env.locals m) (hok:HOk X.prog X.w H' h') (hg:AllBare g') :
  Inv X pins σ H' {s with heap:=h',gens:=g',drawn:=d',toks:=t'}:=by
 have neL:∀b o,X.s₀.heap.get? b=some o->b≠X.env.locals:=λb o e=>AN (AK (AG e) I.ok.above)
 have neC:∀b o,X.s₀.heap.get? b=some o->b∉X.ex->b∉ch:=λb o e hx hb=>by
  rcases(hch b hb).1 with z | z
  ·exact hx z
  ·exact absurd (AK (AG e) z) (BU _)
 have cellK:∀x c,X.env.cells.lookup x=some c->∀v,s.heap.IsCell c v->h'.IsCell c v:=λx c e v ⟨o,ho,hd⟩=>by
  have nch:c∉ch:=λz=>(hch c z).2.2.1 x c e rfl
  by_cases hc:c∈X.fs
  ·obtain⟨sl,q⟩:=slot c o (I.cne x c e) hc nch ho (I.freeC x c e)
   exact⟨_,q,hd⟩
  ·exact⟨o,keep c o (I.cne x c e) hc nch ho (I.freeC x c e),hd⟩
 refine⟨I.ok,I.os,hg,⟨λb o e n hb hx=>?_,λb o e n hb hx=>?_,λb o e n hx=>?_,λb o e hx=>?_,λb xs e=>tups b xs (I.base.tups b xs e),λb o xs e=>frzs b o xs (I.base.frzs b o xs e),λb ps e=>?_⟩,?_,λx c e=>?_,?_,λx c e=>?_,λp hp=>?_,hok,I.len⟩
 ·exact keep b o (neL b o e) hb (neC b o e hx) (I.base.keep b o e n hb hx) (I.base.free b o e n hx)
 ·obtain⟨sl,e1⟩:=I.base.slot b o e n hb hx
  obtain⟨sl',e2⟩:=slot b _ (neL b o e) hb (neC b o e hx) e1 (I.base.free b o e n hx)
  exact⟨sl',e2⟩
 ·obtain⟨o',e1⟩:=I.base.there b o e hx
  exact free b o' (neC b o e hx) e1 (I.base.free b o e n hx)
 ·obtain⟨o',e1⟩:=I.base.there b o e hx
  exact there b o' (neC b o e hx) e1
 ·obtain⟨m1,e1⟩:=I.base.tbls b ps e
  obtain⟨m2,e2⟩:=tbls b _ e1
  exact⟨m1++m2,by rw[e2,Array.append_assoc]⟩
 ·obtain⟨m,hn,hl⟩:=I.loc
  refine⟨m,ns m hn,λi x v e1 e2 e3=>?_⟩
  obtain⟨u,r,l⟩:=hl i x v e1 e2 e3
  refine⟨u,r,?_⟩
  rcases l with l | ⟨k,c,e,z⟩
  ·exact .inl l
  ·exact .inr ⟨k,c,e,cellK x c e _ z⟩
 ·obtain⟨v,z⟩:=I.cell x c e
  exact⟨v,cellK x c e v z⟩
 ·obtain⟨m,⟨o,_,_,ho,_⟩,_⟩:=I.loc
  exact free _ o (λz=>(hch _ z).2.1 rfl) ho I.free
 ·obtain⟨v,o,ho,hd⟩:=I.cell x c e
  exact free c o (λz=>(hch c z).2.2.1 x c e rfl) ho (I.freeC x c e)
 ·obtain⟨e,n,ne,nf,d⟩:=I.pin p hp
  have nch:p.1∉ch:=λz=>(hch p.1 z).2.2.2 p hp rfl
  exact⟨keep p.1 p.2 ne nf nch e n,free p.1 p.2 nch e n,ne,nf,d⟩
theorem Inv.un {t':Nat} (I:Inv X pins σ H s) (u:Un X.fs [] H H' s.heap h') (hok:HOk X.prog X.w H' h'):Inv X pins σ H' {s with heap:=h',toks:=t'}:=by
 obtain⟨m,⟨o,es,ep,ho,r⟩,_⟩:=id I.loc
 obtain⟨sl,hL⟩:=u.any ho I.free (by simp)
 exact I.step (g':=s.gens) (d':=s.drawn) (ch:=[]) (λ_ z=>nomatch z) (λb o _ hb _ e n=>u.keep b o e n hb (by simp)) (λb o _ hb _ e n=>u.slot b o e n hb (by simp)) (λb o _ e n=>u.free b o e n (by simp)) (λb o _ e=>u.there b o e (by simp)) u.tups u.frzs u.tbls (λm' hm=>by
  obtain⟨o',es',ep',ho',r'⟩:=hm
  rw[ho]at ho';cases ho'
  exact⟨_,es',ep',hL,r'⟩) hok I.bare
theorem Inv.call {g':Array GenState} {t':Nat} {d':Drawn} {ch:List Addr} (I:Inv X pins σ H s) (u:Un (frs X.stack) ch H H' s.heap h') (hok:HOk X.prog X.w H' h') (hg:AllBare g')
  (hch:∀b∈ch,(b∈X.ex\/X.s₀.heap.objs.size<=b)/\b≠X.env.locals/\(∀x c,X.env.cells.lookup x=some c->c≠b)/\∀p∈X.pn++pins,p.1≠b) :
  Inv X pins σ H' {s with heap:=h',gens:=g',drawn:=d',toks:=t'}:=by
 obtain⟨m,⟨o,es,ep,ho,r⟩,_⟩:=id I.loc
 obtain⟨sl,hL⟩:=u.any ho I.free λz=>(hch _ z).2.1 rfl
 exact I.step (ch:=ch) hch (λb o hL hb hc e n=>u.keep b o e n (λz=>(AL.mp (I.stkSub b z)).elim hL hb) hc) (λb o _ _ hc e n=>u.any e n hc) (λb o hc e n=>u.free b o e n hc) (λb o hc e=>u.there b o e hc) u.tups u.frzs u.tbls (λm' hm=>by
  obtain⟨o',es',ep',ho',r'⟩:=hm
  rw[ho]at ho';cases ho'
  exact⟨_,es',ep',hL,r'⟩) hok hg
theorem Inv.turned {t':Nat} {it:Addr} (I:Inv X pins σ H s) (k:∀b o,b≠it->s.heap.get? b=some o->h'.get? b=some o) (hn:H it=none) (hL:it≠X.env.locals)
  (h1:it∈X.ex\/X.s₀.heap.objs.size<=it) (h2:∀x c,X.env.cells.lookup x=some c->c≠it) (h3:∀p∈X.pn++pins,p.1≠it):Inv X pins σ H {s with heap:=h',toks:=t'}:=by
 have nit:∀b u,H b=some u->b≠it:=λb u e z=>by rw[z,hn]at e;cases e
 refine I.step (g':=s.gens) (d':=s.drawn) (ch:=[it]) (λb hb=>?_) (λb o _ _ hc e _=>k b o (λz=>hc (by simp[z])) e) (λb o _ _ hc e _=>⟨o.slots,k b o (λz=>hc (by simp[z])) e⟩) (λ_ _ _ _ n=>n)
  (λb o hc e=>⟨o,k b o (λz=>hc (by simp[z])) e⟩) (λ_ _ e=>e) (λ_ _ _ e=>e) (λb ps e=>⟨#[],by rw[e];simp⟩) (λm hm=>?_) (λb u e=>?_) I.bare
 ·have e:b=it:=by simpa using hb
  subst e
  exact⟨h1,hL,h2,h3⟩
 ·obtain⟨o,es,ep,ho,r⟩:=hm
  exact⟨o,es,ep,k _ o (Ne.symm hL) ho,r⟩
 ·refine(I.hok b u e).stay (λc v hc q=>k c v ?_ q) (λ_ q=>q) λ_ _ q=>q
  rcases hc with z | z
  ·rw[z];exact nit b u e
  ·exact nit c _ z
theorem Inv.tok (I:Inv X pins σ H s) (t:Nat):Inv X pins σ H {s with toks:=t}:=I.un (h':=s.heap) (t':=t) Un.refl I.hok
theorem Inv.kept {t':Nat} (I:Inv X pins σ H s) (k:∀b u,s.heap.get? b=some u->h'.get? b=some u):Inv X pins σ H {s with heap:=h',toks:=t'}:=I.un (Un.kept k) (I.hok.kept k)
theorem Inv.laid {a:Addr} {o:HO} {t':Nat} (I:Inv X pins σ H s) (k:∀b u,s.heap.get? b=some u->h'.get? b=some u) (hp:s.heap.objs.size<=a) (new:cw X.prog X.w (upd H a o) h' a o) :
  Inv X pins σ (upd H a o) {s with heap:=h',toks:=t'}:=I.un (Un.laid k hp (I.hok.fresh hp)) (I.hok.laid k hp new)
theorem Inv.write {x e:Addr} {o:HO} {t':Nat} (I:Inv X pins σ H s) (mu:Mut (H x)) (he:e=x\/H e=some (.own x)) (k:∀b u,b≠e->s.heap.get? b=some u->h'.get? b=some u) (heo:∃u,h'.get? e=some u)
  (new:cw X.prog X.w (upd H x o) h' x o):Inv X pins σ (upd H x o) {s with heap:=h',toks:=t'}:=I.un (Un.write mu he k heo) (I.hok.write mu he k heo new)
theorem Inv.weak {σ':List (Option V)} (I:Inv X pins σ H s) (hl:σ'.length=σ.length) (w:∀(i:Nat) v,σ'[i]? = some (some v)->σ[i]? = some (some v)):Inv X pins σ' H s :=
 ⟨I.ok,I.os,I.bare,I.base,let ⟨m,hn,hl'⟩:=I.loc;⟨m,hn,λi x v e1 e2 e3=>hl' i x v e1 (w i v e2) e3⟩,I.cell,I.free,I.freeC,I.pin,I.hok,hl.trans I.len⟩
theorem Inv.pins_of {pins':List (Addr×Obj)} (I:Inv X pins σ H s) (h:∀p∈pins',s.heap.get? p.1=some p.2/\H p.1=none/\p.1≠X.env.locals/\p.1∉X.fs/\∀v,p.2.data≠.cell v):Inv X pins' σ H s :=
 ⟨I.ok,I.os,I.bare,I.base,I.loc,I.cell,I.free,I.freeC,λp hp=>(CY.mp hp).elim (λz=>I.pin p (List.mem_append_left _ z)) (h p),I.hok,I.len⟩
theorem jw {N:List Str} (hN:N.Nodup) {i j:Nat} {x:Str} (a:N[i]? = some x) (b:N[j]? = some x):i=j:=by
 obtain⟨h1,e1⟩:=AF.mp a
 obtain⟨h2,e2⟩:=AF.mp b
 exact(List.getElem_inj hN).mp (e1.trans e2.symm)
theorem qy {M:Model} {A:Around} {E:Value->Shared->Prop} {i:Nat} {x:Str} {v:V} {u:Value} {Q:Unit->Shared->Prop} (I:Inv X pins σ H s) (hN:X.N.Nodup) (hi:X.N[i]? = some x) (hx:Loc X.env.scope x) (r:RelV v u)
  (h:∀s',Inv X pins (σ.set i (some v)) H s'->(∃a,Heap.SameBut a s.heap s'.heap/\(a=X.env.locals\/X.env.cells.lookup x=some a))->Q () s') (hf:X.fn x=true\/X.env.scope.names.lookup x=some .local:=by first | exact .inl rfl | exact .inr rfl | assumption):wpAny M A (storeName X.env x u) Q E s:=by
 obtain⟨m,hn,hl⟩:=id I.loc
 have hcls:(X.env.scope.kind==.class || (X.env.scope.kind==.module&&X.env.locals != X.env.globals))=false:=by rw[I.ok.kind];rfl
 have hiσ:i<σ.length:=by rw[I.len];exact(AF.mp hi).1
 have cne:=I.cne
 have tracked:∀{a:Addr} {h':Heap},(∃o,s.heap.get? a=some o/\H a=none)->Heap.SameBut a s.heap h'->HOk X.prog X.w H h':=λ{a h'} ha hs b ob e=>by
  obtain⟨_,_,hfree⟩:=ha
  refine(I.hok b ob e).stay (λc w' hc q=>(hs.2 c ?_).trans q) (λ_ q=>q) λ_ _ q=>q
  rintro rfl
  rcases hc with rfl | hc
  ·rw[hfree]at e;cases e
  ·rw[hfree]at hc;cases hc
 rcases hx with hk | hk
 ·refine wpAny_storeName_local hk hn (λh' hn' hs=>?_) hcls
  obtain⟨oL,_,_,hoL,_⟩:=id hn
  refine h _ ⟨I.ok,I.os,I.bare,⟨λb o e n hb hx=>?_,λb o e n hb hx=>?_,I.base.free,λb o e hx=>?_,I.base.tups,I.base.frzs,I.base.tbls⟩,⟨_,hn',λj y v' e1 e2 e3=>?_⟩,λy c e=>?_,I.free,I.freeC,λp hp=>?_,tracked ⟨oL,hoL,I.free⟩ hs,by simpa using I.len⟩ ⟨_,hs,.inl rfl⟩
  ·exact(hs.2 b (AN (AK (AG e) I.ok.above))).trans (I.base.keep b o e n hb hx)
  ·obtain⟨sl,e1⟩:=I.base.slot b o e n hb hx
   exact⟨sl,(hs.2 b (AN (AK (AG e) I.ok.above))).trans e1⟩
  ·obtain⟨o',e1⟩:=I.base.there b o e hx
   exact⟨o',(hs.2 b (AN (AK (AG e) I.ok.above))).trans e1⟩
  ·by_cases hj:j=i
   ·subst hj
    rw[hi]at e1;cases e1
    rw[BM hiσ]at e2
    cases e2
    exact⟨u,r,.inl ⟨hk,by simp⟩⟩
   ·rw[BA (Ne.symm hj)]at e2
    obtain⟨u',r',q⟩:=hl j y v' e1 e2 e3
    refine⟨u',r',?_⟩
    rcases q with⟨k,e⟩ | ⟨k,c,e,z⟩
    ·refine .inl ⟨k,?_⟩
     have:y≠x:=λe=>hj (jw hN e1 (e ▸ hi))
     simp[this,e]
    ·exact .inr ⟨k,c,e,z.sameBut hs (cne y c e)⟩
  ·obtain⟨w',z⟩:=I.cell y c e
   exact⟨w',z.sameBut hs (cne y c e)⟩
  ·obtain⟨e,n,ne,nf,d⟩:=I.pin p hp
   exact⟨(hs.2 p.1 ne).trans e,n,ne,nf,d⟩
 ·have hfn:X.fn x=true:=by
   rcases hf with z | z
   ·exact z
   ·rw[z]at hk;cases hk
  obtain⟨c,hc⟩:=I.ok.has x (.inl hk)
  obtain⟨w',z⟩:=I.cell x c hc
  refine wpAny_storeName_cell I.ok.kind hk hc z (λh' hc' hs=>?_)
  obtain⟨oc,hoc,hocd⟩:=id z
  refine h {s with heap:=h'} ⟨I.ok,I.os,I.bare,⟨λb o e n hb hx=>?_,λb o e n hb hx=>?_,I.base.free,λb o e hx=>?_,I.base.tups,I.base.frzs,I.base.tbls⟩,⟨m,hn.sameBut hs (Ne.symm (cne x c hc)),λj y v' e1 e2 e3=>?_⟩,λy c' e=>?_,I.free,I.freeC,λp hp=>?_,tracked ⟨oc,hoc,I.freeC x c hc⟩ hs,by simpa using I.len⟩ ⟨c,hs,.inr hc⟩
  ·exact(hs.2 b (AN (AK (AG e) (I.ok.cab x c hfn hc)))).trans (I.base.keep b o e n hb hx)
  ·obtain⟨sl,e1⟩:=I.base.slot b o e n hb hx
   exact⟨sl,(hs.2 b (AN (AK (AG e) (I.ok.cab x c hfn hc)))).trans e1⟩
  ·obtain⟨o',e1⟩:=I.base.there b o e hx
   exact⟨o',(hs.2 b (AN (AK (AG e) (I.ok.cab x c hfn hc)))).trans e1⟩
  ·by_cases hj:j=i
   ·subst hj
    rw[hi]at e1;cases e1
    rw[BM hiσ]at e2
    cases e2
    exact⟨u,r,.inr ⟨.inl hk,c,hc,hc'⟩⟩
   ·rw[BA (Ne.symm hj)]at e2
    obtain⟨u',r',q⟩:=hl j y v' e1 e2 e3
    refine⟨u',r',?_⟩
    rcases q with q | ⟨k,c',e,z'⟩
    ·exact .inl q
    ·refine .inr ⟨k,c',e,z'.sameBut hs ?_⟩
     rintro rfl
     exact hj (jw hN e1 (I.ok.inj _ _ _ e hc ▸ hi))
  ·by_cases hcc:c'=c
   ·subst hcc;exact⟨_,hc'⟩
   ·obtain⟨w2,z2⟩:=I.cell y c' e
    exact⟨w2,z2.sameBut hs hcc⟩
  ·obtain⟨e,n,ne,nf,d⟩:=I.pin p hp
   refine⟨(hs.2 p.1 ?_).trans e,n,ne,nf,d⟩
   intro q
   rw[q,hoc]at e
   have q':oc=p.2:=AX e
   exact d w' (by rw[<-q'];exact hocd)
theorem jx {M:Model} {A:Around} {E:Value->Shared->Prop} {i:Nat} {x:Str} {v:V} {u:Value} {Q:Unit->Shared->Prop} (I:Inv X pins σ H s) (hN:X.N.Nodup) (hi:X.N[i]? = some x) (hx:Loc X.env.scope x) (r:RelV v u)
  (h:∀s',Inv X pins (σ.set i (some v)) H s'->Q () s') (hf:X.fn x=true\/X.env.scope.names.lookup x=some .local:=by first | exact .inl rfl | exact .inr rfl | assumption):wpAny M A (storeName X.env x u) Q E s :=
 qy I hN hi hx r (λs' I' _=>h s' I') hf
theorem Inv.call' {s':Shared} {ch:List Addr} (I:Inv X pins σ H s) (ho:s'.os=s.os) (u:Un (frs X.stack) ch H H' s.heap s'.heap) (hok:HOk X.prog X.w H' s'.heap) (hg:AllBare s'.gens)
  (hch:∀b∈ch,(b∈X.ex\/X.s₀.heap.objs.size<=b)/\b≠X.env.locals/\(∀x c,X.env.cells.lookup x=some c->c≠b)/\∀p∈X.pn++pins,p.1≠b):Inv X pins σ H' s':=by
 obtain⟨h',g',d',t',o'⟩:=s'
 have e:o'=s.os:=ho
 subst e
 exact I.call (g':=g') (t':=t') (d':=d') u hok hg hch
end
abbrev XK:=Value->Option Addr->Hp->Prop
abbrev St:=List (Option V)
abbrev VK:=V->Hp->Prop
abbrev TE:=St->Hp->VK->Prop
abbrev TT:=St->Hp->(Bool->Hp->Prop)->Prop
abbrev TA:=St->Hp->(List V->Hp->Prop)->Prop
structure Ends where
 nx:St->Hp->Prop
 rt:VK
 bk:St->Hp->Prop:=λ_ _=>False
 ct:St->Hp->Prop:=λ_ _=>False
abbrev TS:=Ends->St->Hp->Prop
def EP (X:Cx) (pins:List (Addr×Obj)) (σ:St) (Q:VK) (u:Value) (s':Shared):Prop:=∃v H',Inv X pins σ H' s'/\RelV v u/\Q v H'
def TP (X:Cx) (pins:List (Addr×Obj)) (σ:St) (Q:Bool->Hp->Prop) (b:Bool) (s':Shared):Prop:=∃H',Inv X pins σ H' s'/\Q b H'
def AP (X:Cx) (pins:List (Addr×Obj)) (σ:St) (Q:List V->Hp->Prop) (us:List Value) (s':Shared):Prop:=∃vs H',Inv X pins σ H' s'/\ay vs us/\Q vs H'
def SP (X:Cx) (pins:List (Addr×Obj)) (D:Ends) (f:Flow) (s':Shared):Prop :=
 match f with
 | .next=>∃σ' H',Inv X pins σ' H' s'/\D.nx σ' H'
 | .brk=>∃σ' H',Inv X pins σ' H' s'/\D.bk σ' H'
 | .cont=>∃σ' H',Inv X pins σ' H' s'/\D.ct σ' H'
 | .ret u=>∃v σ' H',Inv X pins σ' H' s'/\RelV v u/\D.rt v H'
def PE (X:Cx) (e:Expr) (t:TE):Prop :=
 ∀(pins:List (Addr×Obj)) (s:Shared) (σ:St) (H:Hp) (Q:VK),Inv X pins σ H s->t σ H Q->wpAny (model X.prog X.w) X.A (eval e X.env) (EP X pins σ Q) X.xe s
def PT (X:Cx) (e:Expr) (t:TT):Prop :=
 ∀(pins:List (Addr×Obj)) (s:Shared) (σ:St) (H:Hp) (Q:Bool->Hp->Prop),Inv X pins σ H s->t σ H Q->wpAny (model X.prog X.w) X.A (isTrue e X.env (eval e X.env)) (TP X pins σ Q) X.xe s
def PW (X:Cx) (e:Expr) (t:TT):Prop :=
 ∀(whole:Sem Value) (pins:List (Addr×Obj)) (s:Shared) (σ:St) (H:Hp) (Q:Bool->Hp->Prop),Inv X pins σ H s->t σ H Q->wpAny (model X.prog X.w) X.A (isTrue e X.env whole) (TP X pins σ Q) X.xe s
theorem PW.pt {X:Cx} {e:Expr} {t:TT} (h:PW X e t):PT X e t:=h _
def PA (X:Cx) (es:List Expr) (t:TA):Prop :=
 ∀(pos:Pos) (pins:List (Addr×Obj)) (s:Shared) (σ:St) (H:Hp) (Q:List V->Hp->Prop),Inv X pins σ H s->t σ H Q->wpAny (model X.prog X.w) X.A (spliced (backTo pos (starEach es X.env))) (AP X pins σ Q) X.xe s
def PS (X:Cx) (st:Stmt) (t:TS):Prop :=
 ∀(pins:List (Addr×Obj)) (s:Shared) (σ:St) (H:Hp) (D:Ends),Inv X pins σ H s->t D σ H->wpAny (model X.prog X.w) X.A (exec st X.env) (SP X pins D) X.xe s
def PSs (X:Cx) (st:List Stmt) (t:TS):Prop :=
 ∀(pins:List (Addr×Obj)) (s:Shared) (σ:St) (H:Hp) (D:Ends),Inv X pins σ H s->t D σ H->wpAny (model X.prog X.w) X.A (execs st X.env) (SP X pins D) X.xe s
theorem thn {α:Type} {t:Sem α} {Q Q':α->Shared->Prop} {M:Model} {A:Around} {E:Value->Shared->Prop} {s:Shared} (h:wpAny M A t Q E s) (hQ:∀a s,Q a s->Q' a s):wpAny M A t Q' E s:=BK h hQ λ_ _ x=>x
section
variable {X : Cx}
theorem bin {a b:Expr} {ta tb:TE} (ha:PE X a ta) (hb:PE X b tb) {pins:List (Addr×Obj)} {s:Shared} {σ:St} {H:Hp} {R:V->V->Hp->Prop} (I:Inv X pins σ H s) (h:ta σ H λx H1=>tb σ H1 λy H2=>R x y H2)
  {α:Type} {Q:α->Shared->Prop} {f:Value->Value->Sem α}
  (hf:∀v u s2 x y H2,Inv X pins σ H2 s2->RelV x v->RelV y u->R x y H2->wpAny (model X.prog X.w) X.A (f v u) Q X.xe s2) :
  wpAny (model X.prog X.w) X.A (eval a X.env) (λv s₁=>wpAny (model X.prog X.w) X.A (eval b X.env) (λu s₂=>wpAny (model X.prog X.w) X.A (f v u) Q X.xe s₂) X.xe s₁) X.xe s:=by
 refine thn (ha pins s σ H _ I h) λv s1 ⟨x,H1,I1,r1,q1⟩=>?_
 refine thn (hb pins s1 σ H1 _ I1 q1) λu s2 ⟨y,H2,I2,r2,q2⟩=>?_
 exact hf v u s2 x y H2 I2 r1 r2 q2
def Jw (i:Nat):TE:=λσ H Q=>∃v,σ[i]? = some (some v)/\Q v H
def tC (v:V):TE:=λ_ H Q=>Q v H
theorem qz {i:Nat} {x:Str} {pos:Pos} (hN:X.N[i]? = some x) (hv:Vis X.env.scope x) (hd:(x==("__debug__":Str))=false:=by decide) (hcd:(x==("__classdict__":Str))=false:=by decide):PE X (.Name x pos) (Jw i):=by
 intro pins s σ H Q I h
 obtain⟨v,e,h⟩:=h
 obtain⟨m,hn,hl⟩:=I.loc
 obtain⟨u,r,l⟩:=hl i x v hN e hv
 have fin:EP X pins σ Q u s:=⟨v,H,I,r,h⟩
 rcases l with⟨hk,hm⟩ | ⟨hk,c,hc,hcell⟩
 ·exact wpAny_Name (wpAny_loadName_local I.ok.kind hk hn hm fin) hd
 ·rcases hk with hk | hk
  ·exact wpAny_Name (wpAny_loadName_cell I.ok.kind hk hc hcell fin) hd
  ·exact wpAny_Name (wpAny_loadName_free I.ok.kind hk hc hcell fin hcd) hd
theorem C4 {i j pos}:PE X (.Constant (.int i) j pos) (tC (.int i)):=λ_ _ _ H _ I h=>wpAny_Constant_int ⟨.int i,H,I.tok _,⟨_,rfl⟩,h⟩
theorem Hd {b j pos}:PE X (.Constant (.bool b) j pos) (tC (.bl b)):=λ_ _ _ H _ I h=>Constant_bool ⟨.bl b,H,I,rfl,h⟩
theorem C5 {j pos}:PE X (.Constant .none j pos) (tC .non):=λ_ _ _ H _ I h=>Constant_none ⟨.non,H,I,rfl,h⟩
theorem C6 {x j pos}:PE X (.Constant (.str x) j pos) (tC (.str x)):=λ_ _ _ H _ I h=>Calls.Constant_str ⟨.str x,H,I.tok _,⟨_,rfl⟩,h⟩
def Gl (X:Cx) (x:Str):Prop:=X.env.kindOf x=some .globalImplicit
theorem ia {E:Value->Shared->Prop} {pins:List (Addr×Obj)} {s:Shared} {σ:St} {H:Hp} {x:Str} {u:Value} {pos:Pos} {Q:Value->Shared->Prop} (I:Inv X pins σ H s) (hg:Gl X x) (hm:X.mg x=some u) (h:Q u s)
  (hd:(x==("__debug__":Str))=false:=by decide):wpAny (model X.prog X.w) X.A (eval (.Name x pos) X.env) Q E s :=
 EB I.ok.kind hg (Calls.loadGlobal_global (by rw[I.ok.glob];exact I.mod.glob.keeps I.bk) hm h) hd
theorem ko {E:Value->Shared->Prop} {pins:List (Addr×Obj)} {s:Shared} {σ:St} {H:Hp} {x:Str} {u:Value} {pos:Pos} {Q:Value->Shared->Prop} (I:Inv X pins σ H s) (hg:Gl X x) (hm:X.mg x=none) (hv:bootBuiltins x=some u) (h:Q u s)
  (hn:x≠"__name__":=by decide) (hd:(x==("__debug__":Str))=false:=by decide):wpAny (model X.prog X.w) X.A (eval (.Name x pos) X.env) Q E s:=by
 obtain⟨mb,h1,h2⟩:=I.mod.blt
 exact EB I.ok.kind hg (Calls.loadGlobal_builtin (by rw[I.ok.glob];exact I.mod.glob.keeps I.bk) hm (by rw[I.ok.blt];exact h1.keeps I.bk) ((h2 x hn).trans hv) h) hd
theorem Av {x:Str} {v:V} {u:Value} {pos:Pos} (hg:Gl X x) (hm:X.mg x=some u) (r:RelV v u) (hd:(x==("__debug__":Str))=false:=by decide):PE X (.Name x pos) (tC v) :=
 λ_ _ _ H _ I h=>ia I hg hm ⟨v,H,I,r,h⟩ hd
theorem Aw {x:Str} {v:V} {u:Value} {pos:Pos} (hg:Gl X x) (hm:X.mg x=none) (hv:bootBuiltins x=some u) (r:RelV v u) (hn:x≠"__name__":=by decide) (hd:(x==("__debug__":Str))=false:=by decide):PE X (.Name x pos) (tC v) :=
 λ_ _ _ H _ I h=>ko I hg hm hv ⟨v,H,I,r,h⟩ hn hd
variable {a b : Expr} {ta tb : TE} {pos : Pos}
variable {tA tB' : TT} {rest : List Expr}
def Kv (t u:TT):TT:=λσ H Q=>t σ H λc H1=>if c=true then u σ H1 Q else Q false H1
def tOr (t u:TT):TT:=λσ H Q=>t σ H λc H1=>if c=true then Q true H1 else u σ H1 Q
theorem Ax (ha:PT X a tA):PW X (.BoolOp .And [a] pos) tA:=by
 intro wh pins s σ H Q I h
 refine isTrue_and (thn (ha pins s σ H Q I h) λc s1 e=>?_)
 cases c with
 | true=>exact isTrue_and_nil e
 | false=>exact e
theorem C7 (ha:PT X a tA):PW X (.BoolOp .Or [a] pos) tA:=by
 intro wh pins s σ H Q I h
 refine isTrue_or (thn (ha pins s σ H Q I h) λc s1 e=>?_)
 cases c with
 | false=>exact isTrue_or_nil e
 | true=>exact e
theorem C8 (ha:PT X a tA) (hb:PW X (.BoolOp .And (b::rest) pos) tB'):PW X (.BoolOp .And (a::b::rest) pos) (Kv tA tB'):=by
 intro wh pins s σ H Q I h
 refine isTrue_and (thn (ha pins s σ H _ I h) λc s1 ⟨H1,I1,q1⟩=>?_)
 cases c with
 | true=>exact hb wh pins s1 σ H1 Q I1 q1
 | false=>exact⟨H1,I1,q1⟩
theorem He (ha:PT X a tA) (hb:PW X (.BoolOp .Or (b::rest) pos) tB'):PW X (.BoolOp .Or (a::b::rest) pos) (tOr tA tB'):=by
 intro wh pins s σ H Q I h
 refine isTrue_or (thn (ha pins s σ H _ I h) λc s1 ⟨H1,I1,q1⟩=>?_)
 cases c with
 | true=>exact⟨H1,I1,q1⟩
 | false=>exact hb wh pins s1 σ H1 Q I1 q1
def Hf (ta:TE):TE:=λσ H Q=>ta σ H λx H1=>∃c,x=.bl c/\Q (.bl (!c)) H1
theorem C9 (ha:PE X a ta):PE X (.UnaryOp .Not a pos) (Hf ta):=by
 intro pins s σ H Q I h
 refine UnaryOp_ (thn (ha pins s σ H _ I h) λv s1 ⟨x,H1,I1,r1,q1⟩=>?_)
 obtain⟨c,rfl,q1⟩:=q1
 cases r1
 exact not_of (CM ⟨.bl (!c),H1,I1,rfl,q1⟩)
end
def SqL (K:PySem.W.Frag) (H:Hp) (a:Addr) (xs:List V):Prop :=
 Rd H a (.lst xs) \/
  ∃(o:Obj) (its:Array Value) (n:Nat),K.lookup a=some o/\o.cls=.type "list"/\o.dict=none/\o.data=.seq its n/\its.size<=sizeLine/\ay xs its.toList
def SqT (K:PySem.W.Frag) (H:Hp) (a:Addr) (xs:List V):Prop :=
 Rd H a (.tup xs) \/
  ∃(o:Obj) (its:Array Value) (n:Nat),K.lookup a=some o/\o.cls=.type "tuple"/\o.data=.seq its n/\its.size<=sizeLine/\ay xs its.toList/\o.dict=none
def Kw:Value->Option V
 | .none=>some .non
 | .bool b=>some (.bl b)
 | .int i _=>some (.int i)
 | .str x _=>some (.str x)
 | .bytes b _=>some (.byt b)
 | .float b _=>some (.flt b)
 | .ref a=>some (.ref a)
 | .type n=>some (.ty n)
 | _=>none
theorem RelV.abs {x:V} {u:Value} (r:RelV x u):Kw u=some x:=by
 cases x with
 | non=>cases r;rfl
 | bl _=>cases r;rfl
 | int _=>obtain⟨t,rfl⟩:=r;rfl
 | str _=>obtain⟨t,rfl⟩:=r;rfl
 | byt _=>obtain⟨t,rfl⟩:=r;rfl
 | flt _=>obtain⟨t,rfl⟩:=r;rfl
 | ref _=>cases r;rfl
 | ty _=>cases r;rfl
theorem RelV.inj {x y:V} {u:Value} (r:RelV x u) (q:RelV y u):x=y:=AX (r.abs.symm.trans q.abs)
theorem ay.inj:∀{xs ys:List V} {us:List Value},ay xs us->ay ys us->xs=ys
 | _,_,_,.nil,.nil=>rfl
 | _,_,_,.cons r t,.cons r' t'=>by rw[r.inj r',ay.inj t t']
section
variable {X : Cx} {pins : List (Addr × Obj)} {σ : St} {H : Hp} {s : Shared} {a : Addr} {xs ys : List V}
theorem SqL.of {K:PySem.W.Frag} (h:H a=some (.lst xs)):SqL K H a xs:=.inl (.inl h)
theorem SqT.of {K:PySem.W.Frag} (h:H a=some (.tup xs)):SqT K H a xs:=.inl (.inl h)
theorem Inv.list (I:Inv X pins σ H s) (h:SqL X.K H a xs):∃its:List Value,ay xs its/\PlainL s.heap a its.toArray/\xs.length<=sizeLine:=by
 rcases h with h | ⟨o,its,n,hk,hc,hd,hs,hz,r⟩
 ·obtain⟨z,its,n,r,e⟩:=h.ok I.hok
  exact⟨its,r,⟨_,n,e,rfl,rfl,rfl⟩,z⟩
 ·refine⟨its.toList,r,⟨o,n,I.kIn a o hk,hc,hd,by simpa using hs⟩,?_⟩
  have e:=r.length
  simp![BX]at e
  lia
theorem Inv.tuple (I:Inv X pins σ H s) (h:SqT X.K H a xs):∃its:List Value,ay xs its/\IsTup s.heap a its.toArray/\xs.length<=sizeLine:=by
 rcases h with h | ⟨o,its,n,hk,hc,hs,hz,r,_⟩
 ·obtain⟨z,its,r,p⟩:=h.ok I.hok
  exact⟨its,r,p.tup,z⟩
 ·refine⟨its.toList,r,⟨o,I.kIn a o hk,hc,n,by simpa using hs⟩,?_⟩
  have e:=r.length
  simp![BX]at e
  lia
theorem Inv.list_inj (I:Inv X pins σ H s) (h:SqL X.K H a xs) (h':SqL X.K H a ys):xs=ys:=by
 obtain⟨its,r,⟨o,n,e,_,_,d⟩,_⟩:=I.list h
 obtain⟨its',r',⟨o',n',e',_,_,d'⟩,_⟩:=I.list h'
 rw[e]at e';cases e'
 rw[d]at d'
 injection d' with d1 _
 have:its=its':=by simpa using congrArg Array.toList d1
 subst this
 exact r.inj r'
theorem Inv.tuple_inj (I:Inv X pins σ H s) (h:SqT X.K H a xs) (h':SqT X.K H a ys):xs=ys:=by
 obtain⟨its,r,⟨o,e,_,n,d⟩,_⟩:=I.tuple h
 obtain⟨its',r',⟨o',e',_,n',d'⟩,_⟩:=I.tuple h'
 rw[e]at e';cases e'
 rw[d]at d'
 injection d' with d1 _
 have:its=its':=by simpa using congrArg Array.toList d1
 subst this
 exact r.inj r'
end
abbrev Cx.wish (X:Cx) (E:Value->Shared->Prop):Cx:={X with xe:=E}
abbrev Cx.nox (X:Cx):Cx:=X.wish λ_ _=>False
theorem Cx.Ok.wish {X:Cx} (ok:X.Ok) (E:Value->Shared->Prop):(X.wish E).Ok :=
 ⟨ok.mod,ok.kind,ok.glob,ok.blt,ok.above,ok.inj,ok.has,ok.cab,ok.hd,ok.frames,ok.stk,ok.exf,ok.bs,ok.bsz,ok.noex,ok.exfs,ok.funs,ok.frf⟩
theorem Cx.Ok.unwish {X:Cx} {E:Value->Shared->Prop} (ok:(X.wish E).Ok):X.Ok :=
 ⟨ok.mod,ok.kind,ok.glob,ok.blt,ok.above,ok.inj,ok.has,ok.cab,ok.hd,ok.frames,ok.stk,ok.exf,ok.bs,ok.bsz,ok.noex,ok.exfs,ok.funs,ok.frf⟩
section
variable {X : Cx} {pins : List (Addr × Obj)} {σ : St} {H : Hp} {s : Shared} {E : Value -> Shared -> Prop}
theorem Inv.wish (I:Inv X pins σ H s) (E:Value->Shared->Prop):Inv (X.wish E) pins σ H s:=⟨I.ok.wish E,I.os,I.bare,I.base,I.loc,I.cell,I.free,I.freeC,I.pin,I.hok,I.len⟩
theorem Inv.unwish (I:Inv (X.wish E) pins σ H s):Inv X pins σ H s:=⟨I.ok.unwish,I.os,I.bare,I.base,I.loc,I.cell,I.free,I.freeC,I.pin,I.hok,I.len⟩
theorem SP.unwish {D:Ends} {f:Flow} {s':Shared} (h:SP (X.wish E) pins D f s'):SP X pins D f s':=by
 cases f with
 | next=>obtain⟨σ',H',I,q⟩:=h;exact⟨σ',H',I.unwish,q⟩
 | brk=>obtain⟨σ',H',I,q⟩:=h;exact⟨σ',H',I.unwish,q⟩
 | cont=>obtain⟨σ',H',I,q⟩:=h;exact⟨σ',H',I.unwish,q⟩
 | ret u=>obtain⟨v,σ',H',I,r,q⟩:=h;exact⟨v,σ',H',I.unwish,r,q⟩
theorem PE.nox {e:Expr} {t:TE} (h:PE X.nox e t):PE X e t:=λpins s σ H Q I hw =>
 BK (h pins s σ H Q (I.wish _) hw) (λ_ _ ⟨v,H',I',r,q⟩=>⟨v,H',I'.unwish,r,q⟩) λ_ _ z=>False.elim z
theorem PT.nox {e:Expr} {t:TT} (h:PT X.nox e t):PT X e t:=λpins s σ H Q I hw =>
 BK (h pins s σ H Q (I.wish _) hw) (λ_ _ ⟨H',I',q⟩=>⟨H',I'.unwish,q⟩) λ_ _ z=>False.elim z
theorem PSs.nox {st:List Stmt} {t:TS} (h:PSs X.nox st t):PSs X st t:=λpins s σ H D I hw =>
 BK (h pins s σ H D (I.wish _) hw) (λ_ _ q=>q.unwish) λ_ _ z=>False.elim z
end
section
variable {X : Cx} {st : Stmt} {rest : List Stmt} {t u : TS} {e : Expr} {te : TE} {pos : Pos}
def tNext:TS:=λD σ H=>D.nx σ H
def Kx (t u:TS):TS:=λD σ H=>t {D with nx:=u D} σ H
theorem rb:PSs X [] tNext:=λ_ _ σ H _ I h=>DV ⟨σ,H,I,h⟩
theorem n9 (h1:PS X st t) (h2:PSs X rest u):PSs X (st::rest) (Kx t u):=by
 intro pins s σ H D I h
 refine wpAny_execs_cons (thn (h1 pins s σ H {D with nx:=u D} I h) λf s1 q=>?_)
 cases f with
 | next =>
  obtain⟨σ',H',I',q⟩:=q
  exact h2 pins s1 σ' H' D I' q
 | ret v=>exact q
 | brk=>exact q
 | cont=>exact q
theorem Inv.quiet {pins:List (Addr×Obj)} {σ:St} {H:Hp} {s:Shared} (I:Inv X pins σ H s):interactive X.env=false:=by simp[interactive,I.ok.kind]
def Hg (te:TE):TS:=λD σ H=>te σ H λ_ H1=>D.nx σ H1
theorem Ay (he:PE X e te) (hs:swapsWith e none pos.line X.env=pure false:=by rfl):PS X (.Expr e pos) (Hg te):=by
 intro pins s σ H D I h
 exact wpAny_Expr_any (thn (he pins s σ H _ I h) λv s1 ⟨x,H1,I1,r1,q1⟩=>⟨σ,H1,I1,q1⟩) I.quiet hs
def Ky (te:TE):TS:=λD σ H=>te σ H D.rt
theorem yt (he:PE X e te):PS X (.Return (some e) pos) (Ky te):=by
 intro pins s σ H D I h
 exact wpAny_Return_some (thn (he pins s σ H _ I h) λv s1 ⟨x,H1,I1,r1,q1⟩=>⟨x,σ,H1,I1,r1,q1⟩)
def Kz (c:TT) (t u:TS):TS:=λD σ H=>c σ H λb H1=>if b=true then t D σ H1 else u D σ H1
theorem Dc {c:Expr} {a b:List Stmt} {tc:TT} (hc:PT X c tc) (ha:PSs X a t) (hb:PSs X b u):PS X (.If c a b pos) (Kz tc t u):=by
 intro pins s σ H D I h
 refine wpAny_If (thn (hc pins s σ H _ I h) λd s1 ⟨H1,I1,q1⟩=>?_)
 cases d with
 | true=>exact ha pins s1 σ H1 D I1 q1
 | false=>exact hb pins s1 σ H1 D I1 q1
end
abbrev TG:=V->St->Hp->(St->Hp->Prop)->Prop
abbrev TGs:=List V->St->Hp->(St->Hp->Prop)->Prop
def PG (X:Cx) (target:Expr) (t:TG):Prop :=
 ∀(pins:List (Addr×Obj)) (s:Shared) (σ:St) (H:Hp) (v:V) (u:Value) (Q:St->Hp->Prop),Inv X pins σ H s->RelV v u->t v σ H Q ->
  wpAny (model X.prog X.w) X.A (assign target X.env u) (λ_ s'=>∃σ' H',Inv X pins σ' H' s'/\Q σ' H') X.xe s
def PGs (X:Cx) (ts:List Expr) (t:TGs):Prop :=
 ∀(pins:List (Addr×Obj)) (s:Shared) (σ:St) (H:Hp) (vs:List V) (us:List Value) (Q:St->Hp->Prop),Inv X pins σ H s->ay vs us->t vs σ H Q ->
  wpAny (model X.prog X.w) X.A (assignInOrder ((assignEach ts X.env).map (·.2)) us) (λ_ s'=>∃σ' H',Inv X pins σ' H' s'/\Q σ' H') X.xe s
abbrev TSet:=V->V->V->Hp->(Hp->Prop)->Prop
def G0 (X:Cx) (t:TSet):Prop :=
 ∀(pins:List (Addr×Obj)) (s:Shared) (σ:St) (H:Hp) (o i v:V) (ov iv u:Value) (Q:Hp->Prop),Inv X pins σ H s->RelV o ov->RelV i iv->RelV v u->t o i v H Q ->
  wpAny (model X.prog X.w) X.A (setItem ov iv u) (λ_ s'=>∃H',Inv X pins σ H' s'/\Q H') X.xe s
section
variable {X : Cx} {pos : Pos}
def Az (i:Nat):TG:=λv σ H Q=>Q (σ.set i (some v)) H
theorem rd {i:Nat} {x:Str} (hN:X.N.Nodup) (hi:X.N[i]? = some x) (hx:Loc X.env.scope x) (hf:X.fn x=true\/X.env.scope.names.lookup x=some .local:=by first | exact .inl rfl | exact .inr rfl | assumption):PG X (.Name x pos) (Az i):=by
 intro pins s σ H v u Q I r h
 exact wpAny_assign_Name (jx I hN hi hx r (λs' I'=>⟨_,H,I',h⟩) hf)
def gNil:TGs:=λvs σ H Q=>vs=[]/\Q σ H
def Hh (t:TG) (u:TGs):TGs:=λvs σ H Q=>∃v r,vs=v::r/\t v σ H λσ' H'=>u r σ' H' Q
theorem A0:PGs X [] gNil:=by
 intro pins s σ H vs us Q I r h
 obtain⟨e,h⟩:=h
 subst e
 cases r
 exact assignInOrder_nil ⟨σ,H,I,h⟩
theorem vx {e:Expr} {es:List Expr} {t:TG} {u:TGs} (h1:PG X e t) (h2:PGs X es u)
  (hs:(assignEach (e::es) X.env).map (·.2)=assign e X.env::(assignEach es X.env).map (·.2):=by rfl):PGs X (e::es) (Hh t u):=by
 intro pins s σ H vs us Q I r h
 obtain⟨v,vr,e1,h⟩:=h
 subst e1
 cases r with
 | cons r rr =>
  rw[hs]
  refine assignInOrder_cons (thn (h1 pins s σ H _ _ _ I r h) λ_ s1 ⟨σ1,H1,I1,q1⟩=>?_)
  exact h2 pins s1 σ1 H1 _ _ Q I1 rr q1
def K0 (K:PySem.W.Frag) (n:Nat) (t:TGs):TG:=λv σ H Q=>∃a xs,v=.ref a/\SqT K H a xs/\xs.length=n/\t xs σ H Q
theorem Dd {es:List Expr} {k:Nat} {t:TGs} {n:Nat} (hc:X.calm=true) (h:PGs X es t)
  (hn:(assignEach es X.env).length=n:=by rfl) (hst:(assignEach es X.env).findIdx? (·.1)=none:=by rfl):PG X (.Tuple es k pos) (K0 X.K n t):=by
 intro pins s σ H v u Q I r hw
 obtain⟨a,xs,e1,hq,hl,hw⟩:=hw
 subst e1
 cases r
 obtain⟨its,rv,ht,hz⟩:=I.tuple hq
 refine assign_Tuple_tuple (I.ok.hd hc) ht (by simp[hn,<-hl,rv.length]) hst λh' hx=>?_
 have I1:Inv X pins σ H {s with heap:=h'}:=I.kept (t':=s.toks) λb o e=>hx b o (AN (AG e)) e
 exact h pins _ σ H xs _ Q I1 (by simpa using rv) hw
def K1 (to ti:TE) (t:TSet):TG:=λv σ H Q=>to σ H λo H1=>ti σ H1 λi H2=>t o i v H2 λH3=>Q σ H3
theorem De {o i:Expr} {to ti:TE} {t:TSet} (ho:PE X o to) (hi:PE X i ti) (hs:G0 X t)
  (ha:∀v,assign (.Subscript o i pos) X.env v=(do
   let ov <-holding [v] (eval o X.env)
   let iv <-holding [v,ov] (eval i X.env)
   standAt pos
   holding [v,ov,iv] (setItem ov iv v)
   release [v,ov,iv] []):=by intro _;rfl):PG X (.Subscript o i pos) (K1 to ti t):=by
 intro pins s σ H v u Q I r h
 rw[ha]
 refine AB (DD (thn (ho pins s σ H _ I h) λov s1 ⟨x,H1,I1,r1,q1⟩=>?_))
 refine AB (DD (thn (hi pins s1 σ H1 _ I1 q1) λiv s2 ⟨y,H2,I2,r2,q2⟩=>?_))
 refine AB (wpAny_standAt (AB (DD (thn (hs pins s2 σ H2 x y v ov iv u _ I2 r1 r2 r q2) λ_ s3 ⟨H3,I3,q3⟩=>?_))))
 exact wpAny_release ⟨σ,H3,I3,q3⟩
def Jx (te:TE) (g:TG):TS:=λD σ H=>te σ H λx H1=>g x σ H1 D.nx
theorem Dg {tg e:Expr} {te:TE} {g:TG} (he:PE X e te) (hg:PG X tg g) (hs:swapsWithSole [tg] e pos.line X.env=pure false:=by rfl) (hw:swappedStores [tg] e X.env=pure none:=by rfl)
  (h1:(assignEach [tg] X.env).map (·.2)=[assign tg X.env]:=by rfl):PS X (.Assign [tg] e pos) (Jx te g):=by
 intro pins s σ H D I h
 refine wpAny_Assign_stores (thn (he pins s σ H _ I h) λv s1 ⟨x,H1,I1,r1,q1⟩=>?_) hs hw
 rw[h1]
 exact thn (hg pins s1 σ H1 x v _ I1 r1 q1) λ_ s2 q=>q
theorem Dh {i:Nat} {x:Str} {e:Expr} {te:TE} {pos':Pos} (hN:X.N.Nodup) (hi:X.N[i]? = some x) (hx:Loc X.env.scope x) (he:PE X e te) (hs:swapsWith e (some (.Name x pos')) pos.line X.env=pure false:=by rfl) (hf:X.fn x=true\/X.env.scope.names.lookup x=some .local:=by first | exact .inl rfl | exact .inr rfl | assumption) :
  PS X (.Assign [.Name x pos'] e pos) (Jx te (Az i)):=by
 intro pins s σ H D I h
 refine wpAny_Assign_Name (thn (he pins s σ H _ I h) λv s1 ⟨y,H1,I1,r1,q1⟩=>?_) hs
 exact jx I1 hN hi hx r1 (λs2 I2=>⟨_,H1,I2,q1⟩) hf
end
structure It where
 go:Nat->Hp->Prop
 yld:Nat->Hp->V->Hp->Prop
 stop:Nat->Hp->Prop
def qp (X:Cx) (pins:List (Addr×Obj)) (H:Hp) (b:Addr):Prop :=
 H b=none/\b≠X.env.locals/\b∉X.fs/\(b∈X.ex\/X.s₀.heap.objs.size<=b)/\(∀x c,X.env.cells.lookup x=some c->c≠b)/\∀p∈X.pn++pins,p.1≠b
theorem Inv.fpOk {X:Cx} {pins:List (Addr×Obj)} {σ:St} {H H':Hp} {s:Shared} {b:Addr} (I:Inv X pins σ H s) (hb:s.heap.objs.size<=b) (hn:H' b=none):qp X pins H' b:=by
 refine⟨hn,FE (AK I.lt hb),I.nofs hb,.inr (CC I.sz hb),λx c e z=>?_,λp hp z=>?_⟩
 ·obtain⟨v,q⟩:=I.cell x c e
  exact absurd (AK q.lt (by rw[z];exact hb)) (BU _)
 ·exact absurd (AK (AG (I.pin p hp).1) (by rw[z];exact hb)) (BU _)
structure Turn (P:Program) (w:World) (K:PySem.W.Frag) (tg:Expr) (J:It) (fp:List Addr) (it:Addr) (tn:Nat->Heap->Prop):Prop where
 mem:it∈fp
 obj:∀i h,tn i h->∀b∈fp,∃o,h.get? b=some o/\∀v,o.data≠.cell v
 keep:∀i h h',tn i h->(∀b∈fp,∀o,h.get? b=some o->h'.get? b=some o)->tn i h'
 item:∀(X:Cx),X.prog=P->X.w=w->X.K=K->X.calm=true->∀(i:Nat) (pins:List (Addr×Obj)) (s:Shared) (σ:St) (H:Hp) (E:Value->Shared->Prop),Inv X pins σ H s->(∀b∈fp,qp X pins H b)->tn i s.heap->J.go i H ->
  wpAny (model P w) X.A (pyNext (.ref it)) (λr s1=>∃u,r=some u /\
   wpAny (model P w) X.A (letOwnedTupleGo tg (.ref it) u) (λ_ s2=>∃x H',Inv X pins σ H' s2/\RelV x u/\J.yld i H x H'/\tn (i+1) s2.heap/\∀b∈fp,H' b=none) E s1) E s
 done:∀(X:Cx),X.prog=P->X.w=w->X.K=K->X.calm=true->∀(i:Nat) (pins:List (Addr×Obj)) (s:Shared) (σ:St) (H:Hp) (E:Value->Shared->Prop),Inv X pins σ H s->(∀b∈fp,qp X pins H b)->tn i s.heap->J.stop i H ->
  wpAny (model P w) X.A (pyNext (.ref it)) (λr s1=>r=none/\Inv X pins σ H s1) E s
 self:∀(A:Around) (i:Nat) (s:Shared) (Q:Value->Shared->Prop) (E:Value->Shared->Prop),tn i s.heap->Q (.ref it) s->wpAny (model P w) A (pyIter (.ref it)) Q E s
abbrev TI:=St->Hp->(It->Hp->Prop)->Prop
def PIE (X:Cx) (pins:List (Addr×Obj)) (σ:St) (tg:Expr) (R:It->Hp->Prop) (itv:Value) (s2:Shared):Prop :=
 ∃(it:Addr) (fp:List Addr) (tn:Nat->Heap->Prop) (J:It) (H':Hp),itv=.ref it/\Inv X pins σ H' s2/\Turn X.prog X.w X.K tg J fp it tn/\tn 0 s2.heap/\(∀b∈fp,qp X pins H' b)/\R J H'
def PI (X:Cx) (tg iter:Expr) (wi:TI):Prop :=
 ∀(pins:List (Addr×Obj)) (s:Shared) (σ:St) (H:Hp) (R:It->Hp->Prop),Inv X pins σ H s->wi σ H R ->
  wpAny (model X.prog X.w) X.A (eval iter X.env) (λv s1=>wpAny (model X.prog X.w) X.A (pyIter v) (PIE X pins σ tg R) X.xe s1) X.xe s
theorem A1 {M:Model} {A:Around} {E:Value->Shared->Prop} {s:Shared} {tg:Expr} {it:Addr} {u:Value} {o:Obj} {n:String} {vs:Array Value} {Q:Unit->Shared->Prop} (ho:s.heap.get? it=some o) (hc:o.cls=.type n) (hd:o.data=.fields vs)
  (hn:["enumerate","zip","dict_itemiterator","dict_reverseitemiterator","odict_iterator","itertools.zip_longest","itertools.pairwise"].contains n=false) (hQ:Q () s):wpAny M A (letOwnedTupleGo tg (.ref it) u) Q E s:=by
 unfold letOwnedTupleGo
 cases tg<;>first
  | exact AJ hQ
  | (cases u<;>first
    | exact AJ hQ
    | (
     refine AB (wpAny_load ho ?_)
     rw[hc,hd]
     show wpAny M A (if(["enumerate","zip","dict_itemiterator","dict_reverseitemiterator","odict_iterator","itertools.zip_longest","itertools.pairwise"].contains n&&vs[0]?==some (rawInt _))=true then _ else _) Q E s
     rw[if_neg (by intro h;rw[hn,Bool.false_and]at h;cases h)]
     exact AJ hQ))
def Itl (K:PySem.W.Frag) (a:Addr):It :=
 ⟨λi H=>∃xs x,SqL K H a xs/\xs[i]? = some x,λi H x H'=>H'=H/\∀xs,SqL K H a xs->xs[i]? = some x,λi H=>∃xs,SqL K H a xs/\xs.length<=i⟩
def Itt (K:PySem.W.Frag) (a:Addr):It :=
 ⟨λi H=>∃xs x,SqT K H a xs/\xs[i]? = some x,λi H x H'=>H'=H/\∀xs,SqT K H a xs->xs[i]? = some x,λi H=>∃xs,SqT K H a xs/\xs.length<=i⟩
def Itr (lo:Int) (n:Nat):It:=⟨λi _=>i<n,λi H x H'=>H'=H/\x=.int (lo+i),λi _=>n<=i⟩
theorem rf {P:Program} {w:World} {K:PySem.W.Frag} {tg:Expr} (a it:Addr):Turn P w K tg (Itl K a) [it] it (λi h=>h.IsListIter it a i) where
 mem:=by simp
 obj:=λi h st b hb=>by
  have e:b=it:=by simpa using hb
  subst e
  obtain⟨o,e,c,d⟩:=st
  exact⟨o,e,λv z=>by rw[d]at z;cases z⟩
 keep:=λi h h' st k=>st.at λo e=>k it (by simp) o e
 item:=by
  intro X hP hw hK hc i pins s σ H E I hf st hg
  subst hP hw hK
  obtain⟨xs,x,hq,hx⟩:=hg
  obtain⟨its,rv,p,hz⟩:=I.list hq
  obtain⟨u,hu,ru⟩:=rv.get hx
  obtain⟨f0,f1,f2,f3,f4,f5⟩:=hf it (by simp)
  refine wpAny_pyNext_list_item st p.isList (x:=u) (by simpa using hu) λh' st' sb=>?_
  have I1:Inv X pins σ H {s with heap:=h'}:=I.turned (t':=s.toks) (λb o hb e=>(sb.2 b hb).trans e) f0 f1 f3 f4 f5
  obtain⟨o,e,c,d⟩:=id st'
  exact⟨u,rfl,A1 (s:={s with heap:=h'}) e c d (by decide) ⟨x,H,I1,ru,⟨rfl,λys hy=>by rw[I.list_inj hy hq];exact hx⟩,st',λb hb=>(hf b hb).1⟩⟩
 done:=by
  intro X hP hw hK hc i pins s σ H E I hf st hg
  subst hP hw hK
  obtain⟨xs,hq,hx⟩:=hg
  obtain⟨its,rv,p,hz⟩:=I.list hq
  obtain⟨f0,f1,f2,f3,f4,f5⟩:=hf it (by simp)
  have hl:=rv.length
  exact wpAny_pyNext_list_end (I.ok.hd hc) st p.isList (by simp;lia) λh' eb=>⟨rfl,I.turned (t':=s.toks) (λb o hb e=>eb b o hb e) f0 f1 f3 f4 f5⟩
 self:=λ_ _ _ _ _ st h=>wpAny_pyIter_listiter st h
theorem pg {P:Program} {w:World} {K:PySem.W.Frag} {tg:Expr} (a it:Addr):Turn P w K tg (Itt K a) [it] it (λi h=>h.IsTupleIter it a i) where
 mem:=by simp
 obj:=λi h st b hb=>by
  have e:b=it:=by simpa using hb
  subst e
  obtain⟨o,e,c,d⟩:=st
  exact⟨o,e,λv z=>by rw[d]at z;cases z⟩
 keep:=λi h h' st k=>st.at λo e=>k it (by simp) o e
 item:=by
  intro X hP hw hK hc i pins s σ H E I hf st hg
  subst hP hw hK
  obtain⟨xs,x,hq,hx⟩:=hg
  obtain⟨its,rv,p,hz⟩:=I.tuple hq
  obtain⟨u,hu,ru⟩:=rv.get hx
  obtain⟨f0,f1,f2,f3,f4,f5⟩:=hf it (by simp)
  refine wpAny_pyNext_tuple_item st (show s.heap.IsTuple a its.toArray from p) (x:=u) (by simpa using hu) λh' st' sb=>?_
  have I1:Inv X pins σ H {s with heap:=h'}:=I.turned (t':=s.toks) (λb o hb e=>(sb.2 b hb).trans e) f0 f1 f3 f4 f5
  obtain⟨o,e,c,d⟩:=id st'
  exact⟨u,rfl,A1 (s:={s with heap:=h'}) e c d (by decide) ⟨x,H,I1,ru,⟨rfl,λys hy=>by rw[I.tuple_inj hy hq];exact hx⟩,st',λb hb=>(hf b hb).1⟩⟩
 done:=by
  intro X hP hw hK hc i pins s σ H E I hf st hg
  subst hP hw hK
  obtain⟨xs,hq,hx⟩:=hg
  obtain⟨its,rv,p,hz⟩:=I.tuple hq
  obtain⟨f0,f1,f2,f3,f4,f5⟩:=hf it (by simp)
  have hl:=rv.length
  exact wpAny_pyNext_tuple_end (I.ok.hd hc) st (show s.heap.IsTuple a its.toArray from p) (by simp;lia) λh' eb=>⟨rfl,I.turned (t':=s.toks) (λb o hb e=>eb b o hb e) f0 f1 f3 f4 f5⟩
 self:=λ_ _ _ _ _ st h=>wpAny_pyIter_tupleiter st h
theorem ph {P:Program} {w:World} {K:PySem.W.Frag} {tg:Expr} (it:Addr) (lo:Int) (n:Nat):Turn P w K tg (Itr lo n) [it] it (λi h=>IsRangeIter h it (lo+(i:Nat)*1) ((n:Int)-(i:Nat)) 1) where
 mem:=by simp
 obj:=λi h st b hb=>by
  have e:b=it:=by simpa using hb
  subst e
  exact⟨_,st,λv z=>by
   have z':Data.fields _=Data.cell v:=z
   cases z'⟩
 keep:=λi h h' st k=>k it (by simp) _ st
 item:=by
  intro X hP hw hK hc i pins s σ H E I hf st hg
  subst hP hw hK
  obtain⟨f0,f1,f2,f3,f4,f5⟩:=hf it (by simp)
  have W:=Walks.range (prog:=X.prog) (w:=X.w) (I.ok.hd hc) it lo 1 n
  refine W.item i s _ _ hg st λv h' tk hv st' kk=>?_
  obtain⟨t,rfl⟩:=hv
  have I1:Inv X pins σ H {s with heap:=h',toks:=tk}:=I.turned (λb o hb e=>kk b o (by simpa using hb) e) f0 f1 f3 f4 f5
  refine⟨_,rfl,A1 (s:={s with heap:=h',toks:=tk}) (n:="range_iterator") st' rfl rfl (by decide) ⟨.int (lo+i),H,I1,⟨t,?_⟩,⟨rfl,rfl⟩,st',λb hb=>(hf b hb).1⟩⟩
  rw[Int.mul_one]
 done:=by
  intro X hP hw hK hc i pins s σ H E I hf st hg
  subst hP hw hK
  obtain⟨f0,f1,f2,f3,f4,f5⟩:=hf it (by simp)
  exact wpAny_pyNext_range_end (I.ok.hd hc) st (by have:n<=i:=hg;lia) λh' eb=>⟨rfl,I.turned (t':=s.toks) (λb o hb e=>eb b o hb e) f0 f1 f3 f4 f5⟩
 self:=λ_ _ _ _ _ st h=>wpAny_pyIter_rangeiter st h
section
variable {X : Cx} {tg : Expr}
theorem vy {pins:List (Addr×Obj)} {σ:St} {H:Hp} {s:Shared} {R:It->Hp->Prop} {E:Value->Shared->Prop} {lo hi:Int} {t u v:Tok} {tk:Nat} (I:Inv X pins σ H s) (h1:-(2 ^ 62)<=lo) (h2:lo<2 ^ 62) (h3:-(2 ^ 62)<=hi) (h4:hi<2 ^ 62)
  (q:R (Itr lo (hi-lo).toNat) H):wpAny (model X.prog X.w) X.A (pyIter (.ref s.heap.objs.size)) (PIE X pins σ tg R) E {s with heap:=s.heap.push {cls:=.type "range",data:=.fields #[.int lo t,.int hi u,.int 1 v]},toks:=tk}:=by
 refine wpAny_pyIter_range (IsRange.new ..) (small_one h1 h2 h3 h4) ?_
 have I1:Inv X pins σ H {s with heap:=s.heap.push {cls:=.type "range",data:=.fields #[.int lo t,.int hi u,.int 1 v]},toks:=tk}:=I.kept λb o e=>AE _ e
 refine⟨(s.heap.push {cls:=.type "range",data:=.fields #[.int lo t,.int hi u,.int 1 v]}).objs.size,[(s.heap.push {cls:=.type "range",data:=.fields #[.int lo t,.int hi u,.int 1 v]}).objs.size],_,_,H,rfl,
  I1.kept (t':=tk) λb o e=>AE _ e,ph _ lo (hi-lo).toNat,?_,λb hb=>?_,q⟩
 ·have e1:lo+((0:Nat):Int)*1=lo:=by simp
  have e2:(((hi-lo).toNat:Nat):Int)-((0:Nat):Int)=Builtin.Range.rangeSize lo hi 1:=by rw[rangeSize_one];split<;>lia
  show IsRangeIter _ _ (lo+((0:Nat):Int)*1) ((((hi-lo).toNat:Nat):Int)-((0:Nat):Int)) 1
  rw[e1,e2]
  exact AM _ rfl
 ·have e:b=(s.heap.push {cls:=.type "range",data:=.fields #[.int lo t,.int hi u,.int 1 v]}).objs.size:=by simpa using hb
  subst e
  exact I1.fpOk (AH _) (I1.hok.fresh (AH _))
def Hi (ta:TA):TI:=λσ H R=>ta σ H λvs H1=>∃j:Int,vs=[.int j] /\ -(2 ^ 62)<=j/\j<2 ^ 62/\R (Itr 0 j.toNat) H1
theorem rg {a:Expr} {ta:TA} {p pos:Pos} (hg:Gl X "range") (hm:X.mg "range"=none) (ha:PA X [a] ta) (hs:starEach [a] X.env=[(false,eval a X.env)]:=by rfl):PI X tg (.Call (.Name "range" p) [a] [] pos) (Hi ta):=by
 intro pins s σ H R I h
 refine Call_ (ko I hg hm boot_range (DA (thn (ha pos pins s σ H _ I h) λus s1 ⟨vs,H1,I1,r1,q1⟩=>?_) hs rfl))
 obtain⟨j,e,q1,q2,q⟩:=q1
 subst e
 cases r1 with
 | cons r rr =>
  cases rr
  obtain⟨t,rfl⟩:=r
  exact call_range_1 (vy I1 (by lia) (by lia) q1 q2 (by simpa using q))
def K2 (wi:TI) (g:TG) (tb:TS):TS:=λD σ H=>wi σ H λJ H1=>∃W:Nat->Nat->St->Hp->Prop,(∃m,W 0 m σ H1)/\∀i m σ H,W i m σ H ->
 (J.stop i H/\D.nx σ H)\/(J.go i H/\∃N:St->Hp->Prop,(∀σ' H',N σ' H'->∃m',m'<m/\W (i+1) m' σ' H')/\∀x H',J.yld i H x H'->g x σ H' λσ2 H2=>tb {D with nx:=N,ct:=N,bk:=D.nx} σ2 H2)
def kq (fp:List Addr) (h:Heap):List (Addr×Obj):=fp.filterMap λb=>(h.get? b).map λo=>(b,o)
theorem fb {fp:List Addr} {h:Heap} {b:Addr} {o:Obj} (hb:b∈fp) (e:h.get? b=some o):(b,o)∈kq fp h:=List.mem_filterMap.mpr ⟨b,hb,by rw[e];rfl⟩
theorem rh {fp:List Addr} {h:Heap} {p:Addr×Obj} (hp:p∈kq fp h):p.1∈fp/\h.get? p.1=some p.2:=by
 obtain⟨b,hb,e⟩:=List.mem_filterMap.mp hp
 cases q:h.get? b with
 | none=>rw[q]at e;cases e
 | some o =>
  rw[q]at e
  have e':(b,o)=p:=AX e
  subst e'
  exact⟨hb,q⟩
theorem Inv.pinned {pins:List (Addr×Obj)} {σ:St} {H:Hp} {s:Shared} {fp:List Addr} (I:Inv X pins σ H s) (hf:∀b∈fp,qp X pins H b) (ho:∀b∈fp,∃o,s.heap.get? b=some o/\∀v,o.data≠.cell v):Inv X (pins++kq fp s.heap) σ H s :=
 I.pins_of λp hp=>(CY.mp hp).elim (λz=>I.pin p (AU _ z)) λz=>by
  obtain⟨hb,e⟩:=rh z
  obtain⟨f0,f1,f2,_⟩:=hf p.1 hb
  obtain⟨o,e',d⟩:=ho p.1 hb
  rw[e]at e';cases e'
  exact⟨e,f0,f1,f2,d⟩
theorem Inv.unpinned {pins pl:List (Addr×Obj)} {σ:St} {H:Hp} {s:Shared} (I:Inv X (pins++pl) σ H s):Inv X pins σ H s:=I.pins_of λp hp=>I.pin p (AU _ (List.mem_append_left _ hp))
theorem Di {iter:Expr} {body:List Stmt} {wi:TI} {g:TG} {tb:TS} {pos:Pos} (hp:PassesOwn (model X.prog X.w) X.A X.env X.xe) (hc:X.calm=true) (hi:PI X tg iter wi) (hg:PG X tg g) (hb:PSs X body tb)
  (hs:∀x,foldedSetIterable iter X.env x=pure x:=by intro _;rfl):PS X (.For tg iter body [] pos) (K2 wi g tb):=by
 intro pins s σ H D I h
 refine wpAny_For (thn (hi pins s σ H _ I h) λv s1 h1=>thn h1 λitv s2 h2=>?_) hs
 obtain⟨it,fp,tn,J,H2,e,I2,T,st2,f2,W,⟨m0,w0⟩,turn⟩:=h2
 subst e
 -- what stays true of the iterator's objects through the loop
 have stat:∀{H':Hp},(∀b∈fp,H' b=none)->∀b∈fp,qp X pins H' b:=λhn b hb=>⟨hn b hb,(f2 b hb).2⟩
 refine codeAny_forLoop_any (λn s'=>∃i σ' H',Inv X pins σ' H' s'/\tn i s'.heap/\(∀b∈fp,H' b=none)/\W i n σ' H') ?_ m0 ⟨0,σ,H2,I2,st2,λb hb=>(f2 b hb).1,w0⟩
 rintro n s3 ⟨i,σ3,H3,I3,st3,fr3,w3⟩
 rcases turn i n σ3 H3 w3 with⟨stop,qn⟩ | ⟨go,N,hN,step⟩
 ·refine DG hp (thn (T.done X rfl rfl rfl hc i pins s3 σ3 H3 X.xe I3 (stat fr3) st3 stop) λr s4 ⟨hr,I4⟩=>?_)
  subst hr
  exact DV ⟨σ3,H3,I4,qn⟩
 ·refine DG hp (thn (T.item X rfl rfl rfl hc i pins s3 σ3 H3 X.xe I3 (stat fr3) st3 go) λr s4 ⟨u,hr,h4⟩=>?_)
  subst hr
  refine DG hp (thn h4 λ_ s5 ⟨x,H5,I5,r5,y5,st5,fr5⟩=>?_)
  have I5':=I5.pinned (stat fr5) (T.obj _ _ st5)
  refine DG hp (thn (hg _ s5 σ3 H5 x u _ I5' r5 (step x H5 y5)) λ_ s6 ⟨σ6,H6,I6,q6⟩=>?_)
  refine DG hp (thn (hb _ s6 σ6 H6 _ I6 q6) λf s7 q7=>?_)
  have again:∀{σ7:St} {H7:Hp},Inv X (pins++kq fp s5.heap) σ7 H7 s7->N σ7 H7->∃m,m<n/\∃i σ' H',Inv X pins σ' H' s7/\tn i s7.heap/\(∀b∈fp,H' b=none)/\W i m σ' H':=λ{σ7 H7} I7 n7=>by
   obtain⟨m',hm,w7⟩:=hN σ7 H7 n7
   refine⟨m',hm,i+1,σ7,H7,I7.unpinned,T.keep _ _ _ st5 λb hb o e=>(I7.pin (b,o) (AU _ (AU _ (fb hb e)))).1,λb hb=>?_,w7⟩
   obtain⟨o,e,d⟩:=T.obj _ _ st5 b hb
   exact(I7.pin (b,o) (AU _ (AU _ (fb hb e)))).2.1
  cases f with
  | next=>obtain⟨σ7,H7,I7,n7⟩:=q7;exact again I7 n7
  | cont=>obtain⟨σ7,H7,I7,n7⟩:=q7;exact again I7 n7
  | brk=>obtain⟨σ7,H7,I7,q7⟩:=q7;exact⟨σ7,H7,I7.unpinned,q7⟩
  | ret v=>obtain⟨x7,σ7,H7,I7,r7,q7⟩:=q7;exact⟨x7,σ7,H7,I7.unpinned,r7,q7⟩
end
abbrev R2:=V->V->Hp->VK->Prop
def OpR (X:Cx) (f:Value->Value->Sem Value) (r:R2):Prop :=
 ∀(pins:List (Addr×Obj)) (s:Shared) (σ:St) (H:Hp) (x y:V) (v u:Value) (Q:VK),Inv X pins σ H s->RelV x v->RelV y u->r x y H Q ->
  wpAny (model X.prog X.w) X.A (f v u) (EP X pins σ Q) X.xe s
def UnR (X:Cx) (f:Value->Sem Value) (r:V->Hp->VK->Prop):Prop :=
 ∀(pins:List (Addr×Obj)) (s:Shared) (σ:St) (H:Hp) (x:V) (v:Value) (Q:VK),Inv X pins σ H s->RelV x v->r x H Q ->
  wpAny (model X.prog X.w) X.A (f v) (EP X pins σ Q) X.xe s
def bx (X:Cx) (f:Value) (r:List V->Hp->VK->Prop):Prop :=
 ∀(pins:List (Addr×Obj)) (s:Shared) (σ:St) (H:Hp) (xs:List V) (us:List Value) (Q:VK),Inv X pins σ H s->ay xs us->r xs H Q ->
  wpAny (model X.prog X.w) X.A (call f us) (EP X pins σ Q) X.xe s
def K3 (X:Cx) (r:V->Hp->(Bool->Hp->Prop)->Prop):Prop :=
 ∀(pins:List (Addr×Obj)) (s:Shared) (σ:St) (H:Hp) (x:V) (v:Value) (Q:Bool->Hp->Prop),Inv X pins σ H s->RelV x v->r x H Q ->
  wpAny (model X.prog X.w) X.A (truthy v) (TP X pins σ Q) X.xe s
def tOp (r:R2) (ta tb:TE):TE:=λσ H Q=>ta σ H λx H1=>tb σ H1 λy H2=>r x y H2 Q
def tUn (r:V->Hp->VK->Prop) (ta:TE):TE:=λσ H Q=>ta σ H λx H1=>r x H1 Q
def rI (C:Int->Int->Prop) (g:Int->Int->V):R2:=λx y H Q=>∃i j,x=.int i/\y=.int j/\C i j/\Q (g i j) H
def rI0 (g:Int->Int->V):R2:=λx y H Q=>∃i j,x=.int i/\y=.int j/\Q (g i j) H
def rU (g:Int->V):V->Hp->VK->Prop:=λx H Q=>∃i,x=.int i/\Q (g i) H
section
variable {X : Cx} {a b c : Expr} {ta tb tc : TE} {pos : Pos}
theorem Jy (ha:PE X a ta) (hb:PE X b tb) {pins:List (Addr×Obj)} {s:Shared} {σ:St} {H:Hp} {R:V->V->Hp->Prop} (I:Inv X pins σ H s)
  (h:ta σ H λx H1=>tb σ H1 λy H2=>R x y H2) {Q:Value->Shared->Prop} {f:Value->Value->Sem Value}
  (hf:∀v u s2 x y H2,Inv X pins σ H2 s2->RelV x v->RelV y u->R x y H2->wpAny (model X.prog X.w) X.A (f v u) Q X.xe s2) :
  wpAny (model X.prog X.w) X.A (eval a X.env) (λv s₁=>wpAny (model X.prog X.w) X.A (eval b X.env) (λu s₂=>wpAny (model X.prog X.w) X.A (f v u) Q X.xe s₂) X.xe s₁) X.xe s:=by
 refine thn (ha pins s σ H _ I h) λv s1 ⟨x,H1,I1,r1,q1⟩=>?_
 refine thn (hb pins s1 σ H1 _ I1 q1) λu s2 ⟨y,H2,I2,r2,q2⟩=>?_
 exact hf v u s2 x y H2 I2 r1 r2 q2
theorem Hj {op:Operator} {r:R2} (ho:OpR X (binaryOp op) r) (ha:PE X a ta) (hb:PE X b tb):PE X (.BinOp a op b pos) (tOp r ta tb):=by
 intro pins s σ H Q I h
 exact wpAny_BinOp (Jy ha hb I h λv u s2 x y H2 I2 rx ry q=>ho pins s2 σ H2 x y v u Q I2 rx ry q)
theorem Hk {op:UnaryOp} {r:V->Hp->VK->Prop} (ho:UnR X (unaryOp op) r) (ha:PE X a ta):PE X (.UnaryOp op a pos) (tUn r ta):=by
 intro pins s σ H Q I h
 exact UnaryOp_ (thn (ha pins s σ H _ I h) λv s1 ⟨x,H1,I1,r1,q1⟩=>ho pins s1 σ H1 x v Q I1 r1 q1)
theorem opI {f:Value->Value->Sem Value} {C:Int->Int->Prop} {g:Int->Int->Int}
  (rule:∀(i j:Int) (t u:Tok) (s:Shared) (Q:Value->Shared->Prop) (E:Value->Shared->Prop),C i j->Q (.int (g i j) s.toks) {s with toks:=s.toks+1}->wpAny (model X.prog X.w) X.A (f (.int i t) (.int j u)) Q E s) :
  OpR X f (rI C λi j=>.int (g i j)):=by
 intro pins s σ H x y v u Q I rx ry h
 obtain⟨i,j,rfl,rfl,hc,q⟩:=h
 obtain⟨t,rfl⟩:=rx
 obtain⟨t',rfl⟩:=ry
 exact rule i j t t' s _ _ hc ⟨.int (g i j),H,I.tok _,⟨_,rfl⟩,q⟩
theorem Jz {f:Value->Value->Sem Value} {g:Int->Int->Int}
  (rule:∀(i j:Int) (t u:Tok) (s:Shared) (Q:Value->Shared->Prop) (E:Value->Shared->Prop),Q (.int (g i j) s.toks) {s with toks:=s.toks+1}->wpAny (model X.prog X.w) X.A (f (.int i t) (.int j u)) Q E s) :
  OpR X f (rI0 λi j=>.int (g i j)):=by
 intro pins s σ H x y v u Q I rx ry h
 obtain⟨i,j,rfl,rfl,q⟩:=h
 obtain⟨t,rfl⟩:=rx
 obtain⟨t',rfl⟩:=ry
 exact rule i j t t' s _ _ ⟨.int (g i j),H,I.tok _,⟨_,rfl⟩,q⟩
theorem G1 {f:Value->Value->Sem Value} {g:Int->Int->Bool}
  (rule:∀(i j:Int) (t u:Tok) (s:Shared) (Q:Value->Shared->Prop) (E:Value->Shared->Prop),Q (.bool (g i j)) s->wpAny (model X.prog X.w) X.A (f (.int i t) (.int j u)) Q E s) :
  OpR X f (rI0 λi j=>.bl (g i j)):=by
 intro pins s σ H x y v u Q I rx ry h
 obtain⟨i,j,rfl,rfl,q⟩:=h
 obtain⟨t,rfl⟩:=rx
 obtain⟨t',rfl⟩:=ry
 exact rule i j t t' s _ _ ⟨.bl (g i j),H,I,rfl,q⟩
def K4 (i j:Int):Prop:=0<j/\j<1073741824
def K5 (i j:Int):Prop:=0<=j/\j<=1000000/\i.natAbs<2 ^ 64
def CMul (i j:Int):Prop:=(-(2 ^ 64)<i/\i<2 ^ 64)\/(-(2 ^ 64)<j/\j<2 ^ 64)
theorem CMul.ok {i j:Int} (h:CMul i j):IntMulOk i j:=by
 rcases h with⟨h1,h2⟩ | ⟨h1,h2⟩
 ·exact .of_left (intBits_le_64 h1 h2)
 ·exact .of_right (intBits_le_64 h1 h2)
theorem pj (k:Nat):(0:Int)<=2 ^ k:=by
 rw[two_pow_cast]
 exact Int.natCast_nonneg _
theorem op_add:OpR X (binaryOp .Add) (rI0 λi j=>.int (i+j)):=Jz λ_ _ _ _ _ _ _ q=>add_int q
theorem op_sub:OpR X (binaryOp .Sub) (rI0 λi j=>.int (i-j)):=Jz λ_ _ _ _ _ _ _ q=>sub_int q
theorem op_mul:OpR X (binaryOp .Mult) (rI CMul λi j=>.int (i*j)):=opI λ_ _ _ _ _ _ _ hc q=>mul_int q hc.ok
theorem A2:OpR X (binaryOp .FloorDiv) (rI K4 λi j=>.int (i / j)):=opI λi j _ _ _ _ _ hc q=>by
 have h1:(0:Int)<j:=hc.1
 have h2:j<1073741824:=hc.2
 exact floordiv_int (by lia) (by rw[EC i (by lia)];exact q) (.inl (PyProof.noPylong_small (by lia)))
theorem op_mod:OpR X (binaryOp .Mod) (rI (λ_ j=>0<j) λi j=>.int (i % j)):=opI λi j _ _ _ _ _ hc q=>by
 have h1:(0:Int)<j:=hc
 exact mod_int' (by lia) (by rw[Int.fmod_eq_emod_of_nonneg i (by lia)];exact q)
theorem op_pow:OpR X (binaryOp .Pow) (rI K5 λi j=>.int (i ^ j.toNat)):=opI λ_ _ _ _ _ _ _ hc q=>pow_int_small hc.1 hc.2.1 hc.2.2 q
theorem op_shr:OpR X (binaryOp .RShift) (rI (λ_ j=>0<=j) λi j=>.int (i / 2 ^ j.toNat)):=opI λi j _ _ _ _ _ hc q =>
 rshift_int hc (by rw[EC i (pj _)];exact q)
theorem unI {f:Value->Sem Value} {g:Int->Int}
  (rule:∀(i:Int) (t:Tok) (s:Shared) (Q:Value->Shared->Prop) (E:Value->Shared->Prop),Q (.int (g i) s.toks) {s with toks:=s.toks+1}->wpAny (model X.prog X.w) X.A (f (.int i t)) Q E s) :
  UnR X f (rU λi=>.int (g i)):=by
 intro pins s σ H x v Q I rx h
 obtain⟨i,rfl,q⟩:=h
 obtain⟨t,rfl⟩:=rx
 exact rule i t s _ _ ⟨.int (g i),H,I.tok _,⟨_,rfl⟩,q⟩
theorem Dj:UnR X (unaryOp .USub) (rU λi=>.int (-i)):=unI λ_ _ _ _ _ q=>neg_int q
theorem yu {pins:List (Addr×Obj)} {σ:St} {H:Hp} {s:Shared} {Q:VK} {k k':Bool} (I:Inv X pins σ H s) (q:Q (.bl k) H) (e:k=k'):EP X pins σ Q (.bool k') s:=by
 subst e
 exact⟨.bl k,H,I,rfl,q⟩
theorem Hl:OpR X (compareOp .Lt) (rI0 λi j=>.bl (decide (i<j))):=G1 λ_ _ _ _ _ _ _ q=>lt_int q
theorem Hm:OpR X (compareOp .LtE) (rI0 λi j=>.bl (decide (i<=j))):=G1 λ_ _ _ _ _ _ _ q=>le_int q
theorem Hn:OpR X (compareOp .Gt) (rI0 λi j=>.bl (decide (j<i))):=G1 λ_ _ _ _ _ _ _ q=>gt_int q
theorem Ho:OpR X (compareOp .GtE) (rI0 λi j=>.bl (decide (j<=i))):=G1 λ_ _ _ _ _ _ _ q=>ge_int q
theorem Dk:OpR X (compareOp .Is) (λx y H Q=>y=.non/\Q (.bl (decide (x=.non))) H):=by
 intro pins s σ H x y v u Q I rx ry h
 obtain⟨rfl,q⟩:=h
 cases ry
 refine is_none_gen (yu I q ?_)
 cases x<;>first
  | (cases rx;rfl)
  | (obtain⟨t,rfl⟩:=rx;rfl)
theorem A3:OpR X (compareOp .IsNot) (λx y H Q=>y=.non/\Q (.bl (!decide (x=.non))) H):=by
 intro pins s σ H x y v u Q I rx ry h
 obtain⟨rfl,q⟩:=h
 cases ry
 refine isnot_none_gen (yu I q ?_)
 cases x<;>first
  | (cases rx;rfl)
  | (obtain⟨t,rfl⟩:=rx;rfl)
def J0 (K:PySem.W.Frag) (x:V) (H:Hp) (k:Bool):Prop :=
 match x with
 | .non=>k=false
 | .bl b=>k=b
 | .int i=>k=(i != 0)
 | .str y=>y.length<=sizeLine/\k=((y.length:Int) != 0)
 | .byt y=>y.size<=sizeLine/\k=((y.size:Int) != 0)
 | .ref p=>(∃xs,SqL K H p xs/\k=!xs.isEmpty)\/(∃xs,SqT K H p xs/\k=!xs.isEmpty)\/∃kvs,H p=some (.dK kvs)/\k=!kvs.isEmpty
 | _=>False
theorem pk {κ:Type} {kvs:List (κ×V)} {vs:List (κ×Value)} (r:KV kvs vs):(!vs.isEmpty)=!kvs.isEmpty:=by
 cases r<;>rfl
theorem jl {xs:List V} {its:List Value} (r:ay xs its):(!its.toArray.isEmpty)=!xs.isEmpty:=by
 cases r<;>simp
theorem jm:(sizeLine:Nat)<2 ^ 63:=by rw[EL];decide
theorem Dl:K3 X (λx H Q=>∃k,J0 X.K x H k/\Q k H):=by
 intro pins s σ H x v Q I rx h
 obtain⟨k,e,q⟩:=h
 have hl:=jm
 have hs:sizeLine=16777216:=EL
 cases x with
 | non =>
  cases rx
  have e':k=false:=e
  subst e'
  exact truthy_none ⟨H,I,q⟩
 | bl b =>
  cases rx
  have e':k=b:=e
  subst e'
  exact CM ⟨H,I,q⟩
 | int i =>
  obtain⟨t,rfl⟩:=rx
  have e':k=(i != 0):=e
  subst e'
  exact PySem.P.truthy_int ⟨H,I,q⟩
 | str y =>
  obtain⟨t,rfl⟩:=rx
  obtain⟨hy,e'⟩:y.length<=sizeLine/\k=((y.length:Int) != 0):=e
  subst e'
  exact PySem.P.truthy_str (by lia) ⟨H,I.tok _,q⟩
 | byt y =>
  obtain⟨t,rfl⟩:=rx
  obtain⟨hy,e'⟩:y.size<=sizeLine/\k=((y.size:Int) != 0):=e
  subst e'
  exact PySem.W.truthy_bytes (by lia) ⟨H,I.tok _,q⟩
 | ref p =>
  cases rx
  have e':(∃xs,SqL X.K H p xs/\k=!xs.isEmpty)\/(∃xs,SqT X.K H p xs/\k=!xs.isEmpty)\/∃kvs,H p=some (.dK kvs)/\k=!kvs.isEmpty:=e
  rcases e' with⟨xs,hx,e'⟩ | ⟨xs,hx,e'⟩ | ⟨kvs,hx,e'⟩
  ·subst e'
   obtain⟨its,r,pl,hz⟩:=I.list hx
   have hlen:=r.length
   exact wpAny_truthy_list pl.isList (by simp![AC];lia) ⟨H,I.tok _,by rw[jl r];exact q⟩
  ·subst e'
   obtain⟨its,r,pl,hz⟩:=I.tuple hx
   have hlen:=r.length
   exact truthy_tuple pl (by simp![AC];lia) ⟨H,I.tok _,by rw[jl r];exact q⟩
  ·subst e'
   obtain⟨hz,hS,vs,r,m⟩:kvs.length<=sizeLine/\(p==sysModules)=false/\∃vs,KV kvs vs/\s.heap.DictOf (bt X.prog X.w) p vs:=I.hok p _ hx
   have hlen:kvs.length=vs.length:=DS r
   exact wpAny_truthy_dict hS m (by lia) ⟨H,I.tok _,by rw[pk r];exact q⟩
 | _=>exact(show False from e).elim
theorem vz (ha:PE X a ta) (he:∀whole,isTrue a X.env whole=(do let v <-whole;standAt a.pos;holding [v] (truthy v))) :
  PT X a (λσ H Q=>ta σ H λx H'=>∃k,J0 X.K x H' k/\Q k H'):=by
 intro pins s σ H Q I h
 exact isTrue_plain (thn (ha pins s σ H _ I h) λv s1 ⟨x,H1,I1,r1,q1⟩=>Dl pins s1 σ H1 x v Q I1 r1 q1) (he _)
theorem vals1 {x:V} {us:List Value} (r:ay [x] us):∃u,us=[u]/\RelV x u:=by
 cases r with
 | cons r1 r2=>cases r2;exact⟨_,rfl,r1⟩
theorem vals2 {x y:V} {us:List Value} (r:ay [x,y] us):∃u w',us=[u,w']/\RelV x u/\RelV y w':=by
 cases r with
 | cons r1 r2 =>
  cases r2 with
  | cons r3 r4=>cases r4;exact⟨_,_,rfl,r1,r3⟩
theorem rj (hc:X.calm=true):bx X (.builtin "max") (λxs H Q=>∃i j,xs=[.int i,.int j]/\Q (.int (if j > i then j else i)) H):=by
 intro pins s σ H xs us Q I r h
 obtain⟨i,j,rfl,q⟩:=h
 obtain⟨u,w',rfl,⟨t,rfl⟩,⟨t',rfl⟩⟩:=vals2 r
 refine max_two_ints (I.ok.hd hc) λh' tk k=>⟨_,H,I.kept k,?_,q⟩
 by_cases hj:j > i
 ·rw[if_pos hj,if_pos hj];exact⟨_,rfl⟩
 ·rw[if_neg hj,if_neg hj];exact⟨_,rfl⟩
theorem rk (hc:X.calm=true):bx X (.builtin "min") (λxs H Q=>∃i j,xs=[.int i,.int j]/\Q (.int (if j<i then j else i)) H):=by
 intro pins s σ H xs us Q I r h
 obtain⟨i,j,rfl,q⟩:=h
 obtain⟨u,w',rfl,⟨t,rfl⟩,⟨t',rfl⟩⟩:=vals2 r
 refine min_two_ints (I.ok.hd hc) λh' tk k=>⟨_,H,I.kept k,?_,q⟩
 by_cases hj:j<i
 ·rw[if_pos hj,if_pos hj];exact⟨_,rfl⟩
 ·rw[if_neg hj,if_neg hj];exact⟨_,rfl⟩
end
structure Room (k:Nat) (A:Around):Prop where
 hd:A.handled=none
 dp:A.depth+3*k+5<recursionLimit
 un:A.units+16*k+200<cLine
theorem Room.deeper {k:Nat} {A:Around} (r:Room (k+1) A) (env:Env):Room k (A.deeper env) :=
 ⟨r.hd,by have:=r.dp;show A.depth+1+3*k+5<_;lia,by have:=r.un;show A.units+3+16*k+200<_;lia⟩
theorem Room.depth {k:Nat} {A:Around} (r:Room k A):A.depth<recursionLimit:=by have:=r.dp;lia
theorem Room.units {k:Nat} {A:Around} (r:Room k A):A.units+64<cLine:=by have:=r.un;lia
def tNil:TA:=λ_ H Q=>Q [] H
def Hq (ta:TE) (tr:TA):TA:=λσ H Q=>ta σ H λx H1=>tr σ H1 λxs H2=>Q (x::xs) H2
section
variable {X : Cx} {e : Expr} {es : List Expr} {te : TE} {t : TA} {pos : Pos}
theorem rl:PA X [] tNil:=λ_ _ _ _ H Q I h=>Calls.spliced_nil ⟨[],H,I,.nil,h⟩
theorem ib (ha:PE X e te) (hr:PA X es t) (hs:starEach (e::es) X.env=(false,eval e X.env)::starEach es X.env:=by rfl):PA X (e::es) (Hq te t):=by
 intro pos pins s σ H Q I h
 rw[hs]
 show wpAny _ _ (spliced ((false,eval e X.env)::backTo pos (starEach es X.env))) _ _ s
 refine Calls.spliced_cons (thn (ha pins s σ H _ I h) λu s1 ⟨x,H1,I1,r1,q1⟩=>?_)
 exact thn (hr pos pins s1 σ H1 _ I1 q1) λus s2 ⟨xs,H2,I2,r2,q2⟩=>⟨x::xs,H2,I2,.cons r1 r2,q2⟩
def K6 (t:TA):TE:=λσ H Q=>t σ H λxs H1=>xs.length<=sizeLine/\∀p,H1 p=none->Q (.ref p) (upd H1 p (.tup xs))
def K7 (t:TA):TE:=λσ H Q=>t σ H λxs H1=>xs.length<=sizeLine/\∀p,H1 p=none->Q (.ref p) (upd H1 p (.lst xs))
theorem Dm {x1} (h:PA X es t):PE X (.Tuple es x1 pos) (K6 t):=by
 intro pins s σ H Q I hq
 refine wpAny_Tuple_spliced (thn (h pos pins s σ H _ I hq) λus s1 ⟨xs,H1,I1,r,z,q⟩=>⟨by rw[<-r.length];exact z,?_⟩)
 have hf:H1 s1.heap.objs.size=none:=I1.hok.fresh (AH _)
 refine⟨.ref s1.heap.objs.size,upd H1 s1.heap.objs.size (.tup xs),I1.laid (t':=s1.toks) (λb u e=>AE _ e) (AH _) ?_,rfl,q _ hf⟩
 exact⟨z,us,r,⟨_,AM _ rfl,rfl,rfl,_,rfl⟩⟩
theorem Dn (h:PA X es t):PE X (.List es pos) (K7 t):=by
 intro pins s σ H Q I hq
 refine wpAny_List_spliced (thn (h pos pins s σ H _ I hq) λus s1 ⟨xs,H1,I1,r,z,q⟩=>⟨by rw[<-r.length];exact z,?_⟩)
 have hf:H1 s1.heap.objs.size=none:=I1.hok.fresh (AH _)
 refine⟨.ref s1.heap.objs.size,upd H1 s1.heap.objs.size (.lst xs),I1.laid (t':=s1.toks) (λb u e=>AE _ e) (AH _) ?_,rfl,q _ hf⟩
 exact⟨z,us,0,r,AM _ rfl⟩
end
abbrev Sp:=List V->Hp->VK->XK->Prop
abbrev CXT:=List Env->Hp->Shared->XK->Value->Shared->Prop
structure Env0 (P:Program) (w:World) (K:PySem.W.Frag) (mg:Str->Option Value) (base:Heap) (A:Around) (outer:List Env) (s:Shared) (H:Hp):Prop where
 frames:A.frames=some outer
 mod:Mod K mg base
 bs:∀b o,base.get? b=some o->s.heap.get? b=some o/\H b=none
 bsz:base.objs.size<=s.heap.objs.size
 funs:s.heap.FunFrames base outer
 frf:∀b∈frs outer,H b=none
 hok:HOk P w H s.heap
 bare:AllBare s.gens
def CE (outer:List Env) (P:Program) (w:World) (H:Hp) (s:Shared) (Q:VK) (u:Value) (s':Shared):Prop :=
 ∃v H',s'.os=s.os/\AllBare s'.gens/\Un (frs outer) [] H H' s.heap s'.heap/\HOk P w H' s'.heap/\RelV v u/\Q v H'
def CR (CX:CXT) (outer:List Env) (P:Program) (w:World) (H:Hp) (s:Shared) (Q:VK) (E:XK) (r:Result) (s':Shared):Prop :=
 match r with
 | .ok (.ret u)=>CE outer P w H s Q u s'
 | .ok _=>False
 | .error e=>CX outer H s E e s'
structure FnOk (P:Program) (w:World) (K:PySem.W.Frag) (mg:Str->Option Value) (base:Heap) (CX:CXT) (k:Nat) (f:Addr) (fd:FuncData) (ps:List Str) (sp:Sp):Prop where
 len:∀vs H Q E,sp vs H Q E->vs.length=ps.length
 run:∀(A:Around) (outer:List Env) (s:Shared) (H:Hp) (args:Args) (us:List Value) (vs:List V) (Q:VK) (E:XK),Room k A->Env0 P w K mg base A outer s H->BindsTo s fd args (ps.zip us)->ay vs us->sp vs H Q E ->
  codeAny (model P w) A (.call (.ref f) args) (CR CX outer P w H s Q E) s
theorem FnOk.imp {P:Program} {w:World} {K:PySem.W.Frag} {mg:Str->Option Value} {base:Heap} {CX:CXT} {k:Nat} {f:Addr} {fd:FuncData} {ps:List Str} {sp sp':Sp} (F:FnOk P w K mg base CX k f fd ps sp)
  (h:∀vs H Q E,sp' vs H Q E->sp vs H Q E):FnOk P w K mg base CX k f fd ps sp' :=
 ⟨λvs H Q E q=>F.len vs H Q E (h _ _ _ _ q),λA outer s H args us vs Q E hr he hb hv hs=>F.run A outer s H args us vs Q E hr he hb hv (h _ _ _ _ hs)⟩
section
variable {X : Cx} {pins : List (Addr × Obj)} {σ : St} {H : Hp} {s s' : Shared}
theorem Inv.env0 (I:Inv X pins σ H s):Env0 X.prog X.w X.K X.mg X.base X.A X.stack s H :=
 ⟨I.ok.frames,I.ok.mod,I.bs,CC I.ok.bsz I.sz,I.stack,I.stkFree,I.hok,I.bare⟩
theorem Inv.after {Q:VK} {u:Value} (I:Inv X pins σ H s) (h:CE X.stack X.prog X.w H s Q u s'):EP X pins σ Q u s':=by
 obtain⟨v,H',os,bare,un,hok,r,q⟩:=h
 obtain⟨hh,g,d,t,os'⟩:=s'
 obtain rfl:os'=s.os:=os
 exact⟨v,H',I.call (h':=hh) (g':=g) (d':=d) (t':=t) (ch:=[]) un hok bare (λb z=>absurd z (by simp)),r,q⟩
end
def Hr (sp:Sp) (dvs:List V) (E:XK) (t:TA):TE:=λσ H Q=>t σ H λvs H1=>sp (vs++dvs) H1 Q E
def Binds (K:PySem.W.Frag) (fd:FuncData) (ps:List Str) (ds:List Value):Prop :=
 ∀(s:Shared) (us:List Value),K.In s.heap->(us++ds).length=ps.length->BindsTo s fd ⟨us,[]⟩ (ps.zip (us++ds))
theorem Binds.all {K:PySem.W.Frag} {fd:FuncData} {ps:List Str} (h:∀us:List Value,us.length=ps.length->bindArgs fd ⟨us,[]⟩=pure (ps.zip us)):Binds K fd ps []:=λs us _ hl=>by
 rw[BY]at hl ⊢
 exact .of_eq (h us hl)
def rm (CX:CXT) (X:Cx) (E:XK):Prop:=∀(pins:List (Addr×Obj)) (σ:St) (H:Hp) (s:Shared) (e:Value) (s':Shared),Inv X pins σ H s->CX X.stack H s E e s'->X.xe e s'
section
variable {X : Cx} {CX : CXT} {k : Nat} {f C : Addr} {fd : FuncData} {ps : List Str} {sp : Sp} {dvs : List V} {ds : List Value} {E : XK} {x m : Str} {p pos apos : Pos} {e o : Expr} {es : List Expr} {ta : TE} {t : TA}
theorem Dp {pins:List (Addr×Obj)} {σ:St} {H:Hp} {s:Shared} {Q:VK} {us:List Value} {vs:List V} (F:FnOk X.prog X.w X.K X.mg X.base CX k f fd ps sp) (hr:Room k X.A) (hb:Binds X.K fd ps ds) (hd:ay dvs ds) (hx:rm CX X E)
  (I:Inv X pins σ H s) (r:ay vs us) (h:sp (vs++dvs) H Q E):wpAny (model X.prog X.w) X.A (call (.ref f) us) (EP X pins σ Q) X.xe s:=by
 have r2:ay (vs++dvs) (us++ds):=r.append hd
 have hl:(us++ds).length=ps.length:=by rw[<-r2.length];exact F.len _ _ _ _ h
 refine wpAny_call (FF (F.run X.A X.stack s H ⟨us,[]⟩ (us++ds) (vs++dvs) Q E hr I.env0 (hb s us I.kIn hl) r2 h) λr s' hq=>?_)
 cases r with
 | error e=>exact hx pins σ H s e s' I hq
 | ok fl =>
  cases fl with
  | ret u=>exact I.after hq
  | next=>exact False.elim hq
  | brk=>exact False.elim hq
  | cont=>exact False.elim hq
theorem A4 (F:FnOk X.prog X.w X.K X.mg X.base CX k f fd ps sp) (hr:Room k X.A) (hg:Gl X x) (hm:X.mg x=some (.ref f)) (hk:PySem.W.keepIn X.K (.ref f)=true) (hb:Binds X.K fd ps ds) (hd:ay dvs ds) (hx:rm CX X E)
  (ha:PA X (e::es) t) (hdb:(x==("__debug__":Str))=false:=by decide) (he:starEach (e::es) X.env=(false,eval e X.env)::starEach es X.env:=by rfl) (hpl:(backTo pos (starEach es X.env)).any (·.1)=false:=by rfl) :
  PE X (.Call (.Name x p) (e::es) [] pos) (Hr sp dvs E t):=by
 intro pins s σ H Q I h
 refine DH (ia I hg hm ?_ hdb)
 refine Go (h₀:=X.base) I.ok.mod.kin hk (thn (ha pos pins s σ H _ I h) λus s1 ⟨vs,H1,I1,r,q⟩=>⟨I1.kIn,?_⟩) he hpl
 exact Dp F hr hb hd hx I1 r q
structure Mk (K:PySem.W.Frag) (C f:Addr):Prop where
 makes:PySem.W.makesIn K C=true
 init:PySem.W.findIn K (.ref C) "__init__"=some (some (.ref f))
 fn:PySem.W.isFn K (.ref f)=true
 kp:PySem.W.keepIn K (.ref C)=true
end
structure FnScope (N P:List Str) (sc:Scope):Prop where
 kind:sc.kind=.function
 co:sc.isCoroutine=false
 gen:sc.isGenerator=false
 nd:N.Nodup
 pre:N.take P.length=P
 par:∀x∈P,sc.names.lookup x=some .local\/sc.names.lookup x=some .cell
 nofree:∀y∈sc.names,y.2≠.free
theorem kr {kindOf:Str->Option NameKind} {x:Str}:∀{binds:List (Str×Value)} {m:Str->Option Value},(∀v,(x,v)∉binds)->bindL kindOf binds m x=m x
 | [],_,_=>rfl
 | (n,v)::r,m,h=>by
  unfold bindL
  rw[kr λw hw=>h w (AO _ hw)]
  split
  ·have:x≠n:=by rintro rfl;exact h v BF
   simp[this]
  ·rfl
theorem ku {kindOf:Str->Option NameKind} {x:Str}:∀{binds:List (Str×Value)} {m:Str->Option Value},(∀v,(x,v)∉binds)->bindC kindOf binds m x=m x
 | [],_,_=>rfl
 | (n,v)::r,m,h=>by
  unfold bindC
  rw[ku λw hw=>h w (AO _ hw)]
  split
  ·rfl
  ·have:x≠n:=by rintro rfl;exact h v BF
   simp[this]
theorem kx {kindOf:Str->Option NameKind} {x:Str} {v:Value}:∀{P:List Str} {vs:List Value} {i:Nat} {m:Str->Option Value},P.Nodup->P[i]? = some x->vs[i]? = some v->kindOf x=some .local ->
  bindL kindOf (P.zip vs) m x=some v
 | [],_,_,_,_,h,_,_=>by simp at h
 | _::_,[],_,_,_,_,h,_=>by simp at h
 | p::P,w::vs,0,m,nd,h1,h2,hk=>by
  simp at h1 h2;subst h1;subst h2
  show bindL kindOf ((p,w)::P.zip vs) m p=_
  unfold bindL
  rw[kr λv hv=>(DW.mp nd).1 (FM hv).1,if_pos hk]
  simp
 | p::P,w::vs,i+1,m,nd,h1,h2,hk=>by
  show bindL kindOf ((p,w)::P.zip vs) m x=_
  unfold bindL
  exact kx (i:=i) (DW.mp nd).2 (by simpa using h1) (by simpa using h2) hk
theorem ky {kindOf:Str->Option NameKind} {x:Str} {v:Value}:∀{P:List Str} {vs:List Value} {i:Nat} {m:Str->Option Value},P.Nodup->P[i]? = some x->vs[i]? = some v->kindOf x≠some .local ->
  bindC kindOf (P.zip vs) m x=some v
 | [],_,_,_,_,h,_,_=>by simp at h
 | _::_,[],_,_,_,_,h,_=>by simp at h
 | p::P,w::vs,0,m,nd,h1,h2,hk=>by
  simp at h1 h2;subst h1;subst h2
  show bindC kindOf ((p,w)::P.zip vs) m p=_
  unfold bindC
  rw[ku λv hv=>(DW.mp nd).1 (FM hv).1,if_neg hk]
  simp
 | p::P,w::vs,i+1,m,nd,h1,h2,hk=>by
  show bindC kindOf ((p,w)::P.zip vs) m x=_
  unfold bindC
  exact ky (i:=i) (DW.mp nd).2 (by simpa using h1) (by simpa using h2) hk
def start (N:List Str) (vs:List V):St:=vs.map some++List.replicate (N.length-vs.length) none
def mj (CX:CXT) (P:Program) (w:World) (K:PySem.W.Frag) (mg:Str->Option Value) (base:Heap) (N:List Str) (qual:Str) (scope:Scope) (f:Addr) (cd:Value) (A:Around) (outer:List Env) (s:Shared) (H:Hp) (E:XK):Cx where
 prog:=P
 w:=w
 K:=K
 mg:=mg
 base:=base
 A:=A.deeper (envOfC qual scope s.heap.objs.size f cd)
 N:=N
 s₀:=s
 H₀:=H
 env:=envOfC qual scope s.heap.objs.size f cd
 outer:=outer
 stack:=envOfC qual scope s.heap.objs.size f cd::outer
 ex:=[]
 calm:=true
 fn:=λ_=>true
 pn:=[]
 xe:=λe s'=>wpAny (model P w) (A.deeper (envOfC qual scope s.heap.objs.size f cd)) (leaving (envOfC qual scope s.heap.objs.size f cd) e) (λ_ s''=>CX outer H s E e s'') (λe' s''=>CX outer H s E e' s'') s'
theorem oa {sc:Scope} {n:Nat} {x:Str} (h:sc.names.lookup x=some .cell):∃c,(cellsFrom n sc.names []).lookup x=some c:=by
 have q:=FG sc.names n [] (.inl h)
 exact ET.mp q
theorem rn {CX:CXT} {P:Program} {w:World} {K:PySem.W.Frag} {mg:Str->Option Value} {base:Heap} {N ps:List Str} {qual:Str} {scope:Scope} {f:Addr} {cd:Value} {A:Around} {outer:List Env} {s s1:Shared} {H:Hp} {E:XK} {us:List Value} {vs:List V}
  (S:FnScope N ps scope) (hd:A.handled=none) (e0:Env0 P w K mg base A outer s H) (hl:vs.length=ps.length) (r:ay vs us)
  (x:InCallC s s.heap.objs.size (bindL (envOfC qual scope s.heap.objs.size f cd).kindOf (ps.zip us) λ_=>none) (cellsFrom (s.heap.objs.size+1) scope.names []) (bindC (envOfC qual scope s.heap.objs.size f cd).kindOf (ps.zip us) λ_=>none) s1) :
  Inv (mj CX P w K mg base N qual scope f cd A outer s H E) [] (start N vs) H s1:=by
 have hpl:ps.length<=N.length:=by have:=congrArg List.length S.pre;rw[DR]at this;lia
 obtain⟨h1,tk,rfl,hk⟩:=x.done
 have noA:∀b:Addr,b∉(mj CX P w K mg base N qual scope f cd A outer s H E).ex:=λb z=>absurd (show b∈([]:List Addr)from z) (by simp)
 refine⟨⟨e0.mod,S.kind,rfl,rfl,AH _,λy z c h1 h2=>?_,λy hy=>?_,λy c _ h=>?_,λ_=>hd,Around.frames_deeper e0.frames,.inr ⟨rfl,rfl⟩,λb z=>absurd z (noA b),e0.bs,e0.bsz,λb _ _=>noA b,λb z=>absurd z (noA b),e0.funs,e0.frf⟩,
  rfl,e0.bare,Un.kept hk,⟨_,x.toInCall.ns,λi y v h1 h2 h3=>?_⟩,λy c h=>⟨_,x.cell y c h⟩,e0.hok.fresh (AH _),λy c h=>?_,λp hp=>absurd (show p∈([]:List (Addr×Obj))from hp) (by simp),e0.hok.kept hk,?_⟩
 ·exact name_of_addr x.apart (CO h1) (CO h2)
 ·have hy:scope.names.lookup y=some .cell\/scope.names.lookup y=some .free:=hy
  rcases hy with hy | hy
  ·exact oa hy
  ·exact absurd rfl (S.nofree _ (CO hy))
 ·exact DC (x.above y c (CO h))
 ·have hi:i<vs.length:=by
   unfold start at h2
   by_cases hi:i<vs.length
   ·exact hi
   ·rw[BL (by simpa using hi)]at h2
    rw[BR]at h2
    split at h2<;>cases h2
  have ha:vs[i]? = some v:=by
   unfold start at h2
   rw[AI (by simpa using hi),AY]at h2
   cases e:vs[i]? with
   | none=>rw[e]at h2;cases h2
   | some a=>rw[e]at h2;cases h2;rfl
  obtain⟨u,hu,rv⟩:=r.get ha
  have hp:ps[i]? = some y:=by
   rw[<-S.pre,EU (by lia)];exact h1
  have ndP:ps.Nodup:=by rw[<-S.pre];exact S.nd.sublist (List.take_sublist _ _)
  refine⟨u,rv,?_⟩
  rcases S.par y (DT hp)with k | k
  ·exact .inl ⟨k,kx ndP hp hu k⟩
  ·obtain⟨c,e⟩:=oa (n:=s.heap.objs.size+1) k
   refine .inr ⟨.inl k,c,e,?_⟩
   have q:=x.cell y c e
   rw[ky ndP hp hu (by show scope.names.lookup y≠_;rw[k];decide)]at q
   exact q
 ·exact e0.hok.fresh (DC (x.above y c (CO h)))
 ·unfold start
  show _=N.length
  rw[BH,AZ,DO]
  lia
theorem Dq {CX:CXT} {P:Program} {w:World} {K:PySem.W.Frag} {mg:Str->Option Value} {base:Heap} {k:Nat} {f:Addr} {name qual:Str} {params:Arguments} {body:List Stmt} {scope:Scope} {dV kV doc pm cdv ct oc:Value} {an od:Option Addr}
  {osl:Array (Option Value)} {N ps:List Str} {sp:Sp} (lk:K.lookup f=some ⟨oc,od,.func (PySem.W.fnOf name qual params body scope dV kV doc pm an cdv ct),osl⟩) (hcd:PySem.W.codeIn K cdv qual=true) (S:FnScope N ps scope)
  (len:∀vs H Q E,sp vs H Q E->vs.length=ps.length)
  (hbody:∀(A:Around) (outer:List Env) (s:Shared) (H:Hp) (vs:List V) (Q:VK) (E:XK),Room k (A.deeper (envOfC qual scope s.heap.objs.size f cdv))->sp vs H Q E ->
   ∃t,PSs (mj CX P w K mg base N qual scope f cdv A outer s H E) body t/\t {nx:=λ_ H'=>Q .non H',rt:=Q} (start N vs) H) :
  FnOk P w K mg base CX (k+1) f (PySem.W.fnOf name qual params body scope dV kV doc pm an cdv ct) ps sp:=by
 refine⟨len,λA outer s H args us vs Q E hr e0 hb r hsp=>?_⟩
 have hl:=len _ _ _ _ hsp
 have KX:K.In s.heap:=e0.mod.kin.keeps λb o e=>(e0.bs b o e).1
 have lim:s.heap.NoLimit:=e0.mod.nolimit.keeps λb o e=>(e0.bs b o e).1
 have hkind:∀y∈ps.zip us,scope.names.lookup y.1=some .local\/(scope.names.lookup y.1=some .cell/\((cellsFrom (s.heap.objs.size+1) scope.names []).lookup y.1).isSome=true):=fun⟨n,v⟩ hy=>by
  rcases S.par n (FM hy).1 with q | q
  ·exact .inl q
  ·exact .inr ⟨q,FG _ _ _ (.inl q)⟩
 refine codeAny_call_function hr.depth (KX _ _ lk) rfl S.co S.gen rfl (PySem.W.codeRec_of KX hcd) (hb _ _ _ _ ?_)
 refine wpAny_newFunctionEnv_cells S.kind hkind λenv he s1 x=>?_
 subst he
 refine⟨lim.keeps x.toInCall.keep,codeAny_func ?_⟩
 obtain⟨t,ht,hq⟩:=hbody A outer s H vs Q E (hr.deeper _) hsp
 have I:Inv (mj CX P w K mg base N qual scope f cdv A outer s H E) [] (start N vs) H s1:=rn S hr.hd e0 hl r x
 refine BK (ht [] s1 (start N vs) H _ I hq) (λfl s' hs=>?_) λe s' hs=>hs
 have fin:∀{σ':St} {H':Hp} {v:V} {u:Value},Inv (mj CX P w K mg base N qual scope f cdv A outer s H E) [] σ' H' s'->RelV v u->Q v H'->CE outer P w H s Q u s' :=
  λ{σ' H' v u} J rv q=>⟨v,H',J.os,J.bare,J.base,J.hok,rv,q⟩
 cases fl with
 | ret u =>
  obtain⟨v,σ',H',J,rv,q⟩:=hs
  exact fin J rv q
 | next =>
  obtain⟨σ',H',J,q⟩:=hs
  exact fin (v:=V.non) (u:=Value.none) J rfl q
 | brk =>
  obtain⟨_,_,_,q⟩:=hs
  exact False.elim q
 | cont =>
  obtain⟨_,_,_,q⟩:=hs
  exact False.elim q
section
variable {X : Cx} {x : Str} {p pos : Pos} {e : Expr} {es : List Expr} {t : TA} {id T : String} {r : List V -> Hp -> VK -> Prop}
def tCB (r:List V->Hp->VK->Prop) (t:TA):TE:=λσ H Q=>t σ H λvs H1=>r vs H1 Q
theorem dn (hc:bx X (.builtin id) r) (hg:Gl X x) (hm:X.mg x=none) (hv:bootBuiltins x=some (.builtin id)) (ha:PA X (e::es) t) (hn:x≠"__name__":=by decide) (hdb:(x==("__debug__":Str))=false:=by decide)
  (he:starEach (e::es) X.env=(false,eval e X.env)::starEach es X.env:=by rfl) (hpl:(backTo pos (starEach es X.env)).any (·.1)=false:=by rfl):PE X (.Call (.Name x p) (e::es) [] pos) (tCB r t):=by
 intro pins s σ H Q I h
 refine DH (ko I hg hm hv ?_ hn hdb)
 exact PyProof.Rows.callWith_builtin1 (thn (ha pos pins s σ H _ I h) λus s1 ⟨vs,H1,I1,r1,q1⟩=>hc pins s1 σ H1 vs us Q I1 r1 q1) he hpl
theorem kz (hc:bx X (.type T) r) (hg:Gl X x) (hm:X.mg x=none) (hv:bootBuiltins x=some (.type T)) (ha:PA X (e::es) t) (hn:x≠"__name__":=by decide) (hdb:(x==("__debug__":Str))=false:=by decide)
  (he:starEach (e::es) X.env=(false,eval e X.env)::starEach es X.env:=by rfl) (hpl:(backTo pos (starEach es X.env)).any (·.1)=false:=by rfl):PE X (.Call (.Name x p) (e::es) [] pos) (tCB r t):=by
 intro pins s σ H Q I h
 refine DH (ko I hg hm hv ?_ hn hdb)
 exact DA (thn (ha pos pins s σ H _ I h) λus s1 ⟨vs,H1,I1,r1,q1⟩=>hc pins s1 σ H1 vs us Q I1 r1 q1) he hpl
end
end L2
namespace HT
open PySem PyProof.Rows
def lexLt:List Int->List Int->Bool
 | [],[]=>false
 | [],_::_=>true
 | _::_,[]=>false
 | x::xs,y::ys=>if x=y then lexLt xs ys else decide (x<y)
theorem cu (x y:Int) (xs ys:List Int):lexLt (x::xs) (y::ys)=if x=y then lexLt xs ys else decide (x<y):=rfl
theorem dq:lexLt [] []=false:=rfl
theorem dg (y:Int) (ys:List Int):lexLt [] (y::ys)=true:=rfl
theorem dh (x:Int) (xs:List Int):lexLt (x::xs) []=false:=rfl
theorem jy (A:Around) (s:Shared) (a:Int) (t:Tok) (c:Int) (u:Tok):∃e,SeqAt.EqAt A s (.int a t) (.int c u) e/\(e=true↔a=c) :=
 ⟨(a==c),Gt a t c u,by simp⟩
theorem v3 (A:Around) (s:Shared) (a:Int) (t:Tok) (c:Int) (u:Tok) (prog:Program) (w:World) (E:Value->Shared->Prop) (Q:Value->Shared->Prop) (h:Q (.bool (decide (a<c))) s) :
  wpAny (model prog w) A (richCompare .Lt (.int a t) (.int c u)) Q E s :=
 (PyProof.Rows.lt_int h:wpAny (model prog w) A (compareOp .Lt (.int a t) (.int c u)) Q E s)
section
open PySem.SeqAt
open PySem.AutoSeq1 (wpAny_loadPart')
open PySem.MeetsSeq PySem.MeetsSeq2 PySem.MeetsSeq3
theorem jz (l b:Addr) (items items2:Array Value) (n n2:Nat) (dd dd2:Option Addr) (sl sl2:Array (Option Value)) (ns ms:List Int) (hi:IntsAre items.toList ns) (hj:IntsAre items2.toList ms) :
  Meets (Builtin.«tuple.__lt__» ⟨[.ref l,.ref b],[]⟩)
   (λ_ R s=>s.heap.get? l=some {cls:=.type "tuple",dict:=dd,data:=.seq items n,slots:=sl}/\s.heap.get? b=some {cls:=.type "tuple",dict:=dd2,data:=.seq items2 n2,slots:=sl2} /\
    R (.ok (.ret (.bool (lexLt ns ms)))) s) :=
 .of_wp λprog w A R s h=>by
  obtain⟨hp,g,d,tk,os⟩:=s;obtain⟨hl,hb,h⟩:=h
  have f2:=DE
  have z1:items.size=ns.length:=by rw[<-hi.length];simp
  have z2:items2.size=ms.length:=by rw[<-hj.length];simp
  wp_walk using BO hl,BO hb,EW _ (λrest b s'=>b.1=none/\s'=⟨hp,g,d,tk,os⟩/\∃(vs ws:List Value) (ns' ms':List Int),rest=vs.zip ws /\
   IntsAre vs ns'/\IntsAre ws ms'/\ns'.length+items2.size=ms'.length+items.size/\R (.ok (.ret (.bool (lexLt ns' ms')))) ⟨hp,g,d,tk,os⟩) _
  case turn =>
   rintro⟨y,x⟩ rest b s' ⟨hb',rfl,vs,ws,ns',ms',hz,hvi,hwi,hlen,hR⟩
   cases hvi with
   | nil=>rw[EM]at hz;cases hz
   | cons a t hvi' =>
    cases hwi with
    | nil=>rw[ED]at hz;cases hz
    | cons c u hwi' =>
     rw[CJ]at hz
     injection hz with hyx hrest
     injection hyx with hy hx
     subst hy hx
     rw[cu]at hR
     simp![AV]at hlen
     obtain⟨e,he,hiff⟩:=jy A.in1 ⟨hp,g,d,tk,os⟩ a t c u
     refine AB (he prog w _ _ ?_)
     cases e with
     | true =>
      rw[if_pos (hiff.mp rfl)]at hR
      wp_walk
      exact⟨rfl,rfl,_,_,_,_,hrest,hvi',hwi',by lia,hR⟩
     | false =>
      rw[if_neg (λq=>absurd (hiff.mpr q) AR)]at hR
      have hri:=v3 A.in1 ⟨hp,g,d,tk,os⟩ a t c u prog w
      wp_walk using hri
      exact⟨_,rfl,by simpa using hR⟩
  case fin =>
   rintro⟨b1,b2⟩ s' ⟨hb',rfl,vs,ws,ns',ms',hz,hvi,hwi,hlen,hR⟩
   simp only at hb'
   subst hb'
   have hv:lexLt ns' ms'=decide (items.size<items2.size):=by
    cases hvi with
    | nil =>
     cases hwi with
     | nil =>
      simp![BP]at hlen
      rw[dq]
      exact(decide_eq_false (by lia)).symm
     | cons c u hw =>
      simp![BP,AV]at hlen
      rw[dg]
      exact(decide_eq_true (by lia)).symm
    | cons a t hv =>
     cases hwi with
     | nil =>
      simp![BP,AV]at hlen
      rw[dh]
      exact(decide_eq_false (by lia)).symm
     | cons c u hw =>
      rw[CJ]at hz
      cases hz
   rw[hv]at hR
   wp_walk
   exact⟨_,rfl,by simpa[Builtin.Tuple.tupleCompareSizes]using hR⟩
  case h =>
   exact⟨rfl,rfl,items.toList,items2.toList,ns,ms,rfl,hi,hj,by lia,h⟩
end
section
variable {prog : Program} {w : World} {A : Around} {E : Value -> Shared -> Prop} {s : Shared}
theorem pq {l b:Addr} {items items2:Array Value} {ns ms:List Int} {Q:Value->Shared->Prop} (hl:IsTup s.heap l items) (hb:IsTup s.heap b items2) (hi:IntsAre items.toList ns) (hj:IntsAre items2.toList ms)
  (hu:A.units<cLine) (h:Q (.bool (lexLt ns ms)) s):wpAny (model prog w) A (compareOp .Lt (.ref l) (.ref b)) Q E s:=by
 obtain⟨⟨cls,dd,data,sl⟩,ho,hc,n,hd⟩:=id hl
 obtain⟨⟨cls2,dd2,data2,sl2⟩,ho2,hc2,n2,hd2⟩:=id hb
 simp only at hc hd hc2 hd2
 subst hc hd hc2 hd2
 exact DK (op:=.Lt) ⟨_,ho,rfl⟩ ⟨_,ho2,rfl⟩ PySem.F.slot_tuple_lt PySem.F.entry_tuple_lt (PySem.F.args_tuple_lt_2 _ _) (jz l b items items2 n n2 dd dd2 sl sl2 ns ms hi hj)
  ⟨ho,ho2,show Value.bool (lexLt ns ms)≠Value.notImplemented/\Q (.bool (lexLt ns ms)) s from⟨(λx=>nomatch x),h⟩⟩ hu
theorem A5 {t b:Addr} {vs ws:List Value} {Q:Value->Shared->Prop} (ht:IsTup s.heap t vs.toArray) (hb:IsTup s.heap b ws.toArray) (hv:vs≠[])
  (h1:ws=[]->Q (.ref t) s) (h2:ws≠[]->Q (.ref s.heap.objs.size) {s with heap:=s.heap.push {cls:=.type "tuple",data:=.seq (vs++ws).toArray}})
  (hsz:vs.length+ws.length<=sizeLine):wpAny (model prog w) A (binaryOp .Add (.ref t) (.ref b)) Q E s:=by
 obtain⟨⟨cls,dd,data,sl⟩,ho,hc,n,hd⟩:=id ht
 obtain⟨⟨cls2,dd2,data2,sl2⟩,ho2,hc2,n2,hd2⟩:=id hb
 simp only at hc hd hc2 hd2
 subst hc hd hc2 hd2
 have e:vs.toArray++ws.toArray=(vs++ws).toArray:=by simp
 by_cases hw:ws=[]
 ·exact concat_meets ⟨_,ho,rfl⟩ ⟨_,ho2,rfl⟩ EY seq_tuple_add DL DI (DF _ _)
   (tuple_addW1 t b vs.toArray ws.toArray n n2 dd dd2 sl sl2 (by simpa using hv) (by simp[hw])) ⟨ho,ho2,h1 hw⟩
 ·refine concat_meets ⟨_,ho,rfl⟩ ⟨_,ho2,rfl⟩ EY seq_tuple_add DL DI (DF _ _)
   (tuple_addW2 t b vs.toArray ws.toArray n n2 dd dd2 sl sl2 (by simpa using hv) (by simpa using hw) (by rw[AC,AC];exact hsz)) ⟨ho,ho2,?_⟩
  rw[e]
  exact h2 hw
def sIx (n d:Nat):Option Int->Nat
 | none=>d
 | some v=>if v<0 then(v+(n:Int)).toNat else min v.toNat n
theorem Dr (n d:Nat) (hd:d<=n) (o:Option Int):sIx n d o<=n:=by
 cases o with
 | none=>exact hd
 | some v =>
  show(if v<0 then(v+(n:Int)).toNat else min v.toNat n)<=n
  by_cases hv:v<0
  ·rw[if_pos hv];lia
  ·rw[if_neg hv];exact Nat.min_le_right _ _
theorem rp (v:Int) (n d:Nat):(if v<0 then max (v+(n:Int)) 0 else min v (n:Int))=((sIx n d (some v):Nat):Int):=by
 show(if v<0 then max (v+(n:Int)) 0 else min v (n:Int))=(((if v<0 then(v+(n:Int)).toNat else min v.toNat n):Nat):Int)
 by_cases hv:v<0
 ·simp![if_pos hv];lia
 ·simp![if_neg hv];lia
theorem p5 (lo hi:Option Int) (n:Nat):Builtin.Slice.sliceAdjust lo hi 1 (n:Int)=(((sIx n 0 lo:Nat):Int),((sIx n n hi:Nat):Int)):=by
 have h1:¬((1:Int)<0):=by lia
 unfold Builtin.Slice.sliceAdjust
 simp![h1,if_false]
 refine Prod.ext ?_ ?_
 ·cases lo with
  | none=>rfl
  | some v=>exact rp v n 0
 ·cases hi with
  | none=>rfl
  | some v=>exact rp v n n
theorem p6 (i j:Nat):Builtin.Slice.slicePlaces (i:Int) (j:Int) 1=j-i:=by
 unfold Builtin.Slice.slicePlaces
 have h1:(1:Int) > 0:=by lia
 simp![h1,if_true,Int.ediv_one]
 split<;>lia
theorem jn {v:Value} {o:Option Int} {Q:Option Int->Shared->Prop} (p:IsPart v o) (h:Q o s):wpAny (model prog w) A (Builtin.Slice.slicePartIndex v) Q E s:=by
 cases p with
 | none=>exact slicePart_none h
 | int i t=>exact slicePart_int h
theorem d0 {sl:Addr} {vl vu:Value} {lo hi:Option Int} {n:Nat} {Q:Int×Int×Nat->Shared->Prop} (hs:s.heap.IsSliceOf sl vl vu .none) (pl:IsPart vl lo) (pu:IsPart vu hi)
  (h:Q (((sIx n 0 lo:Nat):Int),1,sIx n n hi-sIx n 0 lo) s):wpAny (model prog w) A (Builtin.Slice.sliceApplied (.ref sl) (pure (n:Int))) Q E s:=by
 obtain⟨os,hos,hcs,hds⟩:=id hs
 unfold Builtin.Slice.sliceApplied Builtin.Slice.sliceFields
 refine AB (AB (BZ hos hds (x:=vl) rfl (AB (BZ hos hds (x:=vu) rfl (AB (BZ hos hds (x:=.none) rfl (AJ ?_)))))))
 refine AB (slicePart_none ?_)
 show wpAny _ _ (if((1:Int)==0)=true then _ else _) _ _ s
 rw[if_neg (by decide)]
 refine AB (jn pl (AB (jn pu (AB (AJ ?_)))))
 show wpAny _ _ (match Builtin.Slice.sliceAdjust lo hi 1 (n:Int)with | (lo,hi)=>pure (lo,(1:Int),Builtin.Slice.slicePlaces lo hi 1)) _ _ s
 rw[p5 lo hi n]
 show wpAny _ _ (pure (((sIx n 0 lo:Nat):Int),(1:Int),Builtin.Slice.slicePlaces ((sIx n 0 lo:Nat):Int) ((sIx n n hi:Nat):Int) 1)) _ _ s
 rw[p6]
 exact AJ h
theorem wa (xs:Array Value) (i k:Nat):((List.range k).filterMap fun(m:Nat)=>xs[((i:Int)+(m:Int)*1).toNat]?).toArray=((xs.toList.drop i).take k).toArray:=by
 have e:(fun(m:Nat)=>xs[((i:Int)+(m:Int)*1).toNat]?)=λm=>xs[i+m]?:=by
  funext m
  have:((i:Int)+(m:Int)*1).toNat=i+m:=by lia
  rw[this]
 rw[e]
 have:=pick_run xs i k
 rw[List.filterMap_map]at this
 have e2:((λx=>xs[x]?)∘λx=>i+x)=λm=>xs[i+m]?:=rfl
 rw[e2]at this
 rw[this]
theorem gr {t sl:Addr} {items:Array Value} {vl vu:Value} {lo hi:Option Int} {Q:Value->Shared->Prop} (ht:IsTup s.heap t items) (hs:s.heap.IsSliceOf sl vl vu .none) (pl:IsPart vl lo) (pu:IsPart vu hi)
  (hw:¬(sIx items.size 0 lo=0/\sIx items.size items.size hi=items.size))
  (h:Q (.ref s.heap.objs.size) {s with heap:=s.heap.push {cls:=.type "tuple",data:=.seq ((items.toList.drop (sIx items.size 0 lo)).take (sIx items.size items.size hi-sIx items.size 0 lo)).toArray}})
  (hsz:items.size<=sizeLine):wpAny (model prog w) A (getItem (.ref t) (.ref sl)) Q E s:=by
 have htake:sizeOk (.seq ((items.toList.drop (sIx items.size 0 lo)).take (sIx items.size items.size hi-sIx items.size 0 lo)).toArray):=by
  show((items.toList.drop (sIx items.size 0 lo)).take (sIx items.size items.size hi-sIx items.size 0 lo)).toArray.size<=sizeLine
  rw[AC,DR,List.length_drop,BX]
  lia
 have hj:sIx items.size items.size hi<=items.size:=Dr _ _ (AH _) hi
 obtain⟨os,hos,hcs,hds⟩:=id hs
 have hTs:s.TypeIs (.ref sl) "slice":=⟨os,hos,hcs⟩
 unfold getItem
 try with_reducible refine DD ?_
 first | refine AB (AJ ?_) | skip
 refine AB (wpAny_sequenceKey ht.typeIs (by decide) ?_)
 refine AB (BS (name:=Str.ofString "__getitem__") ht.typeIs BC
  (CP BC ht.typeIs entry_tuple_getitem ?_ (args_tuple_getitem _ _)))
 show wpAny _ _ (Builtin.Tuple.tupleItemsOf (.ref t)>>=_) _ _ s
 refine AB (tupleItemsOf_ ht ?_)
 refine AB (wpAny_typeOf hTs ?_)
 rw[if_pos (by decide)]
 refine AB (d0 hs pl pu ?_)
 have hno:¬((((sIx items.size 0 lo:Nat):Int)==0&&(1:Int)==1&&(sIx items.size items.size hi-sIx items.size 0 lo)==items.size)=true):=by
  intro q
  rw[AS,AS]at q
  have q1:((sIx items.size 0 lo:Nat):Int)=0:=eq_of_beq q.1.1
  have q2:sIx items.size items.size hi-sIx items.size 0 lo=items.size:=eq_of_beq q.2
  exact hw ⟨by lia,by lia⟩
 show wpAny _ _ (if(((sIx items.size 0 lo:Nat):Int)==0&&(1:Int)==1&&(sIx items.size items.size hi-sIx items.size 0 lo)==items.size)=true then _ else _) _ _ s
 rw[if_neg hno,wa]
 first
  | exact AB (m:=Builtin.Tuple.tupleExact _) (CD (AJ ⟨_,rfl,AJ h⟩) htake)
  | exact AB (m:=Builtin.Tuple.tupleExact _) (CD (AB (AJ (AJ ⟨_,rfl,AJ h⟩))) htake)
  | exact AB (AB (m:=Builtin.Tuple.tupleExact _) (CD (AJ (AJ ⟨_,rfl,AJ h⟩)) htake))
  | exact AB (AB (m:=Builtin.Tuple.tupleExact _) (CD (AJ ⟨_,rfl,AJ h⟩) htake))
end
end HT
namespace L2
open PySem PySem.Spec PyProof.Rows
abbrev TO:=St->Hp->(Option Int->Hp->Prop)->Prop
def PO (X:Cx) (e:Option Expr) (t:TO):Prop :=
 ∀(pins:List (Addr×Obj)) (s:Shared) (σ:St) (H:Hp) (Q:Option Int->Hp->Prop),Inv X pins σ H s->t σ H Q ->
  wpAny (model X.prog X.w) X.A (evalPart e X.env) (λu s'=>∃o H',Inv X pins σ H' s'/\IsPart u o/\Q o H') X.xe s
def tNoPart:TO:=λ_ H Q=>Q none H
def Hs (t:TE):TO:=λσ H Q=>t σ H λx H1=>∃i,x=.int i/\Q (some i) H1
theorem intsAre_of {ns:List Int}:∀{us:List Value},ay (ns.map V.int) us->IntsAre us ns:=by
 induction ns with
 | nil=>intro us r;rw[CI]at r;cases r;exact .nil
 | cons n ns ih =>
  intro us r
  rw[AQ]at r
  cases r with
  | cons r1 r2 =>
   obtain⟨t,e⟩:=r1
   subst e
   exact .cons n t (ih r2)
section
variable {X : Cx} {e : Expr} {te : TE} {lo hi : Option Expr} {tl th : TO} {pos p2 : Pos}
theorem A6:PO X none tNoPart:=by
 intro pins s σ H Q I h
 rw[evalPart_none]
 exact AJ ⟨none,H,I,.none,h⟩
theorem A7 (h:PE X e te):PO X (some e) (Hs te):=by
 intro pins s σ H Q I hw
 rw[evalPart_some]
 refine thn (h pins s σ H _ I hw) λu s1 ⟨x,H1,I1,r1,q1⟩=>?_
 obtain⟨i,rfl,q⟩:=q1
 obtain⟨t,rfl⟩:=r1
 exact⟨some i,H1,I1,.int i t,q⟩
def SlR (X:Cx) (r:V->Option Int->Option Int->Hp->VK->Prop):Prop :=
 ∀(pins:List (Addr×Obj)) (s:Shared) (σ:St) (H:Hp) (x:V) (v vl vu:Value) (lo hi:Option Int) (sl:Addr) (Q:VK),Inv X pins σ H s->RelV x v->s.heap.IsSliceOf sl vl vu .none->IsPart vl lo->IsPart vu hi->r x lo hi H Q ->
  ∃T id,typeLookup (.type T) "__getitem__"=pure (some (.builtin id))/\s.TypeIs v T/\wpAny (model X.prog X.w) X.A (getItem v (.ref sl)) (EP X pins σ Q) X.xe s
def tSl (r:V->Option Int->Option Int->Hp->VK->Prop) (te:TE) (tl th:TO):TE:=λσ H Q=>te σ H λx H1=>tl σ H1 λl H2=>th σ H2 λu H3=>r x l u H3 Q
theorem wb {r:V->Option Int->Option Int->Hp->VK->Prop} (hr:SlR X r) (he:PE X e te) (hl:PO X lo tl) (hu:PO X hi th):PE X (.Subscript e (.Slice lo hi none p2) pos) (tSl r te tl th):=by
 intro pins s σ H Q I h
 refine Subscript_ (thn (he pins s σ H _ I h) λv s1 ⟨x,H1,I1,r1,q1⟩=>?_)
 refine wpAny_Slice (thn (hl pins s1 σ H1 _ I1 q1) λvl s2 ⟨l,H2,I2,pl,q2⟩=>thn (hu pins s2 σ H2 _ I2 q2) λvu s3 ⟨u,H3,I3,pu,q3⟩=>?_)
 rw[evalPart_none]
 refine AJ ?_
 have I4:Inv X pins σ H3 {s3 with heap:=s3.heap.push {cls:=.type "slice",data:=.fields #[vl,vu,.none]}}:=I3.kept (t':=s3.toks) λb ob q=>AE _ q
 obtain⟨T,id,hT,ht,hg⟩:=hr pins {s3 with heap:=s3.heap.push {cls:=.type "slice",data:=.fields #[vl,vu,.none]}} σ H3 x v vl vu l u s3.heap.objs.size Q I4 r1 (Heap.IsSliceOf.new ..) pl pu q3
 show wpAny (model X.prog X.w) X.A (subscriptTail e (.Slice lo hi none p2) v (.ref s3.heap.objs.size)) (EP X pins σ Q) X.xe {s3 with heap:=s3.heap.push {cls:=.type "slice",data:=.fields #[vl,vu,.none]}}
 exact tail_any (ops:=[.ref s3.heap.objs.size,v]) ht hT hg (by with_unfolding_all rfl)
def yv (xs:List V) (lo hi:Option Int):List V:=(xs.drop (HT.sIx xs.length 0 lo)).take (HT.sIx xs.length xs.length hi-HT.sIx xs.length 0 lo)
theorem ic (xs:List V) (lo hi:Option Int):(yv xs lo hi).length<=xs.length:=by
 unfold yv
 rw[DR,List.length_drop]
 lia
def K8 (K:PySem.W.Frag):V->Option Int->Option Int->Hp->VK->Prop:=λx lo hi H Q=>∃a xs,x=.ref a/\SqT K H a xs /\
 ¬(HT.sIx xs.length 0 lo=0/\HT.sIx xs.length xs.length hi=xs.length)/\∀p,H p=none->Q (.ref p) (upd H p (.tup (yv xs lo hi)))
theorem Ds:SlR X (K8 X.K):=by
 intro pins s σ H x v vl vu lo hi sl Q I rx hs pl pu h
 obtain⟨a,xs,rfl,hx,hw,q⟩:=h
 cases rx
 obtain⟨its,r,ht,hz⟩:=I.tuple hx
 have hlen:its.toArray.size=xs.length:=by rw[AC];exact r.length.symm
 refine⟨"tuple",_,BC.lookup,ht.typeIs,?_⟩
 refine HT.gr ht hs pl pu (by rw[hlen];exact hw) ?_ (by rw[hlen];exact hz)
 rw[hlen]
 refine⟨.ref s.heap.objs.size,_,I.laid (t':=s.toks) (o:=.tup (yv xs lo hi)) (λb ob q=>AE _ q) (AH _) ?_,rfl,q _ (I.hok.fresh (AH _))⟩
 exact⟨CC (ic xs lo hi) hz,_,(r.drop (HT.sIx xs.length 0 lo)).take (HT.sIx xs.length xs.length hi-HT.sIx xs.length 0 lo),g5.new _ _⟩
def K9 (K:PySem.W.Frag):R2:=λx y H Q=>∃a b ns ms,x=.ref a/\y=.ref b/\SqT K H a (ns.map V.int)/\SqT K H b (ms.map V.int)/\Q (.bl (HT.lexLt ns ms)) H
theorem Dt (hu:X.A.units<cLine):OpR X (compareOp .Lt) (K9 X.K):=by
 intro pins s σ H x y v u Q I rx ry h
 obtain⟨a,b,ns,ms,rfl,rfl,ha,hb,q⟩:=h
 cases rx
 cases ry
 obtain⟨its,r1,p1,_⟩:=I.tuple ha
 obtain⟨its2,r2,p2,_⟩:=I.tuple hb
 have i1:IntsAre its.toArray.toList ns:=intsAre_of r1
 have i2:IntsAre its2.toArray.toList ms:=intsAre_of r2
 exact HT.pq p1 p2 i1 i2 hu ⟨.bl (HT.lexLt ns ms),H,I,rfl,q⟩
def Ht (K:PySem.W.Frag):R2:=λx y H Q=>∃a b xs ys,x=.ref a/\y=.ref b/\SqT K H a xs/\SqT K H b ys/\xs≠[]/\xs.length+ys.length<=sizeLine /\
 (ys=[]->Q (.ref a) H)/\(ys≠[]->∀p,H p=none->Q (.ref p) (upd H p (.tup (xs++ys))))
theorem ay.nil_iff {xs:List V} {us:List Value} (r:ay xs us):us=[]↔xs=[]:=by
 cases r with
 | nil=>simp
 | cons _ _=>simp
theorem A8:OpR X (binaryOp .Add) (Ht X.K):=by
 intro pins s σ H x y v u Q I rx ry h
 obtain⟨a,b,xs,ys,rfl,rfl,ha,hb,hx,hz,q1,q2⟩:=h
 cases rx
 cases ry
 obtain⟨its,r1,p1,_⟩:=I.tuple ha
 obtain⟨its2,r2,p2,_⟩:=I.tuple hb
 refine HT.A5 p1 p2 (λz=>hx (r1.nil_iff.mp z)) (λz=>⟨.ref a,H,I,rfl,q1 (r2.nil_iff.mp z)⟩) (λz=>?_) (by rw[<-r1.length,<-r2.length];exact hz)
 refine⟨.ref s.heap.objs.size,_,I.laid (t':=s.toks) (o:=.tup (xs++ys)) (λb ob q=>AE _ q) (AH _) ?_,rfl,q2 (λw=>z (r2.nil_iff.mpr w)) _ (I.hok.fresh (AH _))⟩
 exact⟨by rw[BH];exact hz,_,r1.append r2,g5.new _ _⟩
end
def ixN (n:Nat) (i:Int):Option Nat:=if 0<=i then(if i<n then some i.toNat else none)else if -(n:Int)<=i then some (i+n).toNat else none
def atI {α:Type} (xs:List α) (i:Int):Option α:=(ixN xs.length i).bind λj=>xs[j]?
theorem rq {n:Nat} {i:Int} {j:Nat} (h:ixN n i=some j):seqIndex? i n=some j/\j<n /\ -(n:Int)<=i/\i<n:=by
 unfold ixN at h
 by_cases h0:0<=i
 ·rw[if_pos h0]at h
  by_cases h1:i<n
  ·rw[if_pos h1]at h
   have e:i.toNat=j:=AX h
   exact⟨by rw[seqIndex_of h0 h1,e],by lia,by lia,h1⟩
  ·rw[if_neg h1]at h;cases h
 ·rw[if_neg h0]at h
  by_cases h1:-(n:Int)<=i
  ·rw[if_pos h1]at h
   have e:(i+n).toNat=j:=AX h
   exact⟨by rw[seqIndex_neg (by lia) h1,e],by lia,h1,by lia⟩
  ·rw[if_neg h1]at h;cases h
theorem mq {α:Type} {xs:List α} {i:Int} {v:α} (h:atI xs i=some v):∃j,seqIndex? i xs.length=some j/\xs[j]? = some v/\j<xs.length /\ -(xs.length:Int)<=i/\i<xs.length:=by
 unfold atI at h
 cases e:ixN xs.length i with
 | none=>rw[e]at h;cases h
 | some j =>
  rw[e]at h
  obtain⟨h1,h2,h3,h4⟩:=rq e
  exact⟨j,h1,h,h2,h3,h4⟩
def mr (b:Expr):Prop:=∀o i,subscripted b false o i=operate [o,i] (getItem o i)
def IxR (X:Cx) (r:R2):Prop :=
 ∀(value slice:Expr) (pins:List (Addr×Obj)) (s:Shared) (σ:St) (H:Hp) (x y:V) (v u:Value) (Q:VK),Inv X pins σ H s->RelV x v->RelV y u->r x y H Q ->
  subscripted slice false v u=operate [v,u] (getItem v u)->wpAny (model X.prog X.w) X.A (subscriptTail value slice v u) (EP X pins σ Q) X.xe s
def MtR (X:Cx) (id:String) (r:V->List V->Hp->VK->Prop):Prop :=
 ∀(pins:List (Addr×Obj)) (s:Shared) (σ:St) (H:Hp) (x:V) (xs:List V) (v:Value) (us:List Value) (Q:VK),Inv X pins σ H s->RelV x v->ay xs us->r x xs H Q ->
  wpAny (model X.prog X.w) X.A (call (.builtin id) (v::us)) (EP X pins σ Q) X.xe s
section
variable {X : Cx} {a b : Expr} {ta tb : TE} {pos : Pos}
theorem IxR.or {r r':R2} (h:IxR X r) (h':IxR X r'):IxR X (λx y H Q=>r x y H Q\/r' x y H Q):=by
 intro value slice pins s σ H x y v u Q I rx ry q hs
 rcases q with q | q
 ·exact h value slice pins s σ H x y v u Q I rx ry q hs
 ·exact h' value slice pins s σ H x y v u Q I rx ry q hs
theorem Hu {r:R2} (hr:IxR X r) (ha:PE X a ta) (hb:PE X b tb) (hs:mr b):PE X (.Subscript a b pos) (tOp r ta tb):=by
 intro pins s σ H Q I h
 exact Subscript_ (Jy ha hb I h λv u s2 x y H2 I2 rx ry q=>hr a b pins s2 σ H2 x y v u Q I2 rx ry q (hs _ _))
def J2 (K:PySem.W.Frag):R2:=λx y H Q=>∃p xs i v,x=.ref p/\y=.int i/\SqL K H p xs/\atI xs i=some v/\Q v H
def J3 (K:PySem.W.Frag):R2:=λx y H Q=>∃p xs i v,x=.ref p/\y=.int i/\SqT K H p xs/\atI xs i=some v/\Q v H
def rIxS:R2:=λx y H Q=>∃z i c,x=.str z/\y=.int i/\z.length<=sizeLine/\atI z.cps.toList i=some c/\Q (.str ⟨#[c]⟩) H
theorem A9:IxR X (J2 X.K):=by
 intro value slice pins s σ H x y v u Q I rx ry h hs
 obtain⟨p,xs,i,z,rfl,rfl,hq,he,q⟩:=h
 cases rx
 obtain⟨t,rfl⟩:=ry
 obtain⟨its,r,pl,hz⟩:=I.list hq
 obtain⟨j,h1,h2,h3,h4,h5⟩:=mq he
 obtain⟨w,ew,rw'⟩:=r.get h2
 have hl:=r.length
 have hn:=jm
 have fin:EP X pins σ Q w s:=⟨z,H,I,rw',q⟩
 by_cases h0:0<=i
 ·have hj:i.toNat=j:=by
   rw[seqIndex_of h0 h5]at h1
   exact AX h1
  exact item_listR pl.isList h0 (by lia) (by rw[hj];simpa using ew) fin hs
 ·have hj:(i+(its.toArray.size:Int)).toNat=j:=by
   rw[seqIndex_neg (by lia) h4]at h1
   rw[AC,<-hl]
   exact AX h1
  exact subscriptTail_builtinR (x:=w) pl.isList.typeIs slot_list_getitem.lookup
   (wpAny_getItem_list_neg (Q:=λr s'=>r=w/\EP X pins σ Q r s') pl.isList (by lia) (by rw[AC]<;>lia) (by lia) (by rw[hj];simpa using ew) ⟨rfl,fin⟩) hs
theorem Du:IxR X (J3 X.K):=by
 intro value slice pins s σ H x y v u Q I rx ry h hs
 obtain⟨p,xs,i,z,rfl,rfl,hq,he,q⟩:=h
 cases rx
 obtain⟨t,rfl⟩:=ry
 obtain⟨its,r,pl,hz⟩:=I.tuple hq
 obtain⟨j,h1,h2,h3,h4,h5⟩:=mq he
 obtain⟨w,ew,rw'⟩:=r.get h2
 have hl:=r.length
 have hn:=jm
 have fin:EP X pins σ Q w s:=⟨z,H,I,rw',q⟩
 exact subscriptTail_builtinR (x:=w) pl.typeIs slot_tuple_getitem.lookup
  (getItem_tuple (j:=j) (Q:=λr s'=>r=w/\EP X pins σ Q r s') pl (by lia) (by lia) (by rw[AC,<-hl];exact h1) (by simpa using ew) ⟨rfl,fin⟩) hs
theorem Dw:IxR X rIxS:=by
 intro value slice pins s σ H x y v u Q I rx ry h hs
 obtain⟨z,i,c,rfl,rfl,hz,he,q⟩:=h
 obtain⟨t,rfl⟩:=rx
 obtain⟨t',rfl⟩:=ry
 obtain⟨j,h1,h2,h3,h4,h5⟩:=mq he
 have hl:z.cps.toList.length=z.length:=by simp[Str.length]
 rw[hl]at h1 h4 h5
 have hn:=jm
 exact tail_any (typeIs_str s z t) slot_str_getitem.lookup (getItem_str (c:=c) (by
  have e1:decide (i < -(2 ^ 63:Int))=false:=decide_eq_false (by lia)
  have e2:decide (i≥2 ^ 63)=false:=decide_eq_false (by lia)
  rw[e1,e2,Bool.or_false]) (by rw[h1];simpa using h2) ⟨.str ⟨#[c]⟩,H,I.tok _,⟨_,rfl⟩,q⟩) hs
def rIx (K:PySem.W.Frag):R2:=λx y H Q=>J2 K x y H Q\/J3 K x y H Q\/rIxS x y H Q
theorem Dx:IxR X (rIx X.K):=A9.or (Du.or Dw)
theorem p7 (its:List Value) (n j:Nat) (u:Value):Obj.mapSeq (·.setIfInBounds j u) {cls:=.type "list",data:=.seq its.toArray n}={cls:=.type "list",data:=.seq (its.set j u).toArray n}:=by
 simp[Obj.mapSeq]
theorem Inv.lst {pins:List (Addr×Obj)} {σ:St} {H:Hp} {s:Shared} {p:Addr} {xs:List V} (I:Inv X pins σ H s) (h:H p=some (.lst xs)) :
  ∃(its:List Value) (n:Nat),ay xs its/\s.heap.get? p=some {cls:=.type "list",data:=.seq its.toArray n}/\xs.length<=sizeLine:=by
 obtain⟨z,its,n,r,e⟩:=I.hok p _ h
 exact⟨its,n,r,e,z⟩
theorem Inv.lstUpd {pins:List (Addr×Obj)} {σ:St} {H:Hp} {s:Shared} {p:Addr} {xs ys:List V} {its its':List Value} {n n':Nat} {f:Obj->Obj} (I:Inv X pins σ H s) (h:H p=some (.lst xs))
  (ho:s.heap.get? p=some {cls:=.type "list",data:=.seq its.toArray n}) (hf:f {cls:=.type "list",data:=.seq its.toArray n}={cls:=.type "list",data:=.seq its'.toArray n'}) (r:ay ys its') (hz:ys.length<=sizeLine) (t:Nat) :
  Inv X pins σ (upd H p (.lst ys)) {s with heap:=s.heap.update p f,toks:=t}:=by
 have e:(s.heap.update p f).get? p=some {cls:=.type "list",data:=.seq its'.toArray n'}:=by
  rw[FO f ho (by rw[hf]<;>rfl),hf]
 refine I.write (x:=p) (e:=p) (by rw[h];trivial) (.inl rfl) (λb u hb q=>(FH _ _ (Ne.symm hb)).trans q) ⟨_,e⟩ ?_
 exact⟨hz,its',n',r,e⟩
def rSetL:V->V->V->Hp->(Hp->Prop)->Prop:=λo i v H Q=>∃p xs k j,o=.ref p/\i=.int k/\H p=some (.lst xs)/\ixN xs.length k=some j/\Q (upd H p (.lst (xs.set j v)))
theorem set_list:G0 X rSetL:=by
 intro pins s σ H o i v ov iv u Q I ro ri rv h
 obtain⟨p,xs,k,j,rfl,rfl,hp,hj,q⟩:=h
 cases ro
 obtain⟨t,rfl⟩:=ri
 obtain⟨its,n,r,ho,hz⟩:=I.lst hp
 obtain⟨h1,h2,h3,h4⟩:=rq hj
 have hl:=r.length
 have hn:=jm
 have I':Inv X pins σ (upd H p (.lst (xs.set j v))) {s with heap:=s.heap.update p (Obj.mapSeq (·.setIfInBounds j u))} :=
  I.lstUpd hp ho (p7 its n j u) (r.set rv j) (by rw[List.length_set];exact hz) s.toks
 by_cases h0:0<=k
 ·have hk:k.toNat=j:=by
   rw[seqIndex_of h0 h4]at h1
   exact AX h1
  exact PySem.W.ki_setAt ho h0 (by lia) (by rw[AC,<-hl];exact h4) (by rw[hk];exact⟨_,I',q⟩)
 ·have hk:(k+(its.toArray.size:Int)).toNat=j:=by
   rw[seqIndex_neg (by lia) h3]at h1
   rw[AC,<-hl]
   exact AX h1
  exact PySem.W.ki_setBack ho (by lia) (by rw[AC,<-hl];exact h3) (by lia) (by rw[hk];exact⟨_,I',q⟩)
theorem k6 (lo hi:Option Int) (n:Nat):(sliceBounds lo hi none n).1=((HT.sIx n 0 lo:Nat):Int)/\(sliceBounds lo hi none n).2.1=((HT.sIx n n hi:Nat):Int)/\(sliceBounds lo hi none n).2.2=1:=by
 refine⟨?_,?_,rfl⟩
 ·cases lo with
  | none=>simp[sliceBounds,HT.sIx]
  | some i =>
   simp![sliceBounds,HT.sIx,Option.getD_none,show(1:Int) > 0 by decide,if_true]
   by_cases h:i<0
   ·simp![h,if_true]<;>lia
   ·simp![h,if_false]<;>lia
 ·cases hi with
  | none=>simp[sliceBounds,HT.sIx]
  | some i =>
   simp![sliceBounds,HT.sIx,Option.getD_none,show(1:Int) > 0 by decide,if_true]
   by_cases h:i<0
   ·simp![h,if_true]<;>lia
   ·simp![h,if_false]<;>lia
theorem j0 (its:List Value) (lo hi:Option Int):slicePick its.toArray lo hi none=((its.drop (HT.sIx its.length 0 lo)).take (HT.sIx its.length its.length hi-HT.sIx its.length 0 lo)).toArray:=by
 obtain⟨h1,h2,h3⟩:=k6 lo hi its.toArray.size
 unfold slicePick
 rw[h1,h2,h3]
 simp![sliceRange_one,pick_run,AC]<;>rfl
def La (K:PySem.W.Frag):V->Option Int->Option Int->Hp->VK->Prop:=λx lo hi H Q=>∃a xs,x=.ref a/\SqL K H a xs/\∀p,H p=none->Q (.ref p) (upd H p (.lst (yv xs lo hi)))
theorem Ba:SlR X (La X.K):=by
 intro pins s σ H x v vl vu lo hi sl Q I rx hs pl pu h
 obtain⟨a,xs,rfl,hx,q⟩:=h
 cases rx
 obtain⟨its,r,ht,hz⟩:=I.list hx
 have hlen:=r.length
 refine⟨"list",_,slot_list_getitem.lookup,ht.isList.typeIs,?_⟩
 refine wpAny_getItem_list_slice ht.isList hs pl pu .none (by simp) ?_ (by rw[AC]<;>lia)
 rw[j0,<-hlen]
 refine⟨.ref s.heap.objs.size,_,I.laid (t':=s.toks) (o:=.lst (yv xs lo hi)) (λb ob q=>AE _ q) (AH _) ?_,rfl,q _ (I.hok.fresh (AH _))⟩
 exact⟨CC (ic xs lo hi) hz,_,0,(r.drop (HT.sIx xs.length 0 lo)).take (HT.sIx xs.length xs.length hi-HT.sIx xs.length 0 lo),AM _ rfl⟩
def jg:V->Bool
 | .non=>true
 | .bl _=>true
 | .int _=>true
 | .str _=>true
 | _=>false
def eqV:V->V->Bool
 | .non,.non=>true
 | .bl a,.bl b=>a==b
 | .bl a,.int b=>(if a then 1 else 0)==b
 | .int a,.bl b=>a==(if b then 1 else 0)
 | .int a,.int b=>a==b
 | .str a,.str b=>a==b
 | _,_=>false
theorem Dy {A:Around} {s:Shared} {y x:V} {u v:Value} (ry:RelV y u) (rx:RelV x v) (fy:jg y=true) (fx:jg x=true):SeqAt.EqAt A s u v (eqV y x):=by
 cases y with
 | non =>
  cases ry
  cases x with
  | non=>cases rx;exact SeqAt.EqAt.same _
  | bl b=>cases rx;exact SeqAt.EqAt.none_bool b
  | int b=>obtain⟨t,rfl⟩:=rx;exact SeqAt.EqAt.none_int b t
  | str b=>obtain⟨t,rfl⟩:=rx;exact SeqAt.EqAt.none_str b t
  | _=>exact absurd (show false=true from fx) AR
 | bl a =>
  cases ry
  cases x with
  | non=>cases rx;exact SeqAt.EqAt.bool_none a
  | bl b=>cases rx;exact SeqAt.EqAt.bool_bool a b
  | int b=>obtain⟨t,rfl⟩:=rx;exact SeqAt.EqAt.bool_int a b t
  | str b=>obtain⟨t,rfl⟩:=rx;exact SeqAt.EqAt.bool_str a b t
  | _=>exact absurd (show false=true from fx) AR
 | int a =>
  obtain⟨t',rfl⟩:=ry
  cases x with
  | non=>cases rx;exact SeqAt.EqAt.int_none a t'
  | bl b=>cases rx;exact SeqAt.EqAt.int_bool a t' b
  | int b=>obtain⟨t,rfl⟩:=rx;exact Gt a t' b t
  | str b=>obtain⟨t,rfl⟩:=rx;exact FY a t' b t
  | _=>exact absurd (show false=true from fx) AR
 | str a =>
  obtain⟨t',rfl⟩:=ry
  cases x with
  | non=>cases rx;exact SeqAt.EqAt.str_none a t'
  | bl b=>cases rx;exact SeqAt.EqAt.str_bool a t' b
  | int b=>obtain⟨t,rfl⟩:=rx;exact FZ a t' b t
  | str b=>obtain⟨t,rfl⟩:=rx;exact SeqAt.EqAt.str_str a t' b t
  | _=>exact absurd (show false=true from fx) AR
 | _=>exact absurd (show false=true from fy) AR
def eqU (x:V) (u:Value):Bool:=match u with
 | .none=>eqV .non x
 | .bool b=>eqV (.bl b) x
 | .int i _=>eqV (.int i) x
 | .str z _=>eqV (.str z) x
 | _=>false
theorem yw {x y:V} {u:Value} (r:RelV y u) (f:jg y=true):eqU x u=eqV y x:=by
 cases y with
 | non=>cases r;rfl
 | bl b=>cases r;rfl
 | int i=>obtain⟨t,rfl⟩:=r;rfl
 | str z=>obtain⟨t,rfl⟩:=r;rfl
 | _=>exact absurd (show false=true from f) AR
theorem ie {x:V}:∀{xs:List V} {us:List Value},ay xs us->xs.all jg=true->us.any (eqU x)=xs.any λy=>eqV y x
 | _,_,.nil,_=>rfl
 | y::xs,u::us,.cons r t,f=>by
  rw[BN,AS]at f
  rw[BV,BV,yw r f.1,ie t f.2]
theorem gi {A:Around} {s:Shared} {x:V} {v:Value} (rx:RelV x v) (fx:jg x=true):∀{xs:List V} {us:List Value},ay xs us->xs.all jg=true->∀u∈us,SeqAt.EqAt A s u v (eqU x u)
 | _,_,.nil,_=>λu hu=>by cases hu
 | y::xs,u::us,.cons r t,f=>λu' hu=>by
  rw[BN,AS]at f
  rcases AL.mp hu with rfl | hu
  ·rw[yw r f.1];exact Dy r rx f.1 fx
  ·exact gi rx fx t f.2 u' hu
def inV (x:V) (xs:List V):Bool:=xs.any λy=>eqV y x
def rIn (K:PySem.W.Frag) (neg:Bool):R2:=λx y H Q=>∃p xs,y=.ref p/\(SqL K H p xs\/SqT K H p xs)/\jg x=true/\xs.all jg=true/\Q (.bl (if neg then !inV x xs else inV x xs)) H
theorem rz:OpR X (compareOp .In) (rIn X.K false):=by
 intro pins s σ H x y v u Q I rx ry h
 obtain⟨p,xs,rfl,hq,fx,fs,q⟩:=h
 cases ry
 rcases hq with hq | hq
 ·obtain⟨its,r,pl,hz⟩:=I.list hq
  refine SeqAt.in_listAt (eqU x) pl.isList (λw hw=>gi rx fx r fs w (by simpa using hw)) ⟨.bl _,H,I,rfl,?_⟩
  rw[show its.toArray.any (eqU x)=its.any (eqU x)by simp,ie r fs]
  exact q
 ·obtain⟨its,r,pl,hz⟩:=I.tuple hq
  refine SeqAt.in_tupleAt (eqU x) pl (λw hw=>gi rx fx r fs w (by simpa using hw)) ⟨.bl _,H,I,rfl,?_⟩
  rw[show its.toArray.any (eqU x)=its.any (eqU x)by simp,ie r fs]
  exact q
theorem k7:OpR X (compareOp .NotIn) (rIn X.K true):=by
 intro pins s σ H x y v u Q I rx ry h
 obtain⟨p,xs,rfl,hq,fx,fs,q⟩:=h
 cases ry
 rcases hq with hq | hq
 ·obtain⟨its,r,pl,hz⟩:=I.list hq
  refine SeqAt.notIn_listAt (eqU x) pl.isList (λw hw=>gi rx fx r fs w (by simpa using hw)) ⟨.bl _,H,I,rfl,?_⟩
  rw[show its.toArray.any (eqU x)=its.any (eqU x)by simp,ie r fs]
  exact q
 ·obtain⟨its,r,pl,hz⟩:=I.tuple hq
  refine SeqAt.notIn_tupleAt (eqU x) pl (λw hw=>gi rx fx r fs w (by simpa using hw)) ⟨.bl _,H,I,rfl,?_⟩
  rw[show its.toArray.any (eqU x)=its.any (eqU x)by simp,ie r fs]
  exact q
theorem k8:bx X (.builtin "len") (λxs H Q=>∃p ys,xs=[.ref p]/\(SqL X.K H p ys\/SqT X.K H p ys)/\Q (.int ys.length) H):=by
 intro pins s σ H xs us Q I r h
 obtain⟨p,ys,rfl,hq,q⟩:=h
 obtain⟨u,rfl,rx⟩:=vals1 r
 cases rx
 have hn:=jm
 rcases hq with hq | hq
 ·obtain⟨its,r',pl,hz⟩:=I.list hq
  have hlen:=r'.length
  exact Calls.call_len_list pl.isList (by simp![AC]<;>lia) ⟨.int ys.length,H,I.tok _,⟨s.toks+1,by rw[AC,hlen]⟩,q⟩
 ·obtain⟨its,r',pl,hz⟩:=I.tuple hq
  have hlen:=r'.length
  exact len_tuple pl (by simp![AC]<;>lia) ⟨.int ys.length,H,I.tok _,⟨s.toks+1,by rw[AC,hlen]⟩,q⟩
theorem k9:bx X (.type "list") (λxs H Q=>∃p ys,xs=[.ref p]/\(SqL X.K H p ys\/SqT X.K H p ys)/\∀l,H l=none->Q (.ref l) (upd H l (.lst ys))):=by
 intro pins s σ H xs us Q I r h
 obtain⟨p,ys,rfl,hq,q⟩:=h
 obtain⟨u,rfl,rx⟩:=vals1 r
 cases rx
 have fin:∀(its:List Value),ay ys its->ys.length<=sizeLine->∀(h':Heap) (c':Nat),(∀b o',s.heap.get? b=some o'->h'.get? b=some o') ->
   h'.get? s.heap.objs.size=some {cls:=.type "list",dict:=none,data:=.seq its.toArray c',slots:=#[]}->EP X pins σ Q (.ref s.heap.objs.size) {s with heap:=h'}:=λits r' hz h' c' kp e =>
  ⟨.ref s.heap.objs.size,_,I.laid (t':=s.toks) kp (AH _) (show cw X.prog X.w _ h' _ (.lst ys)from⟨hz,its,c',r',e⟩),rfl,q _ (I.hok.fresh (AH _))⟩
 rcases hq with hq | hq
 ·obtain⟨its,r',pl,hz⟩:=I.list hq
  have hlen:=r'.length
  obtain⟨o,ho,hc,n,hd⟩:=pl.isList
  exact call_list_seq p (.inl rfl) ho hc hd (λh' c' kp e=>fin its r' hz h' c' kp e) (by simp![AC]<;>lia)
 ·obtain⟨its,r',pl,hz⟩:=I.tuple hq
  have hlen:=r'.length
  obtain⟨o,ho,hc,n,hd⟩:=pl
  exact call_list_seq p (.inr rfl) ho hc hd (λh' c' kp e=>fin its r' hz h' c' kp e) (by simp![AC]<;>lia)
theorem j3:bx X (.type "tuple") (λxs H Q=>∃p ys,xs=[.ref p]/\((SqL X.K H p ys/\∀l,H l=none->Q (.ref l) (upd H l (.tup ys)))\/(SqT X.K H p ys/\Q (.ref p) H))):=by
 intro pins s σ H xs us Q I r h
 obtain⟨p,ys,rfl,h⟩:=h
 obtain⟨u,rfl,rx⟩:=vals1 r
 cases rx
 rcases h with⟨hq,q⟩ | ⟨hq,q⟩
 ·obtain⟨its,r',pl,hz⟩:=I.list hq
  have hlen:=r'.length
  refine call_tuple_list pl.isList (λh' kp=>?_) (by simp![AC]<;>lia)
  have I1:Inv X pins σ H {s with heap:=h'}:=I.kept (t':=s.toks) kp
  have I2:Inv X pins σ (upd H h'.objs.size (.tup ys)) {s with heap:=h'.push {cls:=.type "tuple",data:=.seq its.toArray}} :=
   I1.laid (t':=s.toks) (λb o e=>AE _ e) (AH _) (show cw X.prog X.w _ _ _ (.tup ys)from⟨hz,its,r',g5.new _ _⟩)
  exact⟨.ref h'.objs.size,_,I2,rfl,q _ (I1.hok.fresh (AH _))⟩
 ·obtain⟨its,r',pl,hz⟩:=I.tuple hq
  exact call_tuple_same pl ⟨.ref p,H,I,rfl,q⟩
def tyV (K:PySem.W.Frag) (T:String) (x:V) (H:Hp):Prop:=match x with
 | .str _=>T="str"
 | .int _=>T="int"
 | .ref p=>(T="list"/\∃xs,SqL K H p xs)\/(T="tuple"/\∃o,K.lookup p=some o/\o.cls=.type "tuple"/\o.dict=none) \/
   (T="dict"/\((∃kvs,H p=some (.dK kvs))\/∃kvs,H p=some (.dT kvs)))\/(T="set"/\∃S n,H p=some (.set S n))
 | _=>False
theorem D0 {pins:List (Addr×Obj)} {σ:St} {H:Hp} {s:Shared} {T:String} {x:V} {v:Value} (I:Inv X pins σ H s) (r:RelV x v) (ty:tyV X.K T x H) :
  s.TypeIs v T/\∀a,v=.ref a->∃ob,s.heap.get? a=some ob/\ob.dict=none:=by
 cases x with
 | str z =>
  obtain⟨t,rfl⟩:=r
  cases(show T="str" from ty)
  exact⟨typeIs_str s z t,λ_ e=>nomatch e⟩
 | int i =>
  obtain⟨t,rfl⟩:=r
  cases(show T="int" from ty)
  exact⟨typeIs_int s i t,λ_ e=>nomatch e⟩
 | ref p =>
  cases r
  rcases ty with⟨rfl,xs,hq⟩ | ⟨rfl,o,hk,hc,hd⟩ | ⟨rfl,hk⟩ | ⟨rfl,S,n,hk⟩
  ·obtain⟨its,_,pl,_⟩:=I.list hq
   refine⟨pl.isList.typeIs,λa e=>?_⟩
   cases e
   obtain⟨o,n,e,c,hd,_⟩:=pl
   exact⟨o,e,hd⟩
  ·refine⟨⟨o,I.kIn p o hk,hc⟩,λa e=>?_⟩
   cases e
   exact⟨o,I.kIn _ o hk,hd⟩
  ·have z:∃o,s.heap.get? p=some o/\o.ExactDict:=by
    rcases hk with⟨kvs,hk⟩ | ⟨kvs,hk⟩
    ·obtain⟨_,_,_,_,o,_,_,e,ex,_⟩:=I.hok p _ hk
     exact⟨o,e,ex⟩
    ·obtain⟨_,_,_,_,o,_,_,e,ex,_⟩:=I.hok p _ hk
     exact⟨o,e,ex⟩
   obtain⟨o,e,ex⟩:=z
   refine⟨⟨o,e,ex.1⟩,λa e2=>?_⟩
   cases e2
   exact⟨o,e,ex.2.1⟩
  ·obtain⟨o,_,_,_,e,ex,_⟩:=I.hok p _ hk
   refine⟨⟨o,e,ex.1⟩,λa e2=>?_⟩
   cases e2
   exact⟨o,e,ex.2.1⟩
 | _=>exact False.elim ty
def tBM (K:PySem.W.Frag) (T:String) (r:V->List V->Hp->VK->Prop) (to:TE) (t:TA):TE:=λσ H Q=>to σ H λx H1=>tyV K T x H1/\t σ H1 λxs H2=>r x xs H2 Q
variable {o e : Expr} {es : List Expr} {to : TE} {t : TA} {name : Str} {apos cpos : Pos} {T id : String} {r : V -> List V -> Hp -> VK -> Prop}
theorem Bb (pa:PlainAttrs T) (slot:Slot T name id) (hty:typeOf (.builtin id)=pure (.type "method_descriptor")) (hm:MtR X id r) (ho:PE X o to) (ha:PA X (e::es) t)
  (hbase:attributeBase o name X.env (eval o X.env)=eval o X.env:=by rfl)
  (hfew:((backTo cpos (starEach (e::es) X.env)).all (λx=>!x.1)&&(backToKw cpos (keywordEach [] X.env)).all (λx=>x.1.isSome)
   && decide ((e::es).length+([]:List Keyword).length+(if([]:List Keyword).isEmpty then 0 else 1)<30))=true:=by rfl)
  (hline:(apos.endLine==cpos.line)=true:=by rfl) (hs:starEach (e::es) X.env=(false,eval e X.env)::starEach es X.env:=by rfl) (hplain:(backTo cpos (starEach es X.env)).any (·.1)=false:=by rfl) :
  PE X (.Call (.Attribute o name apos) (e::es) [] cpos) (tBM X.K T r to t):=by
 intro pins s σ H Q I h
 refine wpAny_Call_method_late hbase hfew hline rfl (thn (ho pins s σ H _ I h) λv s1 ⟨x,H1,I1,r1,ty,q1⟩=>?_)
 obtain⟨h1,h2⟩:=D0 I1 r1 ty
 refine⟨T,id,pa,slot,hty,h1,h2,?_⟩
 have hA:=ha cpos pins s1 σ H1 _ I1 q1
 rw[hs]at hA ⊢
 refine Calls.callWith_builtin (by show(false || (backTo cpos (starEach es X.env)).any (·.1))=false;rw[hplain]<;>rfl) (FU ?_)
 exact thn hA λus s2 ⟨vs,H2,I2,r2,q2⟩=>hm pins s2 σ H2 x vs v us Q I2 r1 r2 q2
end
def MtM (X:Cx) (id:String) (r:V->List V->Hp->VK->Prop):Prop :=
 ∀(pins:List (Addr×Obj)) (s:Shared) (σ:St) (H:Hp) (x:V) (xs:List V) (v:Value) (us:List Value) (Q:VK),Inv X pins σ H s->RelV x v->ay xs us->r x xs H Q ->
  wpAny (model X.prog X.w) X.A (call (.builtin id) (v::us)) (EP X pins σ Q) X.xe s
theorem ay.one:∀{x:V} {us:List Value},ay [x] us->∃u,us=[u]/\RelV x u
 | _,_,.cons r .nil=>⟨_,rfl,r⟩
theorem ay.zero:∀{us:List Value},ay [] us->us=[]
 | _,.nil=>rfl
theorem ay.dropLast {xs:List V} {us:List Value} (h:ay xs us):ay xs.dropLast us.dropLast:=by
 induction h with
 | nil=>exact .nil
 | cons r t ih =>
  cases t with
  | nil=>exact .nil
  | cons q t'=>exact .cons r ih
theorem ay.eraseIdx:∀{xs:List V} {us:List Value} (i:Nat),ay xs us->ay (xs.eraseIdx i) (us.eraseIdx i)
 | _,_,_,.nil=>.nil
 | _,_,0,.cons _ t=>t
 | _,_,i+1,.cons r t=>.cons r (ay.eraseIdx i t)
theorem ay.rep {xs:List V} {us:List Value} (h:ay xs us):∀k:Nat,ay (List.replicate k xs).flatten (List.replicate k us).flatten
 | 0=>.nil
 | k+1=>by
  rw[CH,CH,DB,DB]
  exact ay.append h (ay.rep h k)
theorem p8 {α:Type} (l:List α):l.eraseIdx (l.length-1)=l.dropLast:=by
 induction l with
 | nil=>rfl
 | cons a r ih =>
  cases r with
  | nil=>rfl
  | cons b r =>
   have e:(a::b::r).length-1=((b::r).length-1)+1:=by
    have h1:(a::b::r).length=r.length+2:=rfl
    have h2:(b::r).length=r.length+1:=rfl
    lia
   rw[e,DJ,ih]
   all_goals rfl
theorem la {α:Type}:∀(l:List α) (i:Nat),(l.eraseIdx i).length<=l.length
 | [],_=>AH _
 | _::_,0=>Nat.le_succ _
 | _::r,i+1=>Nat.succ_le_succ (la r i)
theorem foldl_rep (its:List Value):∀(k:Nat) (acc:List Value),
  List.foldl (λx1 x2=>x1++x2) acc.toArray (List.replicate k its.toArray)=(acc++(List.replicate k its).flatten).toArray
 | 0,acc=>by simp
 | k+1,acc=>by
  have e:acc.toArray++its.toArray=(acc++its).toArray:=by simp
  have e2:(acc++its)++(List.replicate k its).flatten=acc++(List.replicate (k+1) its).flatten:=by
   rw[CH,DB,List.append_assoc]
  rw[<-e2,<-foldl_rep its k (acc++its),<-e,CH,List.foldl_cons]
section
variable {X : Cx} {pins : List (Addr × Obj)} {σ : St} {H : Hp} {s : Shared} {l b : Addr} {xs ys zs : List V}
theorem Inv.lset {its its':List Value} {n:Nat} {f:Array Value->Array Value} {t':Nat} (I:Inv X pins σ H s) (hH:H l=some (.lst xs))
  (e:s.heap.get? l=some {cls:=.type "list",data:=.seq its.toArray n}) (hf:f its.toArray=its'.toArray) (hv:ay ys its') (hz:ys.length<=sizeLine) :
  Inv X pins σ (upd H l (.lst ys)) {s with heap:=s.heap.update l (Obj.mapSeq f),toks:=t'}:=by
 have q:=PySem.IsL.update e f
 rw[hf]at q
 refine I.write (x:=l) (e:=l) (by rw[hH];exact trivial) (.inl rfl) (λb' u hb hu=>(FH s.heap (Obj.mapSeq f) (Ne.symm hb)).trans hu) ⟨_,q⟩ ?_
 exact⟨hz,its',_,hv,q⟩
theorem Inv.lnew {its:List Value} {t':Nat} (I:Inv X pins σ H s) (hv:ay ys its) (hz:ys.length<=sizeLine) :
  Inv X pins σ (upd H s.heap.objs.size (.lst ys)) {s with heap:=s.heap.push {cls:=.type "list",data:=.seq its.toArray},toks:=t'} :=
 I.laid (λ_ _ q=>AE _ q) (AH _) ⟨hz,its,0,hv,AM _ rfl⟩
theorem Inv.fresh (I:Inv X pins σ H s):H s.heap.objs.size=none:=I.hok.fresh (AH _)
theorem Inv.lstM (I:Inv X pins σ H s) (hH:H l=some (.lst xs)):xs.length<=sizeLine/\∃(its:List Value) (n:Nat),ay xs its/\xs.length=its.length/\s.heap.get? l=some {cls:=.type "list",data:=.seq its.toArray n}:=by
 obtain⟨z,its,n,r,e⟩:=I.hok l _ hH
 exact⟨z,its,n,r,r.length,e⟩
theorem og {n:Nat} (h:n<=sizeLine):Builtin.List.listTooLong n=false:=by
 unfold Builtin.List.listTooLong
 exact decide_eq_false (by lia)
end
section
variable {X : Cx}
def rAppend:V->List V->Hp->VK->Prop:=λx vs H Q=>∃l xs y,x=.ref l/\vs=[y]/\H l=some (.lst xs)/\xs.length<sizeLine/\Q .non (upd H l (.lst (xs++[y])))
theorem r0:MtM X "list.append" rAppend:=by
 intro pins s σ H x vs v us Q I rx rv h
 obtain⟨l,xs,y,rfl,rfl,hH,hz,q⟩:=h
 cases rx
 obtain⟨u,rfl,ru⟩:=rv.one
 obtain⟨z,its,n,r,hl,e⟩:=I.lstM hH
 refine EE F.slot_list_append ⟨_,e,rfl⟩ F.entry_list_append (F.args_list_append_2 _ _) (PySem.list_append l its.toArray n u (by rw[AC];lia)) ⟨e,?_⟩
 refine⟨.non,_,I.lset (its':=its++[u]) hH e (by simp) (r.append (.cons ru .nil)) ?_,rfl,q⟩
 rw[BH,List.length_singleton]
 lia
def rPop:V->List V->Hp->VK->Prop:=λx vs H Q=>∃l xs y,x=.ref l/\vs=[]/\H l=some (.lst xs)/\xs[xs.length-1]? = some y/\Q y (upd H l (.lst xs.dropLast))
theorem D1:MtM X "list.pop" rPop:=by
 intro pins s σ H x vs v us Q I rx rv h
 obtain⟨l,xs,y,rfl,rfl,hH,hy,q⟩:=h
 cases rx
 have hus:=rv.zero
 subst hus
 obtain⟨z,its,n,r,hl,e⟩:=I.lstM hH
 obtain⟨u,hu,ru⟩:=r.get hy
 have hy':its.toArray[its.toArray.size-1]? = some u:=by
  show its.toArray[its.length-1]? = some u
  rw[<-FP,<-hl]
  exact hu
 refine EE FN ⟨_,e,rfl⟩ F.entry_list_pop (F.args_list_pop_1 _) (MeetsSeq.list_pop_last l its.toArray n u hy' (by rw[AC];lia)) ⟨e,?_⟩
 refine⟨y,_,I.lset (its':=its.dropLast) hH e ?_ r.dropLast ?_,ru,q⟩
 ·show its.toArray.eraseIdxIfInBounds (its.toArray.size-1)=its.dropLast.toArray
  rw[AC,DN,p8]
 ·rw[List.length_dropLast]
  lia
def rPopAt:V->List V->Hp->VK->Prop:=λx vs H Q=>∃l xs i k y,x=.ref l/\vs=[.int i]/\H l=some (.lst xs) /\ -(2 ^ 63)<=i/\i<2 ^ 63/\seqIndex? i xs.length=some k/\xs[k]? = some y/\Q y (upd H l (.lst (xs.eraseIdx k)))
theorem wc:MtM X "list.pop" rPopAt:=by
 intro pins s σ H x vs v us Q I rx rv h
 obtain⟨l,xs,i,k,y,rfl,rfl,hH,h1,h2,hk,hy,q⟩:=h
 cases rx
 obtain⟨u,rfl,ru⟩:=rv.one
 obtain⟨t,rfl⟩:=ru
 obtain⟨z,its,n,r,hl,e⟩:=I.lstM hH
 obtain⟨w,hw,rw'⟩:=r.get hy
 refine EE FN ⟨_,e,rfl⟩ F.entry_list_pop (F.args_list_pop_2 _ _)
  (MeetsSeq.list_pop_at l its.toArray n i t k w (fitsIndex_both h1 h2) (by rw[AC,<-hl];exact hk) (by rw[<-FP];exact hw) (by rw[AC];lia)) ⟨e,?_⟩
 refine⟨y,_,I.lset (its':=its.eraseIdx k) hH e ?_ (r.eraseIdx k) ?_,rw',q⟩
 ·show its.toArray.eraseIdxIfInBounds k=(its.eraseIdx k).toArray
  rw[DN]
 ·have:=la xs k
  lia
theorem len_rep {α:Type} (xs:List α) (k:Nat):(List.replicate k xs).flatten.length=k*xs.length:=by
 induction k with
 | zero=>simp
 | succ k ih=>rw[CH,DB,BH,ih,Nat.succ_mul,Nat.add_comm]
end
section
variable {κ : Type} [DecidableEq κ]
def oh (kvs:List (κ×V)) (k:κ):Option V:=(kvs.find? λkv=>decide (kv.1=k)).map (·.2)
def putK (kvs:List (κ×V)) (k:κ) (v:V):List (κ×V) :=
 if(kvs.any λkv=>decide (kv.1=k))=true then kvs.map (λkv=>if kv.1=k then(kv.1,v)else kv)else kvs++[(k,v)]
theorem g7 {p:κ×V} {r:List (κ×V)} {k:κ} (e:p.1=k):oh (p::r) k=some p.2:=by simp[oh,CZ,e]
theorem g8 {p:κ×V} {r:List (κ×V)} {k:κ} (e:¬p.1=k):oh (p::r) k=oh r k:=by simp[oh,CZ,e]
theorem oi (k:κ):∀kvs:List (κ×V),(kvs.any λkv=>decide (kv.1=k))=(oh kvs k).isSome
 | []=>rfl
 | p::r=>by
  rw[BV]
  by_cases e:p.1=k
  ·simp![g7 e,decide_eq_true e,Bool.true_or,Option.isSome_some]
  ·rw[g8 e,decide_eq_false e,Bool.false_or];exact oi k r
theorem ig (kvs:List (κ×V)) (k:κ) (v:V):(putK kvs k v).length<=kvs.length+1:=by
 unfold putK
 split
 ·rw[AZ];lia
 ·rw[BH,AV,BP];lia
theorem Cr.isSome_eq {o:Option V} {u:Option Value} (r:Cr o u):o.isSome=u.isSome:=by
 cases o with
 | none=>cases u with
  | none=>rfl
  | some _=>exact(show False from r).elim
 | some _=>cases u with
  | none=>exact(show False from r).elim
  | some _=>rfl
theorem KV.val {kvs:List (κ×V)} {vs:List (κ×Value)} (r:KV kvs vs) (k:κ):Cr (oh kvs k) (valueAt vs k):=by
 unfold KV at r
 induction r with
 | nil=>exact True.intro
 | @cons p q ps qs h t ih =>
  obtain⟨h1,h2⟩:=h
  by_cases e:p.1=k
  ·have e':q.1=k:=h1.symm.trans e
   have b:valueAt (q::qs) k=some q.2:=by simp[valueAt,CZ,e']
   rw[g7 e,b];exact h2
  ·have e':¬q.1=k:=λz=>e (h1.trans z)
   have b:valueAt (q::qs) k=valueAt qs k:=by simp[valueAt,CZ,e']
   rw[g8 e,b];exact ih
theorem KV.any {kvs:List (κ×V)} {vs:List (κ×Value)} (r:KV kvs vs) (k:κ):(kvs.any λkv=>decide (kv.1=k))=vs.any λkv=>decide (kv.1=k):=by
 unfold KV at r
 induction r with
 | nil=>rfl
 | cons h t ih=>rw[BV,BV,ih,h.1]
theorem KV.repl {kvs:List (κ×V)} {vs:List (κ×Value)} (r:KV kvs vs) (k:κ) {y:V} {u:Value} (ry:RelV y u) :
  KV (kvs.map λkv=>if kv.1=k then(kv.1,y)else kv) (vs.map λkv=>if kv.1=k then(kv.1,u)else kv):=by
 unfold KV at r ⊢
 induction r with
 | nil=>exact .nil
 | @cons p q ps qs h t ih =>
  rw[AQ,AQ]
  refine .cons ?_ ih
  obtain⟨h1,h2⟩:=h
  by_cases e:p.1=k
  ·rw[if_pos e,if_pos (h1.symm.trans e)];exact⟨h1,ry⟩
  ·rw[if_neg e,if_neg (λz=>e (h1.trans z))];exact⟨h1,h2⟩
theorem KV.put {kvs:List (κ×V)} {vs:List (κ×Value)} (r:KV kvs vs) (k:κ) {y:V} {u:Value} (ry:RelV y u):KV (putK kvs k y) (stored vs k u):=by
 unfold putK stored
 rw[r.any k]
 by_cases e:(vs.any λkv=>decide (kv.1=k))=true
 ·rw[if_pos e,if_pos e];exact r.repl k ry
 ·rw[if_neg e,if_neg e];exact Paired.snoc r ⟨rfl,ry⟩
theorem KV.length {kvs:List (κ×V)} {vs:List (κ×Value)} (r:KV kvs vs):kvs.length=vs.length:=DS r
end
theorem wd {P:Program} {w:World} {k:Key} {u:Value} (r:RelV (kV k) u):(bt P w).is k u=true:=by
 cases k with
 | inl i=>obtain⟨t,e⟩:=(show ∃t,u=Value.int i t from r);subst e;exact mm P w i t
 | inr x=>obtain⟨t,e⟩:=(show ∃t,u=Value.str x t from r);subst e;exact mn P w x t
theorem lb {P:Program} {w:World}:∀{ks:List Key} {us:List Value},ay (ks.map kV) us->ItemsAre (bt P w) ks us
 | [],_,r=>by rw[CI]at r;cases r;exact .nil
 | k::ks,_,r=>by
  rw[AQ]at r
  cases r with
  | cons h t=>exact .cons (wd h) (lb t)
abbrev KT (H:Hp):List (List Key×V)->List (List Key×Addr×Value)->Prop:=Paired λp q=>p.1=q.1/\H q.2.1=some (.tup (p.1.map kV))/\RelV p.2 q.2.2
theorem KT.val {H:Hp} {kvs:List (List Key×V)} {xs:List (List Key×Addr×Value)} (r:KT H kvs xs) (k:List Key):Cr (oh kvs k) ((atKey xs k).map (·.2)):=by
 induction r with
 | nil=>exact True.intro
 | @cons p q ps qs h t ih =>
  obtain⟨h1,_,h2⟩:=h
  by_cases e:p.1=k
  ·have e':q.1=k:=h1.symm.trans e
   have b:atKey (q::qs) k=some q.2:=by simp[atKey,CZ,e']
   rw[g7 e,b];exact h2
  ·have e':¬q.1=k:=λz=>e (h1.trans z)
   have b:atKey (q::qs) k=atKey qs k:=by simp[atKey,CZ,e']
   rw[g8 e,b];exact ih
theorem KT.repl {H:Hp} {kvs:List (List Key×V)} {xs:List (List Key×Addr×Value)} (r:KT H kvs xs) (k:List Key) {y:V} {u:Value} (ry:RelV y u) :
  KT H (kvs.map λkv=>if kv.1=k then(kv.1,y)else kv) (xs.map (putAt k u)):=by
 induction r with
 | nil=>exact .nil
 | @cons p q ps qs h t ih =>
  rw[AQ,AQ]
  refine .cons ?_ ih
  obtain⟨h1,h2,h3⟩:=h
  unfold putAt
  by_cases e:p.1=k
  ·rw[if_pos e,if_pos (h1.symm.trans e)];exact⟨h1,h2,ry⟩
  ·rw[if_neg e,if_neg (λz=>e (h1.trans z))];exact⟨h1,h2,h3⟩
theorem KT.put {H:Hp} {kvs:List (List Key×V)} {xs:List (List Key×Addr×Value)} (r:KT H kvs xs) (k:List Key) {b:Addr} {y:V} {u:Value} (hb:H b=some (.tup (k.map kV))) (ry:RelV y u) :
  KT H (putK kvs k y) (storedH xs k b u):=by
 have e:(kvs.any λkv=>decide (kv.1=k))=(atKey xs k).isSome:=by
  rw[oi,(r.val k).isSome_eq,EN]
 unfold putK storedH
 rw[e]
 by_cases q:(atKey xs k).isSome=true
 ·rw[if_pos q,if_pos q];exact r.repl k ry
 ·rw[if_neg q,if_neg q];exact Paired.snoc r ⟨rfl,hb,ry⟩
theorem KT.keeps {H H':Hp} {kvs:List (List Key×V)} {xs:List (List Key×Addr×Value)} (r:KT H kvs xs) (ht:∀b ys,H b=some (.tup ys)->H' b=some (.tup ys)):KT H' kvs xs :=
 Paired.mapP r λ_ _ z=>⟨z.1,ht _ _ z.2.1,z.2.2⟩
section
variable {P : Program} {w : World} {H : Hp} {h : Heap} {a : Addr}
theorem D2 {u:HO} (ok:HOk P w H h) (e:Rd H a u):cw P w H h a u:=e.ok ok
theorem Bc {kvs:List (Key×V)} (ok:HOk P w H h) (e:Rd H a (.dK kvs)):kvs.length<=sizeLine/\(a==sysModules)=false/\∃vs,KV kvs vs/\h.DictOf (bt P w) a vs :=
 show cw P w H h a (.dK kvs)from D2 ok e
theorem Hv {kvs:List (Key×V)} (ok:HOk P w H h) (e:H a=some (.dK kvs)):kvs.length<=sizeLine/\(a==sysModules)=false/\∃vs,KV kvs vs/\h.DictOf (bt P w) a vs:=Bc ok (.inl e)
theorem oj {ks:List Key} (ok:HOk P w H h) (e:H a=some (.tup (ks.map kV))):(tupleKind (bt P w)).is h ks a:=by
 obtain⟨_,its,r,o,h1,h2,_,n,h3⟩:=(show cw P w H h a (.tup (ks.map kV))from ok a _ e)
 exact⟨o,its.toArray,n,h1,h2,h3,by simpa using lb r⟩
theorem Bd {kvs:List (List Key×V)} (ok:HOk P w H h) (e:Rd H a (.dT kvs)):kvs.length<=sizeLine/\(a==sysModules)=false /\
  ∃xs,KT H kvs xs/\h.DictOfH (tupleKind (bt P w)) a xs:=by
 obtain⟨z,y,xs,r,o,es,ep,h1,h2,h3,h4,h5⟩:=(show cw P w H h a (.dT kvs)from D2 ok e)
 refine⟨z,y,xs,r,o,es,ep,h1,h2,h3,h4,λx hx=>?_,h5⟩
 have all:∀{l:List (List Key×V)} {m:List (List Key×Addr×Value)},KT H l m->∀x∈m,(tupleKind (bt P w)).is h x.1 x.2.1:=by
  intro l m q
  induction q with
  | nil=>intro x hx;exact nomatch hx
  | @cons p q ps qs hq t ih =>
   intro x hx
   rcases AL.mp hx with e | hx
   ·subst e
    exact oj ok (by rw[<-hq.1];exact hq.2.1)
   ·exact ih x hx
 exact all r x hx
theorem Hw {kvs:List (List Key×V)} (ok:HOk P w H h) (e:H a=some (.dT kvs)):kvs.length<=sizeLine/\(a==sysModules)=false /\
  ∃xs,KT H kvs xs/\h.DictOfH (tupleKind (bt P w)) a xs:=Bd ok (.inl e)
end
def Cs (H:Hp) (a:Addr) (y:V) (r:Option V):Prop :=
 (∃kvs k,Rd H a (.dK kvs)/\y=kV k/\r=oh kvs k)\/∃kvs k b,Rd H a (.dT kvs)/\y=.ref b/\H b=some (.tup (k.map kV))/\r=oh kvs k
def G2 (H:Hp) (a:Addr) (y v:V) (H':Hp):Prop :=
 (∃kvs k,H a=some (.dK kvs)/\y=kV k/\kvs.length<sizeLine/\H'=upd H a (.dK (putK kvs k v))) \/
 ∃kvs k b,H a=some (.dT kvs)/\y=.ref b/\H b=some (.tup (k.map kV))/\kvs.length<sizeLine/\H'=upd H a (.dT (putK kvs k v))
theorem Cs.k {H:Hp} {a:Addr} {kvs:List (Key×V)} {k:Key} (e:H a=some (.dK kvs)):Cs H a (kV k) (oh kvs k):=.inl ⟨kvs,k,.inl e,rfl,rfl⟩
theorem G2.k {H:Hp} {a:Addr} {kvs:List (Key×V)} {k:Key} {v:V} (e:H a=some (.dK kvs)) (hl:kvs.length<sizeLine):G2 H a (kV k) v (upd H a (.dK (putK kvs k v))):=.inl ⟨kvs,k,e,rfl,hl,rfl⟩
section
variable {X : Cx} {pins : List (Addr × Obj)} {σ : St} {H : Hp} {s : Shared} {a : Addr} {y v : V} {u r : Value} {o : Option V} {A : Around} {E : Value -> Shared -> Prop}
theorem Lb {Q:Value->Shared->Prop} (hu:A.units+1<cLine) (I:Inv X pins σ H s) (g:Cs H a y o) (ry:RelV y u) (h:∀s',Inv X pins σ H s'->Q (.bool o.isSome) s') :
  wpAny (model X.prog X.w) A (compareOp .In u (.ref a)) Q E s:=by
 rcases g with⟨kvs,k,e,ey,l⟩ | ⟨kvs,k,b,e,ey,eb,l⟩
 ·subst ey
  obtain⟨z,hd,vs,rel,dd⟩:=Bc I.hok e
  refine wpAny_in_of (wd ry) hd dd.mapOf ?_
  rw[<-(rel.val k).isSome_eq,<-l]
  exact h _ (I.tok _)
 ·subst ey
  cases(show u=Value.ref b from ry)
  obtain⟨z,hd,xs,rel,dd⟩:=Bd I.hok e
  refine wpAny_in_heap (EF hu) (oj I.hok eb) hd dd ?_
  have q:=(rel.val k).isSome_eq
  rw[EN]at q
  rw[<-q,<-l]
  exact h _ (I.tok _)
theorem Be {Q:Value->Shared->Prop} (hu:A.units+1<cLine) (I:Inv X pins σ H s) (g:Cs H a y o) (ry:RelV y u) (h:∀s',Inv X pins σ H s'->Q (.bool (!o.isSome)) s') :
  wpAny (model X.prog X.w) A (compareOp .NotIn u (.ref a)) Q E s:=by
 rcases g with⟨kvs,k,e,ey,l⟩ | ⟨kvs,k,b,e,ey,eb,l⟩
 ·subst ey
  obtain⟨z,hd,vs,rel,dd⟩:=Bc I.hok e
  refine wpAny_notIn_of (wd ry) hd dd.mapOf ?_
  rw[<-(rel.val k).isSome_eq,<-l]
  exact h _ (I.tok _)
 ·subst ey
  cases(show u=Value.ref b from ry)
  obtain⟨z,hd,xs,rel,dd⟩:=Bd I.hok e
  refine wpAny_notIn_heap (EF hu) (oj I.hok eb) hd dd ?_
  have q:=(rel.val k).isSome_eq
  rw[EN]at q
  rw[<-q,<-l]
  exact h _ (I.tok _)
theorem r6 {h':Heap} {t':Nat} {ob:HO} (I:Inv X pins σ H s) (mu:Mut (H a)) (hs:Heap.SameBut a s.heap h') (he:∃q,h'.get? a=some q) (new:cw X.prog X.w (upd H a ob) h' a ob) :
  Inv X pins σ (upd H a ob) {s with heap:=h',toks:=t'} :=
 I.write (x:=a) (e:=a) mu (.inl rfl) (λb q hb z=>(hs.2 b hb).trans z) he new
theorem D3 {P:Program} {w:World} {H':Hp} {h':Heap} {kvs:List (Key×V)} {vs:List (Key×Value)} (z:kvs.length<=sizeLine) (hd:(a==sysModules)=false) (rel:KV kvs vs) (dd:h'.DictOf (bt P w) a vs) :
  cw P w H' h' a (.dK kvs):=⟨z,hd,vs,rel,dd⟩
theorem r8 {H':Hp} {Q:Unit->Shared->Prop} (hu:A.units+1<cLine) (I:Inv X pins σ H s) (g:G2 H a y v H') (ry:RelV y u) (rv:RelV v r) (h:∀s',Inv X pins σ H' s'->Q () s') :
  wpAny (model X.prog X.w) A (setItem (.ref a) u r) Q E s:=by
 rcases g with⟨kvs,k,e,ey,l,eH⟩ | ⟨kvs,k,b,e,ey,eb,l,eH⟩
 ·subst ey eH
  obtain⟨z,hd,vs,rel,dd⟩:=Hv I.hok e
  have hz:vs.length<=sizeLine:=by rw[<-rel.length];exact z
  have hl:(putK kvs k v).length<=sizeLine:=by have:=ig kvs k v;lia
  refine wpAny_setItem_pairs (hsz:=hz) (wd ry) dd λh' dd' hs=>h _ ?_
  have he:∃q,h'.get? a=some q:=let ⟨q,_,_,hq,_⟩:=dd';⟨q,hq⟩
  exact r6 I (by rw[e];exact True.intro) hs he (D3 hl hd (rel.put k rv) dd')
 ·subst ey eH
  cases(show u=Value.ref b from ry)
  obtain⟨z,hd,xs,rel,dd⟩:=Hw I.hok e
  have hz:xs.length<=sizeLine:=by rw[<-DS rel];exact z
  have hl:(putK kvs k v).length<=sizeLine:=by have:=ig kvs k v;lia
  refine wpAny_setItem_heap (hsz:=hz) (EF hu) (oj I.hok eb) dd λh' dd' hs=>h _ ?_
  obtain⟨q,es,ep,hq,h2,h3,h4,_,h5⟩:=dd'
  refine r6 I (by rw[e];exact True.intro) hs ⟨q,hq⟩ ⟨hl,hd,_,(rel.put k eb rv).keeps λc ys ec=>?_,q,es,ep,hq,h2,h3,h4,h5⟩
  rw[aj (jf ec e (λz=>nomatch z))]
  exact ec
end
def IsD (H:Hp) (a:Addr):Prop:=(∃kvs,Rd H a (.dK kvs))\/∃kvs,Rd H a (.dT kvs)
end L2
namespace Att
open PySem PySem.W PySem.Calls PyProof.Rows
theorem ij {P:Params} {h:Heap}:∀(ns:List Int) (vs:List Value),WellAll P h vs (ns.map WData.int)->IntsAre vs ns:=by
 intro ns
 induction ns with
 | nil =>
  intro vs w
  rw[CI]at w
  cases w
  exact .nil
 | cons n ns ih =>
  intro vs w
  rw[AQ]at w
  cases w with
  | cons a b =>
   cases a
   exact .cons _ _ (ih _ b)
theorem r9 {l:OpenLaw} {n:Nat} (hn:l.most=some n) {P:Params} {h:Heap} {args:List WData} {vals:List Value}
  (hpre:l.row.toRowW.claim.pre args=true) (hwl:WellAll P h vals args) :
  ∃a vs ns,vals=[Value.ref a]/\args=[WData.list (ns.map WData.int)]/\h.get? a=some {cls:=.type "list",data:=.seq vs.toArray}/\IntsAre vs ns/\ns.length<=n:=by
 have hsh:WShape.hasAll [] args [.list .int]=true:=(pre_splitW hpre).1
 have hc:l.pre.holds [] {args:=args}=true:=(pre_splitW hpre).2
 obtain⟨d,r,rfl,h1,h2⟩:=hasAllW_cons hsh
 obtain rfl:=hasAllW_nil h2
 obtain⟨xs,rfl,h3⟩:=hasW_list h1
 obtain⟨ns,rfl⟩:=items_int h3
 have hlen:ns.length<=n:=by
  unfold OpenLaw.pre at hc
  have h4:(WTm.not (.lt (.lit (.int (n:Int))) (.len (.arg 0)))).holds [] {args:=[.list (ns.map .int)]}=true:=by
   have h4:=(holds_andW hc).1
   rw[hn]at h4
   exact h4
  have h5:=condW_of h4 (w_not (w_lt w_lit (w_len_list (w_arg rfl))))
  rw[AZ]at h5
  refine Nat.le_of_not_lt λq=>?_
  have q':(n:Int)<((ns.length:Nat):Int):=by lia
  first
   | (rw[decide_eq_true q']at h5;exact absurd h5 (by decide))
   | (simp at h5;lia)
 cases hwl with
 | cons w1 w2 =>
  cases w2
  cases w1 with
  | list ho hall=>exact⟨_,_,ns,rfl,rfl,ho,ij ns _ hall,hlen⟩
theorem sa (l:OpenLaw) (args:List WData):l.row.toRowW.claim.post args (.bool true) args=true :=
 postW_of (r:=l.row.toRowW) (X:=(true==true))
  (show WShape.has [] (.bool true) .bool=true by first | rfl | decide | simp[WShape.has,WShape.arms,WShape.armsAll])
  (show(WTm.eq .res (.lit (.bool true))).value [] {args:=args,res:=some (.bool true),after:=args}=some (.bool (true==true))from w_eq_bool (w_res rfl) w_lit) rfl
theorem mv {l:OpenLaw} {n:Nat} {q:Program} {loose:List Str} {XP:(Str->Option Value)->Heap->Prop} {YP:World->Heap->Prop} {d:DefRec}
  (hn:l.most=some n) (hdf:d.params.defaults=[])
  (call:∀(w:World) (s₀ s₁:Shared) (mg mb:Str->Option Value) (fa:Addr) (o:Obj) (pm cd doc:Value) (a:Addr) (vs:List Value) (ns:List Int),
   Ground q loose [] XP w s₀ mg mb s₁.heap->YP w s₁.heap ->
   s₁.heap.get? fa=some o->o.data=.func (docDef d.name d.params d.body d.scope pm cd doc)->s₁.heap.CodeRec cd d.name->mg d.name=some (.ref fa) ->
   s₁.heap.get? a=some {cls:=.type "list",data:=.seq vs.toArray}->IntsAre vs ns->ns.length<=n->s₁.gens=#[] ->
   codeAny (model l.prog w) callerA (.call (.ref fa) ⟨[.ref a],[]⟩) (λr s'=>r=.ok (.ret (.bool true))/\OldK s₁.heap s'.heap/\s'.os=s₁.os/\AllBare s'.gens) s₁) :
  WalkO q loose XP YP l.row.toRowW d [] (λf vs=>PySem.call f vs):=by
 intro w s₀ s₁ mg mb G Y fa o pm cd doc dV kV ho hd hcd hD hmg hg args vals as hpre hlay hrd hwl hlo
 obtain rfl:dV=.none:=Dflts.none hD hdf
 obtain rfl:kV=.none:=Dflts.noKw hD
 obtain⟨a,vs,ns,rfl,rfl,hobj,hints,hlen⟩:=r9 hn hpre hwl
 refine enter_call (FF (call w s₀ s₁ mg mb fa o pm cd doc a vs ns G Y ho (fd_plain hd) hcd hmg hobj hints hlen hg) λr s' hq=>?_)
 obtain⟨rfl,h2,h3,h4⟩:=hq
 exact⟨.inl ⟨.bool true,.bool true,[],rfl,λ_=>rfl,.bool true,sa l _,λ_=>⟨List.Pairwise.nil,λ_ hm=>(nomatch hm)⟩⟩,h2,h3,h4⟩
end Att
namespace L2
open PySem PySem.Spec PyProof.Rows
def FzL (K:PySem.W.Frag) (H:Hp) (a:Addr) (xs:List V):Prop :=
 (∃o,H a=some (.frz o (.lst xs))) \/
  ∃(its:List Value) (n:Nat),K.lookup a=some {cls:=.type "list",data:=.seq its.toArray n}/\xs.length<=sizeLine/\ay xs its
theorem vals_ints:∀{vs:List Value} {ns:List Int},IntsAre vs ns->ay (ns.map V.int) vs
 | _,_,.nil=>.nil
 | _,_,.cons n t h=>.cons ⟨t,rfl⟩ (vals_ints h)
def Hx (H:Hp):Prop:=∀b,H b=none\/∃o xs,H b=some (.frz o (.lst xs))
theorem we {P:Program} {w:World} {K:PySem.W.Frag} {mg mb:Str->Option Value} {CX:CXT} {k:Nat} {fa a:Addr} {fd:FuncData} {x:Str} {sp:Sp} {s₁:Shared} {vs:List Value} {ns:List Int}
  (KX:K.In s₁.heap) (hns:s₁.heap.Ns mainGlobals mg) (hb:s₁.heap.Ns builtinsNs mb) (hbb:∀x:Str,x≠"__name__"->mb x=bootBuiltins x) (hlim:s₁.heap.NoLimit) (hg:s₁.gens=#[])
  (ha:s₁.heap.get? a=some {cls:=.type "list",data:=.seq vs.toArray}) (hi:IntsAre vs ns) (hl:ns.length<=sizeLine) (hr:Room k callerA)
  (F:∀base:Heap,K.In base->base.Ns mainGlobals mg->FnOk P w K mg base CX k fa fd [x] sp) (hbind:∀(s:Shared) (u:Value),BindsTo s fd ⟨[u],[]⟩ [(x,u)])
  (hsp:∀H:Hp,Hx H->FzL K H a (ns.map V.int)->sp [.ref a] H (λv _=>v=.bl true) λ_ _ _=>False)
  (hCX:∀H e s',CX [] H s₁ (λ_ _ _=>False) e s'->False) :
  codeAny (model P w) callerA (.call (.ref fa) ⟨[.ref a],[]⟩) (λr s'=>r=.ok (.ret (.bool true))/\OldK s₁.heap s'.heap/\s'.os=s₁.os/\AllBare s'.gens) s₁:=by
 have rv:=vals_ints hi
 have lenV:=hi.length
 -- from an abstract heap in which nothing but the script may be tracked
 have core:∀H:Hp,Hx H->FzL K H a (ns.map V.int)->HOk P w H s₁.heap->(∀b,H b≠none->b=a)->(H a≠none->K.lookup a=none) ->
   codeAny (model P w) callerA (.call (.ref fa) ⟨[.ref a],[]⟩) (λr s'=>r=.ok (.ret (.bool true))/\OldK s₁.heap s'.heap/\s'.os=s₁.os/\AllBare s'.gens) s₁:=by
  intro H hO hS hok hA hK
  have base_of:∀{b:Addr} {o:Obj},s₁.heap.get? b=some o->H b=none->(vv s₁.heap H).get? b=some o:=λe n=>vw e n
  have noA:∀{b:Addr} {o:Obj} {es:Array DictEntry} {ep:Nat},s₁.heap.get? b=some o->o.data=.dict es ep->H b=none:=λ{b o es ep} e d=>by
   cases q:H b with
   | none=>rfl
   | some u =>
    have e':b=a:=hA b (by rw[q];simp)
    subst e'
    rw[ha]at e;cases e
    have d':Data.seq vs.toArray _=Data.dict es ep:=d
    cases d'
  have nsK:∀{b:Addr} {m:Str->Option Value},s₁.heap.Ns b m->(vv s₁.heap H).Ns b m:=λ{b m} ⟨o,es,ep,e,d,r⟩=>⟨o,es,ep,base_of e (noA e d),d,r⟩
  have hKb:K.In (vv s₁.heap H):=λb o e=>base_of (KX b o e) (by
   cases q:H b with
   | none=>rfl
   | some u =>
    have e':b=a:=hA b (by rw[q];simp)
    subst e'
    rw[hK (by rw[q];simp)]at e;cases e)
  have hM:Mod K mg (vv s₁.heap H):=⟨hKb,nsK hns,⟨mb,nsK hb,hbb⟩,let ⟨mc,h1,h2⟩:=hlim;⟨mc,nsK h1,h2⟩⟩
  have e0:Env0 P w K mg (vv s₁.heap H) callerA [] s₁ H:=⟨rfl,hM,λb o e=>As e,Nat.le_of_eq (qx _ _),trivial,λb hb=>absurd (show b∈([]:List Addr)from hb) (by simp),hok,.of_eq hg⟩
  refine FF ((F _ hKb (nsK hns)).run callerA [] s₁ H ⟨[.ref a],[]⟩ [.ref a] [.ref a] _ _ hr e0 (hbind s₁ (.ref a)) (.cons rfl .nil) (hsp H hO hS)) λr s' h=>?_
  cases r with
  | error e=>exact(hCX H e s' h).elim
  | ok fl =>
   cases fl with
   | next=>exact False.elim h
   | brk=>exact False.elim h
   | cont=>exact False.elim h
   | ret u =>
    obtain⟨v,H',os,bare,un,hok',r',q⟩:=h
    have q':v=.bl true:=q
    subst q'
    obtain rfl:u=Value.bool true:=r'
    refine⟨rfl,OldK.of_keep λb o e=>?_,os,bare⟩
    cases q:H b with
    | none=>exact un.keep b o e q (by intro z;exact absurd (show b∈([]:List Addr)from z) (by simp)) (by simp)
    | some u =>
     rcases hO b with z | ⟨ob,xs,z⟩
     ·rw[q]at z;cases z
     ·have z2:=un.frzs b ob _ z
      obtain⟨e1,_⟩:=hok b _ z
      obtain⟨e2,_⟩:=hok' b _ z2
      rw[e]at e1;cases e1
      exact e2
 cases hk:K.lookup a with
 | some o =>
  -- the script is one of the module's own objects
  have e:=KX a o hk
  rw[ha]at e
  cases e
  refine core (λ_=>none) (λ_=>.inl rfl) (.inr ⟨vs,_,hk,by rw[AZ];exact hl,rv⟩) (λb u z=>by have z':(none:Option HO)=some u:=z;cases z') (λb z=>absurd rfl z) λz=>absurd rfl z
 | none =>
  refine core (λb=>if b=a then some (.frz {cls:=.type "list",data:=.seq vs.toArray} (.lst (ns.map V.int)))else none) (λb=>?_) (.inl ⟨{cls:=.type "list",data:=.seq vs.toArray},if_pos rfl⟩) (λb u z=>?_) (λb z=>?_) λ_=>hk
  ·by_cases hb:b=a
   ·exact .inr ⟨_,_,if_pos hb⟩
   ·exact .inl (if_neg hb)
  ·by_cases hb:b=a
   ·have z':=(if_pos hb).symm.trans z
    cases z'
    subst hb
    exact⟨ha,by rw[AZ];exact hl,vs,_,rv,ha⟩
   ·have z':=(if_neg hb).symm.trans z
    cases z'
  ·by_cases hb:b=a
   ·exact hb
   ·exact absurd (if_neg hb) z
abbrev KOf {K:PySem.W.Frag} {h:Heap} (_:K.In h):PySem.W.Frag:=K
theorem Bf {l:PySem.W.OpenLaw} {n k:Nat} {q:Program} {loose:List Str} {XP:(Str->Option Value)->Heap->Prop} {YP:World->Heap->Prop} {d:DefRec} {K:Params->PySem.W.Frag} {CX:World->CXT} {sp:World->Sp} {x:Str}
  (hn:l.most=some n) (hn2:n<=sizeLine) (hdf:d.params.defaults=[]) (hr:Room k callerA)
  (hY:∀(w:World) (h:Heap),YP w h->(K w.params).In h)
  (F:∀(w:World) (mg:Str->Option Value) (fa:Addr) (h:Heap),(K w.params).In h->h.Ns mainGlobals mg->mg d.name=some (.ref fa) ->
   ∃fd:FuncData,(∀(s:Shared) (u:Value),BindsTo s fd ⟨[u],[]⟩ [(x,u)]) /\
    ∀base:Heap,(K w.params).In base->base.Ns mainGlobals mg->FnOk l.prog w (K w.params) mg base (CX w) k fa fd [x] (sp w))
  (hsp:∀(w:World) (H:Hp) (a:Addr) (ns:List Int),ns.length<=n->Hx H->FzL (K w.params) H a (ns.map V.int)->sp w [.ref a] H (λv _=>v=.bl true) λ_ _ _=>False)
  (hCX:∀(w:World) (H:Hp) (s:Shared) (e:Value) (s':Shared),CX w [] H s (λ_ _ _=>False) e s'->False) :
  PySem.W.WalkO q loose XP YP l.row.toRowW d [] (λf vs=>PySem.call f vs):=by
 refine Att.mv hn hdf λw s₀ s₁ mg mb fa o pm cd doc a vs ns G Y ho hd hcd hmg hobj hints hlen hg=>?_
 have KX:=hY w _ Y
 obtain⟨fd,hb,hF⟩:=F w mg fa _ KX G.T.g hmg
 exact we KX G.T.g G.T.b G.T.builtins G.T.nolimit hg hobj hints (CC hlen hn2) hr hF hb (λH hO hS=>hsp w H a ns hlen hO hS) λH e s'=>hCX w H s₁ e s'
def ik (s:Stmt):Arguments:=match s with
 | .FunctionDef _ a _ _ _ _ _ _ _ _=>a
 | _=>{posonlyargs:=[],args:=[],vararg:=none,kwonlyargs:=[],kw_defaults:=[],kwarg:=none,defaults:=[]}
def cj (s:Stmt):List Stmt:=match s with
 | .FunctionDef _ _ b _ _ _ _ _ _ _=>b
 | _=>[]
def ag (s:Stmt):Scope:=match s with
 | .FunctionDef _ _ _ _ _ _ sc _ _ _=>sc
 | _=>{kind:=.function,names:=[],isGenerator:=false,isCoroutine:=false}
abbrev CX0:CXT:=λ_ _ _ _ _ _=>False
abbrev E0:XK:=λ_ _ _=>False
theorem Hy {X:Cx}:rm CX0 X E0:=λ_ _ _ _ _ _ _ h=>h.elim
structure Fun (K:PySem.W.Frag) (x qual:Str) (st:Stmt) (f:Addr) (fd:FuncData):Prop where
 ex:∃(oc:Value) (od:Option Addr) (kV doc pm:Value) (an:Option Addr) (cdv ct:Value) (osl:Array (Option Value)),
  fd=PySem.W.fnOf x qual (ik st) (cj st) (ag st) .none kV doc pm an cdv ct/\K.lookup f=some ⟨oc,od,.func fd,osl⟩/\PySem.W.codeIn K cdv qual=true
 kp:PySem.W.keepIn K (.ref f)=true
section
variable {P : Program} {w : World} {K : PySem.W.Frag} {mg : Str -> Option Value} {base : Heap}
theorem Fun.ok {x qual:Str} {st:Stmt} {f:Addr} {fd:FuncData} {N ps:List Str} {k:Nat} {sp:Sp} (F:Fun K x qual st f fd) (S:FnScope N ps (ag st)) (len:∀vs H Q E,sp vs H Q E->vs.length=ps.length)
  (hbody:∀(cdv:Value) (A:Around) (outer:List Env) (s:Shared) (H:Hp) (vs:List V) (Q:VK) (E:XK),Room k (A.deeper (envOfC qual (ag st) s.heap.objs.size f cdv))->sp vs H Q E ->
   ∃t,PSs (mj CX0 P w K mg base N qual (ag st) f cdv A outer s H E).nox (cj st) t/\t {nx:=λ_ H'=>Q .non H',rt:=Q} (start N vs) H):FnOk P w K mg base CX0 (k+1) f fd ps sp:=by
 obtain⟨oc,od,kV,doc,pm,an,cdv,ct,osl,rfl,lk,hcd⟩:=F.ex
 refine Dq lk hcd S len λA outer s H vs Q E hr hsp=>?_
 obtain⟨t,h,q⟩:=hbody cdv A outer s H vs Q E hr hsp
 exact⟨t,h.nox,q⟩
theorem D4 {x qual:Str} {st:Stmt} {f:Addr} {oc:Value} {od an:Option Addr} {osl:Array (Option Value)} {kV doc pm cdv ct:Value} (l:K.lookup f=some ⟨oc,od,.func (PySem.W.fnOf x qual (ik st) (cj st) (ag st) .none kV doc pm an cdv ct),osl⟩)
  (c:PySem.W.codeIn K cdv qual=true) (k:PySem.W.keepIn K (.ref f)=true):Fun K x qual st f (PySem.W.fnOf x qual (ik st) (cj st) (ag st) .none kV doc pm an cdv ct):=⟨⟨oc,od,kV,doc,pm,an,cdv,ct,osl,rfl,l,c⟩,k⟩
end
theorem il {n:Nat} (h:n<=1000):n<sizeLine:=Nat.lt_of_le_of_lt h (by decide)
section
variable {X : Cx}
theorem pv (i:Nat) {x:Str} {pos:Pos} (hN:X.N[i]? = some x:=by rfl) (hv:Vis X.env.scope x:=by first | exact Or.inl rfl | exact Or.inr (Or.inl rfl) | exact Or.inr (Or.inr rfl)) (hd:(x==("__debug__":Str))=false:=by decide)
  (hcd:(x==("__classdict__":Str))=false:=by decide):PE X (.Name x pos) (Jw i):=qz hN hv hd hcd
end
end L2
set_option maxHeartbeats 4000000
namespace L2
open PySem PySem.Spec PyProof.Rows
def Lc (h:Heap) (e:Addr) (cls:Value):Prop:=∃oe vs a0,h.get? e=some oe/\oe.cls=cls/\oe.data=.fields vs/\vs[0]? = some a0/\vs[1]? = some Value.none
def G3 (h0:Heap) (H:Hp) (h:Heap) (e:Addr) (cls:Value):Prop:=∃oe vs T oT ts a0,h.get? e=some oe/\(oe.cls=cls/\vs[0]? = some a0)/\oe.data=.fields vs/\vs[1]? = some (.ref T)/\(h0.get? T=none/\H T=none)/\T≠e/\h.get? T=some oT/\oT.data=.fields ts/\ts[3]? = some Value.none
structure Fly (h0:Heap) (H:Hp) (h:Heap) (e:Addr) (cls:Value):Prop where
 new:h0.get? e=none
 free:H e=none
 st:Lc h e cls\/G3 h0 H h e cls
theorem rebase {h base base':Heap}:∀{l:List Env},h.FunFrames base l->(∀L∈frs l,base'.get? L=none)->h.FunFrames base' l
 | [],_,_=>trivial
 | env::r,⟨hk,⟨L,o,hf,hn,ho,hd⟩,hr⟩,hb=>⟨hk,⟨L,o,hf,hb L (by unfold frs;rw[BW,hf];exact BF),ho,hd⟩,rebase hr λL' h'=>hb L' (by unfold frs;rw[BW,hf];exact AO _ h')⟩
theorem cw.ex {P:Program} {w:World} {H:Hp} {h:Heap} {a:Addr} {o:HO} (x:cw P w H h a o):∃u,h.get? a=some u:=by
 cases o with
 | lst xs=>obtain⟨_,_,_,_,e⟩:=x;exact⟨_,e⟩
 | tup xs=>obtain⟨_,_,_,o,e,_⟩:=x;exact⟨_,e⟩
 | dK kvs=>obtain⟨_,_,_,_,o,_,_,e,_⟩:=x;exact⟨_,e⟩
 | dT kvs=>obtain⟨_,_,_,_,o,_,_,e,_⟩:=x;exact⟨_,e⟩
 | set S n=>obtain⟨o,_,_,_,e,_⟩:=x;exact⟨_,e⟩
 | ins C dx fs=>obtain⟨_,_,_,e,_⟩:=x;exact⟨_,e⟩
 | own y=>obtain⟨_,e⟩:=x;exact⟨_,e⟩
 | xd fs=>obtain⟨_,⟨_,_,_,e,_⟩,_⟩:=x;exact⟨_,e⟩
 | rng lo hi=>obtain⟨_,_,_,e⟩:=x;exact⟨_,e⟩
 | frz ob u=>obtain⟨e,_⟩:=x;exact⟨_,e⟩
 | tbl ps=>exact⟨_,(show h.get? a=some _ from x)⟩
 | met f y=>exact⟨_,(show h.get? a=some _ from x)⟩
 | ext φ=>obtain⟨_,⟨_,e⟩,_⟩:=x;exact⟨_,e⟩
section
variable {X : Cx} {pins : List (Addr × Obj)} {σ : St} {H : Hp} {s : Shared} {e : Addr} {cls : Value}
theorem wj {M:Model} {A:Around} {E:Value->Shared->Prop} {Q:Unit->Shared->Prop} (I:Inv X pins σ H s) (hs:X.stack=X.env::X.outer) (hx:X.ex=[]) (hl:X.env.frame=some X.env.locals) (F:Fly X.s₀.heap H s.heap e cls) (hA:A.frames=some X.stack)
  (q:∀(h':Heap) (Tl:List Addr),(∀T∈Tl,X.s₀.heap.get? T=none/\H T=none)->(∀b o,s.heap.get? b=some o->b≠e->b∉Tl->b∉frs X.stack->h'.get? b=some o) ->
   (∀b o,s.heap.get? b=some o->b∈frs X.stack->∃sl,h'.get? b=some {o with slots:=sl})->G3 X.s₀.heap H h' e cls->Q () {s with heap:=h'}):wpAny M A (leaving X.env (.ref e)) Q E s:=by
 have fin:∀(Tl:List Addr) (a0:Value) (h':Heap),(∀T∈Tl,X.s₀.heap.get? T=none/\H T=none)->(PySem.W.hideAll s.heap (e::Tl++frs X.stack)).LeftW (X.env::X.outer) e cls a0 s.heap h'->Q () {s with heap:=h'}:=by
  rintro Tl a0 h' hT ⟨stay,ff,tr,sl⟩
  refine q h' Tl hT (λb o hb h1 h2 h3=>stay b o (CN _ hb ?_)) (λb o hb h3=>?_) ?_
  ·simp![CB,AL,CY,not_or]
   exact⟨h1,h2,h3⟩
  ·obtain⟨_,o',ho',hd'⟩:=I.stack.mem h3
   rw[hb]at ho';cases ho'
   exact sl b o hb hd'
  ·obtain⟨oe,vs,T,oT,ts,t1,t2,t3,t4,t5,t6,t7,t8,t9⟩:=tr
   refine⟨oe,vs,T,oT,ts,a0,t1,t2,t3,t4,?_,t6,t7,t8,t9⟩
   cases es:s.heap.get? T with
   | none =>
    refine⟨?_,?_⟩
    ·cases e0:X.s₀.heap.get? T with
     | none=>rfl
     | some o =>
      obtain⟨o',e1⟩:=I.base.there T o e0 (by rw[hx];simp)
      rw[es]at e1;cases e1
    ·cases e0:H T with
     | none=>rfl
     | some u =>
      obtain⟨o',e1⟩:=(I.hok T u e0).ex
      rw[es]at e1;cases e1
   | some o =>
    by_cases hm:T∈e::Tl++frs X.stack
    ·simp![CB,AL,CY]at hm
     rcases hm with z | z | z
     ·exact absurd z t6
     ·exact hT T z
     ·rw[hs]at z
      obtain⟨_,o',ho',hd'⟩:=ff.mem z
      rw[t7]at ho';cases ho'
      exact absurd t8 (hd' ts)
    ·rw[CN _ es hm]at t5;cases t5
 have hfr:∀(Tl:List Addr),s.heap.FunFrames (PySem.W.hideAll s.heap (e::Tl++frs X.stack)) (X.env::X.outer):=λTl=>by
  have:=I.stack
  rw[hs]at this
  exact rebase this λL hL=>BJ _ (AU _ (by rw[hs];exact hL))
 rw[hs]at hA
 rcases F.st with⟨oe,vs,a0,t1,t2,t3,t4,t5⟩ | ⟨oe,vs,T,oT,ts,a0,t1,t2,t3,t4,t5,t6,t7,t8,t9⟩
 ·subst t2
  exact wpAny_leaving_firstW hA (hfr []) hl t1 (λb o h=>CS _ h) (BJ _ (by simp)) t3 t5 t4 λh' LW=>fin [] a0 h' (by simp) LW
 ·refine wpAny_leaving_nextW hA (hfr [T]) hl ⟨oe,vs,T,oT,ts,t1,t2,t3,t4,BJ _ (by simp),t6,t7,t8,t9⟩ (λb o h=>CS _ h) (BJ _ (by simp)) λh' LW=>fin [T] a0 h' (λT' hT'=>?_) LW
  rw[CT.mp hT']
  exact t5
theorem om {h':Heap} {Tl:List Addr} (I:Inv X pins σ H s) (he:H e=none) (hT:∀T∈Tl,H T=none) (k:∀b o,s.heap.get? b=some o->b≠e->b∉Tl->b∉frs X.stack->h'.get? b=some o):HOk X.prog X.w H h':=λa o ha=>by
 have ne:∀b u,H b=some u->b≠e/\b∉Tl/\b∉frs X.stack:=λb u hb=>⟨λz=>(by rw[z,he]at hb;cases hb),λz=>(by rw[hT b z]at hb;cases hb),λz=>(by rw[I.stkFree b z]at hb;cases hb)⟩
 refine(I.hok a o ha).stay (λb u hb q=>?_) (λ_ q=>q) λ_ _ q=>q
 rcases hb with rfl | hb
 ·exact k b u q (ne b _ ha).1 (ne b _ ha).2.1 (ne b _ ha).2.2
 ·exact k b u q (ne b _ hb).1 (ne b _ hb).2.1 (ne b _ hb).2.2
end
def CX1 (P:Program) (w:World):CXT:=λouter H s E e' s'=>∃e cls H',e'=Value.ref e/\s'.os=s.os/\AllBare s'.gens/\Un (frs outer) [] H H' s.heap s'.heap/\HOk P w H' s'.heap/\s.heap.get? e=none/\H' e=none/\G3 s.heap H' s'.heap e cls/\E cls none H'
def mw (X:Cx) (EX:Value->Hp->Prop):Prop:=∀(pins:List (Addr×Obj)) (σ:St) (H:Hp) (s:Shared) (e:Addr) (cls:Value),Inv X pins σ H s->Fly X.s₀.heap H s.heap e cls->EX cls H->X.xe (.ref e) s
theorem wm {P:Program} {w:World} {K:PySem.W.Frag} {mg:Str->Option Value} {base:Heap} {N:List Str} {qual:Str} {scope:Scope} {f:Addr} {cd:Value} {A:Around} {outer:List Env} {s0:Shared} {H0:Hp} {E:XK} :
  mw (mj (CX1 P w) P w K mg base N qual scope f cd A outer s0 H0 E) λcls H'=>E cls none H':=by
 intro pins σ H s e cls I F q
 show wpAny _ _ (leaving _ (.ref e)) _ _ s
 refine wj I rfl rfl rfl F I.ok.frames λh' Tl hT k1 k2 ft=>⟨e,cls,H,rfl,I.os,I.bare,?_,om I F.free (λT h=>(hT T h).2) k1,F.new,F.free,ft,q⟩
 have nL:∀b o,s0.heap.get? b=some o->b≠s0.heap.objs.size:=λb o h=>AN (AG h)
 have stk:∀b,b∈frs (envOfC qual scope s0.heap.objs.size f cd::outer)->b=s0.heap.objs.size\/b∈frs outer:=λb hb=>by
  unfold frs at hb
  rw[BW]at hb
  exact AL.mp hb
 have keep:∀b o o',s0.heap.get? b=some o->b∉frs outer->s.heap.get? b=some o'->h'.get? b=some o':=λb o o' h0 hb h1=>by
  refine k1 b o' h1 (λz=>?_) (λz=>?_) λz=>?_
  ·have hn:s0.heap.get? e=none:=F.new
   rw[z,hn]at h0;cases h0
  ·have hn:s0.heap.get? b=none:=(hT b z).1
   rw[hn]at h0;cases h0
  ·rcases stk b z with z | z
   ·exact nL b o h0 z
   ·exact hb z
 have up:∀b,b∈frs outer->b∈frs (mj (CX1 P w) P w K mg base N qual scope f cd A outer s0 H0 E).stack:=λb hb=>by
  show b∈frs (_::outer)
  unfold frs
  rw[BW]
  exact AO _ hb
 refine⟨λb o h n hb hx=>keep b o o h hb (I.base.keep b o h n hb hx),λb o h n hb hx=>?_,I.base.free,λb o h hx=>?_,I.base.tups,I.base.frzs,I.base.tbls⟩
 ·obtain⟨sl,e1⟩:=I.base.slot b o h n hb hx
  obtain⟨sl',e2⟩:=k2 b _ e1 (up b hb)
  exact⟨sl',e2⟩
 ·obtain⟨o',e1⟩:=I.base.there b o h hx
  by_cases hb:b∈frs outer
  ·obtain⟨sl',e2⟩:=k2 b _ e1 (up b hb)
   exact⟨_,e2⟩
  ·exact⟨o',keep b o o' h hb e1⟩
abbrev wo:String:="ValueError.__new__"
abbrev wq:List Value:=[.type "ValueError",.type "Exception",.type "BaseException",.type "object"]
def Hz (h:Heap) (C:Addr) (N:Addr) (bm:List Value) (o:Obj):Prop :=
 ∃nm q bs hdct sn sub ab col dd k0 k1 k2 k3 k5,o=excClassObj nm q C N bs bm hdct sn sub ab col dd k0 k1 k2 k3 k5 wo/\h.get? C=some o/\OwnTail h wq bm/\∃mN,h.Ns N mN/\mN "__init__"=none
theorem mx {K:PySem.W.Frag} {h:Heap} {C:Addr} (k:K.In h) (q:PySem.W.excIn K C wq wo=true):∃N bm o,Hz h C N bm o:=by
 unfold PySem.W.excIn at q
 split at q
 ·next dd cd sl ho =>
  split at q
  ·next C1 bm k0 k1 k2 k3 n k5 hm hs =>
   simp![AS,beq_iff_eq,Bool.not_eq_true']at q
   obtain⟨⟨⟨⟨⟨e1,e2⟩,e3⟩,e4⟩,e5⟩,e6⟩:=q
   subst e1;subst e2
   obtain⟨l⟩:=sl
   obtain⟨nm,bs,mro,ns,qn,hd,sn,sub,ab,col,del⟩:=cd
   dsimp only at hm e3 e5 e6 hs
   subst hm;subst e3;subst hs
   exact⟨ns,bm,_,nm,qn,bs,hd,sn,sub,ab,col,dd,k0,k1,k2,k3,k5,rfl,k _ _ ho,PySem.W.tail_of_in k e4,_,.of_isNs (PySem.W.isNs_of_in k e5),PySem.W.nsMap_none_of_in k e5 e6⟩
  ·cases q
 ·cases q
section
variable {X : Cx} {pins : List (Addr × Obj)} {σ : St} {H H' : Hp} {s : Shared} {e : Addr} {cls : Value}
theorem Inv.old (I:Inv X pins σ H s) (hx:X.ex=[]) {b:Addr} (n:s.heap.get? b=none):X.s₀.heap.get? b=none:=by
 cases e0:X.s₀.heap.get? b with
 | none=>rfl
 | some o =>
  obtain⟨o',e1⟩:=I.base.there b o e0 (by rw[hx];simp)
  rw[n]at e1;cases e1
theorem HOk.none {P:Program} {w:World} {h:Heap} {b:Addr} (k:HOk P w H h) (n:h.get? b=none):H b=none:=by
 cases e0:H b with
 | none=>rfl
 | some u =>
  obtain⟨o',e1⟩:=(k b u e0).ex
  rw[n]at e1;cases e1
theorem wt {EX:Value->Hp->Prop} {x:Str} {C:Addr} {a:Expr} {es:List Expr} {ta:TA} {np cpos pos:Pos} (W:mw X EX) (hx:X.ex=[]) (hc:X.calm=true) (hq:PySem.W.excIn X.K C wq wo=true) (hg:Gl X x) (hm:X.mg x=some (.ref C))
  (ha:PA X (a::es) ta) (hdb:(x==("__debug__":Str))=false:=by decide) (he:starEach (a::es) X.env=(false,eval a X.env)::starEach es X.env:=by rfl) (hpl:(backTo cpos (starEach es X.env)).any (·.1)=false:=by rfl) :
  PS X (.Raise (some (.Call (.Name x np) (a::es) [] cpos)) none pos) (λ_ σ H=>ta σ H λvs H1=>vs.length<=sizeLine/\EX (.ref C) H1):=by
 intro pins s σ H D I h
 obtain⟨N,bm,o,nm,q,bs,hdct,sn,sub,ab,col,dd,k0,k1,k2,k3,k5,ho,hC,T,mN,hN,hni⟩:=mx I.mod.kin hq
 subst ho
 have hpl':(backTo cpos (starEach (a::es) X.env)).any (·.1)=false:=by
  rw[he]
  show(false || (backTo cpos (starEach es X.env)).any (·.1))=false
  rw[hpl];rfl
 refine wpAny_Raise_call_subT (C:=C) (nm:=nm) (q:=q) (N:=N) (bs:=bs) (bm:=bm) (hdct:=hdct) (sn:=sn) (sub:=sub) (ab:=ab) (col:=col) (dd:=dd) (k0:=k0) (k1:=k1) (k2:=k2) (k3:=k3) (k5:=k5) DU (mN:=mN)
  (T.hasType DU.hasBase) (I.ok.hd hc) hpl' hni (ia I hg hm ⟨rfl,?_⟩ hdb)
 have ga:=ha cpos pins s σ H _ I h
 rw[he]at ga ⊢
 refine FU (thn ga λus s1 ⟨vs,H1,I1,r,hv,hE⟩=>⟨rfl,by rw[<-r.length];exact hv,I1.bk _ _ hC,hN.keeps I1.bk,T.keeps I1.bk,λh' e mk=>?_⟩)
 have I2:Inv X pins σ H1 {s1 with heap:=h'}:=I1.kept (t':=s1.toks) mk.keeps
 obtain⟨t,t1,_,_⟩:=mk.there
 exact W pins σ H1 _ e (.ref C) I2 ⟨I1.old hx mk.new,I1.hok.none mk.new,.inl ⟨_,_,_,t1,rfl,rfl,rfl,rfl⟩⟩ hE
structure Fl (X:Cx) (H0:Hp) (s0:Shared) (H':Hp) (e:Addr) (cls:Value) (s:Shared):Prop where
 os:s.os=s0.os
 bare:AllBare s.gens
 un:Un (frs X.stack) [] H0 H' s0.heap s.heap
 hok:HOk X.prog X.w H' s.heap
 new:s0.heap.get? e=none
 free:H' e=none
 fly:G3 s0.heap H' s.heap e cls
theorem Ia {E:XK} {ev:Value} {s0:Shared} (h:CX1 X.prog X.w X.stack H s0 E ev s):∃e cls H',ev=.ref e/\Fl X H s0 H' e cls s/\E cls none H':=by
 obtain⟨e,cls,H',a1,a2,a3,a4,a5,a6,a7,a8,a9⟩:=h
 exact⟨e,cls,H',a1,⟨a2,a3,a4,a5,a6,a7,a8⟩,a9⟩
section
variable {H0 : Hp} {s0 : Shared}
theorem Fl.inv (I:Inv X pins σ H0 s0) (F:Fl X H0 s0 H' e cls s):Inv X pins σ H' s:=I.call' F.os F.un F.hok F.bare (ch:=[]) (λ_ z=>absurd z (by simp))
theorem Fl.flying (I:Inv X pins σ H0 s0) (hx:X.ex=[]) (F:Fl X H0 s0 H' e cls s):Fly X.s₀.heap H' s.heap e cls:=by
 obtain⟨oe,vs,T,oT,ts,a0,t1,t2,t3,t4,t5,t6⟩:=F.fly
 exact⟨I.old hx F.new,F.free,.inr ⟨oe,vs,T,oT,ts,a0,t1,t2,t3,t4,⟨I.old hx t5.1,t5.2⟩,t6⟩⟩
theorem Fl.next {h':Heap} {a0:Value} {T:Addr} (I:Inv X pins σ H0 s0) (F:Fl X H0 s0 H' e cls s) (hT0:s0.heap.get? T=none) (hT1:H' T=none) (st:(PySem.W.hideAll s.heap (e::T::frs X.stack)).StaysIn h')
  (ff:h'.FunFrames (PySem.W.hideAll s.heap (e::T::frs X.stack)) X.stack) (tr:h'.TracedW (PySem.W.hideAll s.heap (e::T::frs X.stack)) e cls a0) (up:s.heap.UpToSlots h'):Fl X H0 s0 H' e cls {s with heap:=h'}:=by
 have k1:∀b o,s.heap.get? b=some o->b≠e->b∉[T]->b∉frs X.stack->h'.get? b=some o:=λb o hb h1 h2 h3=>st b o (CN _ hb (by
  simp![AL,not_or]
  exact⟨h1,by simpa using h2,h3⟩))
 have J:=F.inv I
 have k2:∀b o,s.heap.get? b=some o->b∈frs X.stack->∃sl,h'.get? b=some {o with slots:=sl}:=λb o hb h3=>by
  obtain⟨_,o',ho',hd'⟩:=J.stack.mem h3
  rw[hb]at ho';cases ho'
  exact up b o hb hd'
 have ne:∀b o,s0.heap.get? b=some o->b≠e/\b∉[T]:=λb o hb=>⟨λz=>(by rw[z,F.new]at hb;cases hb),λz=>(by rw[CT.mp z,hT0]at hb;cases hb)⟩
 refine⟨F.os,F.bare,⟨λb o hb n hn hx=>?_,λb o hb n hn hx=>?_,F.un.free,λb o hb hx=>?_,F.un.tups,F.un.frzs,F.un.tbls⟩,?_,F.new,F.free,?_⟩
 ·exact k1 b o (F.un.keep b o hb n hn hx) (ne b o hb).1 (ne b o hb).2 hn
 ·obtain⟨sl,e1⟩:=F.un.slot b o hb n hn hx
  obtain⟨sl',e2⟩:=k2 b _ e1 hn
  exact⟨sl',e2⟩
 ·obtain⟨o',e1⟩:=F.un.there b o hb hx
  by_cases hn:b∈frs X.stack
  ·obtain⟨sl',e2⟩:=k2 b _ e1 hn
   exact⟨_,e2⟩
  ·exact⟨o',k1 b o' e1 (ne b o hb).1 (ne b o hb).2 hn⟩
 ·exact om J F.free (λb hb=>by rw[CT.mp hb];exact hT1) k1
 ·obtain⟨oe,vs,T',oT,ts,t1,t2,t3,t4,t5,t6,t7,t8,t9⟩:=tr
  refine⟨oe,vs,T',oT,ts,a0,t1,t2,t3,t4,?_,t6,t7,t8,t9⟩
  cases es:s.heap.get? T' with
  | none =>
   refine⟨?_,F.hok.none es⟩
   cases e0:s0.heap.get? T' with
   | none=>rfl
   | some o =>
    obtain⟨o',e1⟩:=F.un.there T' o e0 (by simp)
    rw[es]at e1;cases e1
  | some o =>
   by_cases hm:T'∈e::T::frs X.stack
   ·simp![AL]at hm
    rcases hm with z | z | z
    ·exact absurd z t6
    ·subst z;exact⟨hT0,hT1⟩
    ·obtain⟨_,o',ho',hd'⟩:=ff.mem z
     rw[t7]at ho';cases ho'
     exact absurd t8 (hd' ts)
   ·rw[CN _ es hm]at t5;cases t5
theorem Fl.frm (I:Inv X pins σ H0 s0) (F:Fl X H0 s0 H' e cls s) {T:Addr}:s.heap.FunFrames (PySem.W.hideAll s.heap (e::T::frs X.stack)) X.stack :=
 rebase (F.inv I).stack λL hL=>BJ _ (by simp[hL])
theorem Fl.note {M:Model} {A:Around} {E:Value->Shared->Prop} {Q:Shared->Prop} (I:Inv X pins σ H0 s0) (F:Fl X H0 s0 H' e cls s) (hs:X.stack=X.env::X.outer) (hl:X.env.frame=some X.env.locals) (hA:A.frames=some X.stack)
  (q:∀h',Fl X H0 s0 H' e cls {s with heap:=h'}->Q {s with heap:=h'}):wpAny M A (noteFrame (.ref e) X.env) (λ_ s2=>wpAny M A (setFlight (.ref e) none) (λ_ s3=>Q s3) E s2) E s:=by
 obtain⟨oe,vs,T,oT,ts,a0,t1,t2,t3,t4,t5,t6,t7,t8,t9⟩:=F.fly
 rw[hs]at hA
 have B:=F.frm I (T:=T)
 have hn:∀b,b=e\/b=T->(PySem.W.hideAll s.heap (e::T::frs X.stack)).get? b=none:=λb z=>BJ _ (by rcases z with z | z<;>simp[z])
 refine wpAny_looks_onW (base:=PySem.W.hideAll s.heap (e::T::frs X.stack)) (cls:=cls) (a0:=a0) hA hl ⟨λb o h=>CS _ h,hn e (.inl rfl),by rw[<-hs];exact B,oe,vs,T,oT,ts,t1,t2,t3,t4,hn T (.inr rfl),t6,t7,t8,t9⟩ λh1 g1 u1=>?_
 refine wpAny_landsW g1 λh2 g2 u2=>?_
 obtain⟨f1,f2,f3,f4⟩:=g2
 rw[<-hs]at f3
 exact q h2 (F.next I t5.1 t5.2 f1 f3 f4 (u1.trans u2))
theorem Fl.set {M:Model} {A:Around} {E:Value->Shared->Prop} {Q:Shared->Prop} (I:Inv X pins σ H0 s0) (F:Fl X H0 s0 H' e cls s)
  (q:∀h',Fl X H0 s0 H' e cls {s with heap:=h'}->Q {s with heap:=h'}):wpAny M A (setFlight (.ref e) none) (λ_ s3=>Q s3) E s:=by
 obtain⟨oe,vs,T,oT,ts,a0,t1,t2,t3,t4,t5,t6,t7,t8,t9⟩:=F.fly
 have hn:∀b,b=e\/b=T->(PySem.W.hideAll s.heap (e::T::frs X.stack)).get? b=none:=λb z=>BJ _ (by rcases z with z | z<;>simp[z])
 exact wpAny_setFlight_noneW (base:=PySem.W.hideAll s.heap (e::T::frs X.stack)) (l:=X.stack) (cls:=cls) (a0:=a0) (λb o h=>CS _ h) (F.frm I) ⟨oe,vs,T,oT,ts,t1,t2,t3,t4,hn T (.inr rfl),t6,t7,t8,t9⟩
  λh' k1 k2 k3 k4=>q h' (F.next I t5.1 t5.2 k1 k2 k3 λb o hb hd=>⟨o.slots,k4 b o hb hd⟩)
def G4 (e:Addr) (cls:Value):HO:=.ext λh=>∃o vs,h.get? e=some o/\o.cls=cls/\o.data=.fields vs
theorem Fl.track (I:Inv X pins σ H0 s0) (F:Fl X H0 s0 H' e cls s):Inv X pins σ (upd H' e (G4 e cls)) s:=by
 obtain⟨oe,vs,T,oT,ts,a0,t1,t2,t3,_⟩:=F.fly
 have ne:∀b o,s0.heap.get? b=some o->b≠e:=λb o hb z=>by rw[z,F.new]at hb;cases hb
 refine I.call' F.os ⟨F.un.keep,F.un.slot,λb o hb n hx=>?_,F.un.there,λb xs hb=>?_,λb o u hb=>?_,λb ps hb=>?_⟩ (λb u hb=>?_) F.bare (ch:=[]) (λ_ z=>absurd z (by simp))
 ·rw[aj (ne b o hb)];exact F.un.free b o hb n hx
 ·rw[aj (aq (F.un.tups b xs hb) F.free)];exact F.un.tups b xs hb
 ·rw[aj (aq (F.un.frzs b o u hb) F.free)];exact F.un.frzs b o u hb
 ·obtain⟨m,hm⟩:=F.un.tbls b ps hb
  exact⟨m,by rw[aj (aq hm F.free)];exact hm⟩
 ·by_cases z:b=e
  ·subst z
   rw[av]at hb;cases hb
   exact⟨⟨oe,vs,t1,t2.1,t3⟩,⟨oe,t1⟩,λh1 h2 ⟨o,vs,e1,r⟩ k=>⟨o,vs,k o e1,r⟩⟩
  ·rw[aj z]at hb
   exact(F.hok b u hb).stay (λc v _ q=>q) (λc q=>by rw[aj (aq q F.free)];exact q) λc xs q=>by rw[aj (aq q F.free)];exact q
end
theorem Bg {M:Model} {A:Around} {E:Value->Shared->Prop} {i:Nat} {x:Str} {Q:Unit->Shared->Prop} {pos:Pos} (I:Inv X pins σ H s) (hN:X.N.Nodup) (hi:X.N[i]? = some x) (hk:X.env.scope.names.lookup x=some .local)
  (h:∀s',Inv X pins (σ.set i none) H s'->Q () s'):wpAny M A (do bindName X.env x .none;unbindBehindTheSuite X.env x pos) Q E s:=by
 obtain⟨m,hn,hl⟩:=id I.loc
 have hcls:(X.env.scope.kind==.class || (X.env.scope.kind==.module&&X.env.locals != X.env.globals))=false:=by rw[I.ok.kind];rfl
 have hiσ:i<σ.length:=by rw[I.len];exact(AF.mp hi).1
 obtain⟨oL,_,_,hoL,_⟩:=id hn
 refine wpAny_nameGoes_keeps hk hn hcls λh' v hn' hs=>?_
 have far:∀b o,X.s₀.heap.get? b=some o->b≠X.env.locals:=λb o e=>AN (AK (AG e) I.ok.above)
 refine h _ ⟨I.ok,I.os,I.bare,⟨λb o e n hb hx=>(hs.2 b (far b o e)).trans (I.base.keep b o e n hb hx),λb o e n hb hx=>?_,I.base.free,λb o e hx=>?_,I.base.tups,I.base.frzs,I.base.tbls⟩,⟨_,hn',λj y v' e1 e2 e3=>?_⟩,λy c e=>?_,I.free,I.freeC,λp hp=>?_,λb ob e=>?_,by simpa using I.len⟩
 ·obtain⟨sl,e1⟩:=I.base.slot b o e n hb hx
  exact⟨sl,(hs.2 b (far b o e)).trans e1⟩
 ·obtain⟨o',e1⟩:=I.base.there b o e hx
  exact⟨o',(hs.2 b (far b o e)).trans e1⟩
 ·by_cases hj:j=i
  ·subst hj
   rw[BM hiσ]at e2
   cases e2
  ·rw[BA (Ne.symm hj)]at e2
   obtain⟨u',r',q⟩:=hl j y v' e1 e2 e3
   refine⟨u',r',?_⟩
   rcases q with⟨k,e⟩ | ⟨k,c,e,z⟩
   ·have ny:y≠x:=λe=>hj (jw hN e1 (e ▸ hi))
    exact .inl ⟨k,by simp[ny,e]⟩
   ·exact .inr ⟨k,c,e,z.sameBut hs (I.cne y c e)⟩
 ·obtain⟨w',z⟩:=I.cell y c e
  exact⟨w',z.sameBut hs (I.cne y c e)⟩
 ·obtain⟨e,n,ne,nf,d⟩:=I.pin p hp
  exact⟨(hs.2 p.1 ne).trans e,n,ne,nf,d⟩
 ·refine(I.hok b ob e).stay (λc w' hc q=>(hs.2 c ?_).trans q) (λ_ q=>q) λ_ _ q=>q
  rintro rfl
  rcases hc with z | hc
  ·rw[<-z,I.free]at e;cases e
  ·rw[I.free]at hc;cases hc
abbrev Cx.mark (X:Cx) (e:Value):Cx:={X with A:=X.A.mark (some e),calm:=false,xe:=λ_ _=>False}
theorem Inv.mark (I:Inv X pins σ H s) (e:Value):Inv (X.mark e) pins σ H s :=
 ⟨⟨I.ok.mod,I.ok.kind,I.ok.glob,I.ok.blt,I.ok.above,I.ok.inj,I.ok.has,I.ok.cab,λz=>(by cases z),I.ok.frames,I.ok.stk,I.ok.exf,I.ok.bs,I.ok.bsz,I.ok.noex,I.ok.exfs,I.ok.funs,I.ok.frf⟩,I.os,I.bare,I.base,I.loc,I.cell,I.free,I.freeC,I.pin,I.hok,I.len⟩
theorem Inv.unmark {e:Value} (k:X.Ok) (I:Inv (X.mark e) pins σ H s):Inv X pins σ H s:=⟨k,I.os,I.bare,I.base,I.loc,I.cell,I.free,I.freeC,I.pin,I.hok,I.len⟩
section
variable {k : Nat} {f : Addr} {fd : FuncData} {ps : List Str} {sp : Sp} {E : XK} {x : Str} {a : Expr} {es : List Expr} {ta : TA} {p cpos pos : Pos}
theorem D5 {Q:VK} (F:FnOk X.prog X.w X.K X.mg X.base (CX1 X.prog X.w) k f fd ps sp) (hr:Room k X.A) (hg:Gl X x) (hm:X.mg x=some (.ref f)) (hk:PySem.W.keepIn X.K (.ref f)=true) (hb:Binds X.K fd ps [])
  (ha:PA X.nox (a::es) ta) (hdb:(x==("__debug__":Str))=false) (he:starEach (a::es) X.env=(false,eval a X.env)::starEach es X.env) (hpl:(backTo cpos (starEach es X.env)).any (·.1)=false)
  (I:Inv X pins σ H s) (h:ta σ H λvs H1=>sp vs H1 Q E) :
  wpAny (model X.prog X.w) X.A (eval (.Call (.Name x p) (a::es) [] cpos) X.env) (EP X pins σ Q) (λev s'=>∃H1 s1 e cls H',Inv X pins σ H1 s1/\ev=.ref e/\Fl X H1 s1 H' e cls s'/\E cls none H') s:=by
 refine DH (ia I hg hm ?_ hdb)
 refine Go (h₀:=X.base) I.ok.mod.kin hk (BK (ha cpos pins s σ H _ (I.wish _) h) (λus s1 ⟨vs,H1,I1,r,q⟩=>⟨I1.kIn,?_⟩) λ_ _ z=>False.elim z) he hpl
 have J:=I1.unwish
 have hl:us.length=ps.length:=by rw[<-r.length];exact F.len _ _ _ _ q
 have hb':=hb s1 us I1.kIn (by rw[BY];exact hl)
 rw[BY]at hb'
 refine wpAny_call (FF (F.run X.A X.stack s1 H1 ⟨us,[]⟩ us vs Q E hr J.env0 hb' r q) λr s' hq=>?_)
 cases r with
 | error ev =>
  obtain⟨e,cls,H',z1,z2,z3⟩:=Ia hq
  exact⟨H1,s1,e,cls,H',J,z1,z2,z3⟩
 | ok fl =>
  cases fl with
  | ret u=>exact J.after hq
  | next=>exact False.elim hq
  | brk=>exact False.elim hq
  | cont=>exact False.elim hq
theorem wu {EX:Value->Hp->Prop} (W:mw X EX) (hx:X.ex=[]) (F:FnOk X.prog X.w X.K X.mg X.base (CX1 X.prog X.w) k f fd ps sp) (hr:Room k X.A) (hg:Gl X x) (hm:X.mg x=some (.ref f)) (hk:PySem.W.keepIn X.K (.ref f)=true) (hb:Binds X.K fd ps [])
  (ha:PA X.nox (a::es) ta) (hdb:(x==("__debug__":Str))=false:=by decide) (he:starEach (a::es) X.env=(false,eval a X.env)::starEach es X.env:=by rfl) (hpl:(backTo cpos (starEach es X.env)).any (·.1)=false:=by rfl)
  (hs:swapsWith (.Call (.Name x p) (a::es) [] cpos) none pos.line X.env=pure false:=by rfl) :
  PS X (.Expr (.Call (.Name x p) (a::es) [] cpos) pos) (λD σ H=>ta σ H λvs H1=>sp vs H1 (λ_ H2=>D.nx σ H2) λcls _ H2=>EX cls H2):=by
 intro pins s σ H D I h
 exact wpAny_Expr_any (BK (D5 F hr hg hm hk hb ha hdb he hpl I h) (λv s1 ⟨y,H1,I1,r1,q1⟩=>⟨σ,H1,I1,q1⟩) λev s' ⟨H1,s1,e,cls,H',J,z1,z2,z3⟩=>by
  subst z1
  exact W pins σ H' s' e cls (z2.inv J) (z2.flying J hx) z3) I.quiet hs
end
end
theorem Bh {K:PySem.W.Frag} {h:Heap} {C:Addr} {o:Obj} {cd:ClassData} {base:Value} (k:K.In h) (e:PySem.W.subIn K (.ref C) base=some true) (hC:h.get? C=some o) (hd:o.data=.cls cd):cd.mro.contains base=true:=by
 have e:PySem.W.mroIn K C base=some true:=e
 unfold PySem.W.mroIn PySem.W.clsIn at e
 split at e
 ·next ho =>
  have z:=k _ _ ho
  rw[hC]at z
  cases z
  cases hd
  have e2:¬cd.mro=[]/\base∈cd.mro:=by simpa using e
  simpa using e2.2
 ·simp at e
theorem sd {M:Model} {A:Around} {E:Value->Shared->Prop} {s:Shared} {e C L:Addr} {oe:Obj} {NC NL:Addr} {bC bL:List Value} {oC oL:Obj} {Q:Bool->Shared->Prop} (hC:Hz s.heap C NC bC oC) (hL:Hz s.heap L NL bL oL) (hm:(Value.ref C::bC).contains (.ref L)=true)
  (he:s.heap.get? e=some oe) (hcls:oe.cls=.ref C) (hq:Q true s):wpAny M A (excMatches (.ref e) (.ref L)) Q E s:=by
 obtain⟨h,g,d,t,os⟩:=s
 obtain⟨nm,q,bs,hdct,sn,sub,ab,col,dd,k0,k1,k2,k3,k5,ho,hCo,_⟩:=hC
 obtain⟨nm',q',bs',hdct',sn',sub',ab',col',dd',k0',k1',k2',k3',k5',ho',hLo,T,_⟩:=hL
 subst ho;subst ho'
 have hB:(Value.ref L::bL).contains (.type "BaseException")=true:=by rw[List.contains_cons,T.hasType DU.hasBase,Bool.or_true]
 have f:=tc_notTuple
 unfold excMatches
 repeat (first | (with_reducible refine CF he ?_;rw[hcls]) | with_reducible refine CF hLo ?_ | (with_reducible refine wpAny_isSubtype_exc hLo ?_;rw[hB]) | (with_reducible refine wpAny_isSubtype_exc hCo ?_;rw[hm]) | wp_step)
 exact hq
section
variable {X : Cx} {k : Nat} {f L : Addr} {fd : FuncData} {ps : List Str} {sp : Sp} {x y n : Str} {a : Expr} {es : List Expr} {ta : TA} {p cpos epos yp hp pos : Pos} {ni : Nat} {b0 : Stmt} {body : List Stmt} {tb : TS}
def Under (K:PySem.W.Frag) (C L:Addr):Prop:=PySem.W.excIn K C wq wo=true/\PySem.W.excIn K L wq wo=true/\PySem.W.subIn K (.ref C) (.ref L)=some true
theorem Bi (hst:X.stack=X.env::X.outer) (hfr:X.env.frame=some X.env.locals) (F:FnOk X.prog X.w X.K X.mg X.base (CX1 X.prog X.w) k f fd ps sp) (hr:Room k X.A) (hg:Gl X x) (hm:X.mg x=some (.ref f)) (hk:PySem.W.keepIn X.K (.ref f)=true) (hb:Binds X.K fd ps [])
  (ha:PA X.nox (a::es) ta) (hgy:Gl X y) (hmy:X.mg y=some (.ref L)) (hN:X.N.Nodup) (hni:X.N[ni]? = some n) (hkn:X.env.scope.names.lookup n=some .local) (hbody:∀e,PSs (X.mark e) (b0::body) tb)
  (hdb:(x==("__debug__":Str))=false:=by decide) (he:starEach (a::es) X.env=(false,eval a X.env)::starEach es X.env:=by rfl) (hpl:(backTo cpos (starEach es X.env)).any (·.1)=false:=by rfl)
  (hs:swapsWith (.Call (.Name x p) (a::es) [] cpos) none epos.line X.env=pure false:=by rfl) (hdy:(y==("__debug__":Str))=false:=by decide) :
  PS X (.Try [.Expr (.Call (.Name x p) (a::es) [] cpos) epos] [.ExceptHandler (some (.Name y yp)) (some n) (b0::body) hp] [] [] pos)
   (λD σ H=>ta σ H λvs H1=>sp vs H1 (λ_ H2=>D.nx σ H2) λcls _ H2=>(∃C,cls=.ref C/\Under X.K C L) /\
    ∀e,H2 e=none->tb {nx:=λσ' H'=>D.nx (σ'.set ni none) H',rt:=λ_ _=>False} (σ.set ni (some (.ref e))) (upd H2 e (G4 e cls))):=by
 intro pins s σ H D I h
 refine wpAny_Try_except ?_
 refine wpAny_execs_cons (wpAny_Expr_any (BK (D5 F hr hg hm hk hb ha hdb he hpl I h) (λv s1 ⟨y,H1,I1,r1,q1⟩=>DV (DV ⟨σ,H1,I1,q1⟩)) λev s' ⟨H1,s1,e,cls,H',J,z1,z2,z3⟩=>?_) I.quiet hs)
 subst z1
 obtain⟨⟨C,rfl,hC,hL,hCL⟩,q⟩:=z3
 refine z2.note J hst hfr I.ok.frames λh1 F1=>?_
 have J1:=F1.inv J
 refine wpAny_handleBy_cons (codeAny_handlers_test (ia (X:=X.mark (.ref e)) (J1.mark (.ref e)) hgy hmy ?_ hdy)) (by intro q;cases q)
 obtain⟨NC,bC,oC,xC⟩:=mx J1.kIn hC
 obtain⟨NL,bL,oL,xL⟩:=mx J1.kIn hL
 obtain⟨oe,vs,T,oT,ts,a0,t1,t2,_⟩:=F1.fly
 have hm2:(Value.ref C::bC).contains (.ref L)=true:=by
  obtain⟨nm,q,bs,hdct,sn,sub,ab,col,dd,k0,k1,k2,k3,k5,ho,hCo,_⟩:=id xC
  exact Bh J1.kIn hCL hCo (by rw[ho])
 refine sd xC xL hm2 t1 t2.1 ?_
 refine codeAny_handlers_suite_as ?_
 refine F1.set J λh2 F2=>?_
 refine jx (v:=.ref e) (F2.track J) hN hni (.inl hkn) (show RelV (.ref e) (.ref e)from rfl) (λs3 I3=>?_) (.inr hkn)
 refine BK (hbody (.ref e) pins s3 _ _ _ (I3.mark (.ref e)) (q e F2.free)) (λfl s4 z=>?_) λ_ _ z=>False.elim z
 cases fl with
 | next =>
  obtain⟨σ',H4,I4,q4⟩:=z
  exact Bg (I4.unmark I.ok) hN hni hkn λs5 I5=>⟨_,_,I5,q4⟩
 | brk=>obtain⟨_,_,_,z⟩:=z;exact z.elim
 | cont=>obtain⟨_,_,_,z⟩:=z;exact z.elim
 | ret u=>obtain⟨_,_,_,_,_,z⟩:=z;exact z.elim
end
open PySem PySem.Spec PyProof.Rows PySem.W
structure XAt (K:Frag) (C:Addr):Prop where
 ga:findIn K (.ref C) "__getattribute__"=some (some (.builtin "BaseException.__getattribute__"))
 gh:findIn K (.ref C) "__getattr__"=some none
 cl:findIn K (.ref C) "__class__"=some (some (.builtin "object.__class__"))
 mo:mroIn K C (.type "object")=some true
 mb:mroIn K C (.type "BaseException")=some true
section
variable {prog : Program} {w : World} {A : Around} {E : Value -> Shared -> Prop} {h : Heap} {g : Array GenState} {d : Drawn} {t : Nat} {os : OsState} {e C : Addr} {o : Obj} {K : Frag}
theorem D6 {R:Result->Shared->Prop} (X:K.In h) (k:XAt K C) (hx:h.get? e=some o) (hc:o.cls=.ref C) (hq:R (.ok (.ret (.ref C))) ⟨h,g,d,t,os⟩) :
  codeAny (model prog w) A (.call (.builtin "getset_descriptor.__get__") ⟨[.builtin "object.__class__",.ref e,.ref C],[]⟩) R ⟨h,g,d,t,os⟩:=by
 have tg:(⟨h,g,d,t,os⟩:Shared).TypeIs (.builtin "object.__class__") "getset_descriptor":=DP
 have L1:Looks (model prog w) h (isSubtype (.ref C) (.type (".".intercalate ("object.__class__".cutAt '.').dropLast))) true:=by rw[F.owner_object_class];exact looks_mroIn X k.mo
 refine codeAny_call_builtin F.slot_gs_get.plain F.entry_gs_get (F.slot_gs_get.check _ _ _ _ _ _ _ _ tg (F.args_gs_get _ _ _) ?_)
 repeat (any_goals (first | assumption | (with_reducible refine CF hx ?_;rw[hc]) | (with_reducible refine L1.at ?_) | wp_step))
 refine⟨Code.quiet_builtin _ (by decide +kernel),codeAny_builtin F.entry_object_class ?_⟩
 repeat (any_goals (first | assumption | (with_reducible refine CF hx ?_;rw[hc]) | wp_step))
theorem wx {tk:Tok} {Q:Fin->Shared->Prop} (X:K.In h) (k:XAt K C) (hx:h.get? e=some o) (hc:o.cls=.ref C) (hq:Q (.done (.ret (.ref C))) ⟨h,g,d,t,os⟩) :
  wpAny (model prog w) A (Builtin.«object.__getattribute__» ⟨[.ref e,.str "__class__" tk],[]⟩) Q E ⟨h,g,d,t,os⟩:=by
 have tg:(⟨h,g,d,t,os⟩:Shared).TypeIs (.builtin "object.__class__") "getset_descriptor":=DP
 have f5:=DP
 have f6:=F.slot_gs_get.lookup
 have f7:=F.slot_gs_set.lookup
 have L2:=looks_findIn (M:=model prog w) X k.cl
 repeat (any_goals (first | assumption | (with_reducible refine CF hx ?_;rw[hc]) | (with_reducible refine L2.at ?_) | wp_step))
 refine D6 X k hx hc ?_
 repeat (any_goals (first | assumption | wp_step))
theorem wy {M:Model} {nameV:Value} {Q:Unit->Shared->Prop} (X:K.In h) (k:XAt K C) (hx:h.get? e=some o) (hc:o.cls=.ref C) (hq:Q () ⟨h,g,d,t,os⟩) :
  wpAny M A (checkBuiltinCall "BaseException.__getattribute__" ⟨[.ref e,nameV],[]⟩) Q E ⟨h,g,d,t,os⟩:=by
 have hk:builtinKind "BaseException.__getattribute__"=some .slot:=by decide +kernel
 have hsplit:splitId "BaseException.__getattribute__"=some ("BaseException","__getattribute__"):=by decide +kernel
 have ha:=F.args_bexc_ga (.ref e) nameV
 have L1:=looks_mroIn (M:=M) X k.mb
 simp![checkBuiltinCall,hk,hsplit]
 refine AB ?_
 ·unfold isInstance
  repeat (first | (with_reducible refine CF hx ?_;rw[hc]) | (with_reducible refine L1.at ?_) | wp_step)
  exact hq
theorem Bj {tk:Tok} {R:Result->Shared->Prop} (X:K.In h) (k:XAt K C) (hx:h.get? e=some o) (hc:o.cls=.ref C) (hq:R (.ok (.ret (.ref C))) ⟨h,g,d,t,os⟩) :
  codeAny (model prog w) A (.call (.builtin "BaseException.__getattribute__") ⟨[.ref e,.str "__class__" tk],[]⟩) R ⟨h,g,d,t,os⟩ :=
 codeAny_call_builtin F.attr_ValueError.ga.plain F.entry_bexc_ga (wy X k hx hc (wx X k hx hc hq))
theorem Ib {tk:Tok} {Q:Value->Shared->Prop} (X:K.In h) (k:XAt K C) (hx:h.get? e=some o) (hc:o.cls=.ref C) (hq:Q (.ref C) ⟨h,g,d,t,os⟩):wpAny (model prog w) A (getAttrBy (.ref e) (.str "__class__" tk) false) Q E ⟨h,g,d,t,os⟩:=by
 have f3:=F.attr_ValueError.ga.bind (.ref e)
 have hx2:(Value.builtin "BaseException.__getattribute__"==Value.builtin "object.__getattribute__")=false:=by decide +kernel
 have hx1:(onTheHeap (Value.ref C)&&Value.builtin "BaseException.__getattribute__"==Value.builtin "object.__getattribute__")=false:=by rw[hx2];rfl
 have hx0:(false&&onTheHeap (Value.builtin "BaseException.__getattribute__"))=false:=rfl
 have L1:=looks_findIn (M:=model prog w) X k.ga
 have L2:=looks_findIn (M:=model prog w) X k.gh
 repeat (any_goals (first | assumption | (with_reducible refine CF hx ?_;rw[hc]) | (with_reducible refine L1.at ?_) | (with_reducible refine L2.at ?_) | wp_step))
 refine Bj X k hx hc ?_
 repeat (any_goals (first | assumption | wp_step))
theorem Bk {Q:Option Value->Shared->Prop} (X:K.In h) (k:XAt K C) (hx:h.get? e=some o) (hc:o.cls=.ref C) (hq:Q (some (.ref C)) ⟨h,g,d,t+1,os⟩):wpAny (model prog w) A (getAttr? (.ref e) "__class__") Q E ⟨h,g,d,t,os⟩:=by
 unfold getAttr? getAttrBy?
 repeat (any_goals (first | assumption | with_reducible apply Ib X k hx hc | wp_step))
end
theorem wz {K:Frag} {e C:Addr} (k:XAt K C):KitX K (.ref e) (.ref C) (λh=>∃o vs,h.get? e=some o/\o.cls=.ref C/\o.data=.fields vs) where
 ty:=λM h _ ⟨o,_,h1,h2,_⟩=>h2 ▸ (Looks.ld h1).andThen .now
 it:=λ_ _ X _=>by
  obtain⟨cd,hc,_⟩:=EZ.mp k.mo
  unfold clsIn at hc
  split at hc
  ·next ho =>
   intro A' Q' E' s' kk q
   unfold isType loadHead
   exact AB (wpAny_loadPart (kk _ _ (X _ _ ho)) (AJ q))
  ·cases hc
 ne:=λh tp dd its n sl X htp=>by
  obtain⟨cd,hc,_⟩:=EZ.mp k.mo
  refine Bool.eq_false_iff.mpr λq=>?_
  have e:C=tp:=Value.ref.inj (beq_iff_eq.mp q)
  subst e
  unfold clsIn at hc
  split at hc
  ·next ho =>
   have z:=(X _ _ ho).symm.trans htp
   cases z
  ·cases hc
 ca:=λ{_ _ _ _ _ s} X ⟨o,_,h1,h2,_⟩ q=>by
  obtain⟨h,g,d,t,os⟩:=s
  exact Bk X k h1 h2 q
end L2
namespace Lp
open PySem
inductive D where
 | non | bl (b:Bool) | int (i:Int) | str (x:Str)
 | tup (ds:List D) | lst (ds:List D) | loc (n:Nat)
 deriving Inhabited
def D.pureN:Nat->D->Bool
 | 0,d=>match d with | .tup _=>false | .lst _=>false | .loc _=>false | _=>true
 | k+1,d=>match d with | .tup ds=>ds.all (D.pureN k) | .lst ds=>ds.all (D.pureN k) | .loc _=>false | _=>true
abbrev D.pure (d:D):Bool:=D.pureN 8 d
inductive O where
 | l (ds:List D)
 | r (ds:List D)
 | d (kvs:List (D×D))
 | dt (kvs:List (D×D))
 | x (c:Str)
 | dead
 deriving Inhabited
abbrev Sto:=List O
abbrev Sl:=List (Option D)
inductive Res (α:Type) where
 | ok (a:α) (μ:Sto)
 | exc (c:Nat) (ds:List D) (μ:Sto)
 | stuck
namespace Res
variable {α β : Type}
def bind (x:Res α) (f:α->Sto->Res β):Res β:=match x with
 | .ok a μ=>f a μ
 | .exc c ds μ=>.exc c ds μ
 | .stuck=>.stuck
@[simp] theorem bp (a:α) (μ:Sto) (f:α->Sto->Res β):(Res.ok a μ).bind f=f a μ:=rfl
@[simp] theorem G5 (c:Nat) (ds:List D) (μ:Sto) (f:α->Sto->Res β):(Res.exc c ds μ:Res α).bind f=.exc c ds μ:=rfl
@[simp] theorem Ct (f:α->Sto->Res β):(Res.stuck:Res α).bind f=.stuck:=rfl
theorem bind_assoc {γ:Type} (x:Res α) (f:α->Sto->Res β) (g:β->Sto->Res γ):(x.bind f).bind g=x.bind λa μ=>(f a μ).bind g:=by
 cases x<;>rfl
end Res
inductive Mk where | z | l | r
 deriving DecidableEq,Inhabited
inductive Bt where
 | len | tuple | list | sum | min | min1 | max | all | any | sorted | sortedSet | sortedL | int | listRev | listRange | tupleRange | dictP
 deriving DecidableEq,Inhabited
inductive Mt where
 | append | pop | extend | extendT | insert | remove | reverse | clear | count | countL | get
 deriving DecidableEq,Inhabited
inductive Cl where
 | int | bool | tuple | list | str | own (c:Str)
 deriving DecidableEq,Inhabited
inductive Tg where
 | one (i:Nat) | many (is:List Nat)
 deriving DecidableEq,Inhabited
inductive Cp where
 | eq | ne | eqM | neM | lt | le | gt | ge | is | isnot | in_ | notin
 deriving DecidableEq,Inhabited
mutual
inductive Ex where
 | var (i:Nat)
 | frz (i:Nat)
 | cst (d:D)
 | bin (op:Operator) (m:Mk) (a b:Ex)
 | neg (a:Ex)
 | not (a:Ex)
 | and (a b:Ex)
 | or (a b:Ex)
 | ite (c a b:Ex)
 | cmp (a:Ex) (r:Cps)
 | call (keep:Bool) (f:Nat) (es:Exs)
 | blt (b:Bt) (m:Mk) (es:Exs)
 | isi (a:Ex) (c:Cl)
 | meth (mt:Mt) (o:Ex) (es:Exs)
 | ix (a b:Ex)
 | dix (a b:Ex)
 | sl (m:Mk) (a:Ex) (lo hi:ExO)
 | tup (es:Exs)
 | lst (m:Mk) (es:Exs)
 | dic (t:Bool) (es:Exs)
 | inT (neg:Bool) (es:Exs) (d:Ex)
 | comp (m:Mk) (cap:List Nat) (nl:Nat) (tg:Tg) (it:It) (cs:Exs) (elt:Ex)
inductive Exs where
 | nil
 | cons (e:Ex) (es:Exs)
inductive Cps where
 | nil
 | cons (op:Cp) (e:Ex) (r:Cps)
inductive ExO where
 | no
 | so (e:Ex)
inductive It where
 | seq (e:Ex)
 | rng (a:Ex)
 | rng2 (a b:Ex)
 | rng3 (a b c:Ex)
 | zip (a b:Ex)
 | enum (a:Ex)
 | rev (a:Ex)
 | vals (a:Ex)
end
mutual
inductive Sm where
 | set (i:Nat) (e:Ex)
 | unp (is:List Nat) (e:Ex)
 | setx (o i v:Ex)
 | augx (op:Operator) (o i v:Ex)
 | setxT (o:Ex) (i:Exs) (v:Ex)
 | ex (e:Ex)
 | ite (c:Ex) (a b:Sms)
 | loop (tg:Tg) (it:It) (b:Sms)
 | ret (e:Ex)
 | raise (c:Str) (es:Exs)
 | pl (s:Sm)
 | callx (f:Nat) (es:Exs)
 | tryc (f:Nat) (es:Exs) (ei:Nat) (h:Sms)
 | pass | brk | cont
 | never
inductive Sms where
 | nil
 | cons (s:Sm) (r:Sms)
end
@[irreducible] def lim:Nat:=2 ^ 24
theorem yx:lim=2 ^ 24:=by with_unfolding_all rfl
theorem ip:1000000<=lim:=by rw[yx];decide
def cy (μ:Sto):D->Option (List D)
 | .tup ds=>some ds
 | .lst ds=>some ds
 | .loc n=>match μ[n]? with
  | some (.l ds)=>some ds
  | some (.r ds)=>some ds
  | _=>none
 | _=>none
def listOf (μ:Sto):D->Option (List D)
 | .lst ds=>some ds
 | .loc n=>match μ[n]? with
  | some (.l ds)=>some ds
  | some (.r ds)=>some ds
  | _=>none
 | _=>none
def fk {α β:Type} (o:Option α) (k:α->Res β):Res β:=match o with
 | some a=>k a
 | none=>.stuck
@[simp] theorem fo {α β:Type} (a:α) (k:α->Res β):fk (some a) k=k a:=rfl
@[simp] theorem Bl {α β:Type} (k:α->Res β):fk none k=.stuck:=rfl
def mkL (m:Mk) (ds:List D) (μ:Sto):Res D:=match m with
 | .z=>.ok (.lst ds) μ
 | .l=>if ds.all (D.pureN 8)=true then .ok (.loc μ.length) (μ++[.l ds])else .stuck
 | .r=>.ok (.loc μ.length) (μ++[.r ds])
mutual
def deq:D->D->Bool
 | .non,.non=>true
 | .bl a,.bl b=>a==b
 | .int a,.int b=>decide (a=b)
 | .bl a,.int b=>decide ((if a then 1 else 0:Int)=b)
 | .int a,.bl b=>decide (a=(if b then 1 else 0:Int))
 | .str a,.str b=>decide (a=b)
 | .tup a,.tup b=>w4 a b
 | .lst a,.lst b=>w4 a b
 | _,_=>false
def w4:List D->List D->Bool
 | [],[]=>true
 | a::r,b::q=>deq a b&&w4 r q
 | _,_=>false
end
def rs1 (μ:Sto):Nat->D->D
 | 0,d=>d
 | _,.loc n=>match μ[n]? with
  | some (.l ds)=>.lst ds
  | some (.r ds)=>.lst ds
  | _=>.loc n
 | k+1,.tup ds=>.tup (ds.map (rs1 μ k))
 | k+1,.lst ds=>.lst (ds.map (rs1 μ k))
 | _,d=>d
def rs (μ:Sto) (d:D):D:=rs1 μ 8 (rs1 μ 8 (rs1 μ 8 d))
def eh:List D->Option (List Int)
 | []=>some []
 | .int i::r=>(eh r).map (i::·)
 | _=>none
def gj:List D->Option (List Bool)
 | []=>some []
 | .bl i::r=>(gj r).map (i::·)
 | _=>none
def lexLt:List Int->List Int->Bool
 | _,[]=>false
 | [],_::_=>true
 | x::xs,y::ys=>if x=y then lexLt xs ys else decide (x<y)
def rowsOf:List D->Option (List (List Int))
 | []=>some []
 | .tup ds::r=>(eh ds).bind λx=>(rowsOf r).map (x::·)
 | _=>none
def ixN (n:Nat) (i:Int):Option Nat:=if 0<=i then(if i<n then some i.toNat else none)else if -(n:Int)<=i then some (i+n).toNat else none
def sIx (n d:Nat):Option Int->Nat
 | none=>d
 | some v=>if v<0 then(v+(n:Int)).toNat else min v.toNat n
def cut (ds:List D) (lo hi:Option Int):List D:=(ds.drop (sIx ds.length 0 lo)).take (sIx ds.length ds.length hi-sIx ds.length 0 lo)
def CMul (i j:Int):Prop:=(-(2 ^ 64)<i/\i<2 ^ 64)\/(-(2 ^ 64)<j/\j<2 ^ 64)
instance (i j:Int):Decidable (CMul i j):=by unfold CMul;infer_instance
def opI (op:Operator) (i j:Int) (μ:Sto):Res D:=match op with
 | .Add=>.ok (.int (i+j)) μ
 | .Sub=>.ok (.int (i-j)) μ
 | .Mult=>if CMul i j then .ok (.int (i*j)) μ else .stuck
 | .FloorDiv=>if 0<j/\j<1073741824 then .ok (.int (i / j)) μ else .stuck
 | .Mod=>if 0<j then .ok (.int (i % j)) μ else .stuck
 | .Pow=>if 0<=j/\j<=1000000/\i.natAbs<2 ^ 64 then .ok (.int (i ^ j.toNat)) μ else .stuck
 | .RShift=>if 0<=j then .ok (.int (i / 2 ^ j.toNat)) μ else .stuck
 | _=>.stuck
def opD (op:Operator) (m:Mk) (a b:D) (μ:Sto):Res D:=match a,b with
 | .int i,.int j=>opI op i j μ
 | .tup xs,.tup ys=>match op with
  | .Add=>if xs.length+ys.length<=lim then .ok (.tup (xs++ys)) μ else .stuck
  | _=>.stuck
 | x,.int j=>match op,listOf μ x with
  | .Mult,some xs=>if xs.length*j.toNat<=lim /\ -(2 ^ 63)<=j/\j<2 ^ 63 then mkL m (List.replicate j.toNat xs).flatten μ else .stuck
  | _,_=>.stuck
 | x,y=>match op,listOf μ x,listOf μ y with
  | .Add,some xs,some ys=>if xs.length+ys.length<=lim then mkL m (xs++ys) μ else .stuck
  | _,_,_=>.stuck
def flat:D->Bool
 | .tup _=>false
 | .lst _=>false
 | .loc _=>false
 | _=>true
def bf (μ:Sto) (x:D):Option (List D×Option (Nat×O)):=match x with
 | .tup ds=>some (ds,none)
 | .lst ds=>some (ds,none)
 | .loc n=>match μ[n]? with
  | some (.l ds)=>some (ds,some (n,.l ds))
  | some (.r ds)=>some (ds,some (n,.r ds))
  | _=>none
 | _=>none
def yy:D->Bool
 | .int _=>true
 | .str _=>true
 | _=>false
def Ld:D->Bool
 | .tup ds=>ds.all yy
 | _=>false
def w6 (k:D):List (D×D)->Option D
 | []=>none
 | (x,v)::r=>if deq x k then some v else w6 k r
def dput (k v:D) (kvs:List (D×D)):List (D×D) :=
 if(kvs.any λp=>deq p.1 k)=true then kvs.map (λp=>if deq p.1 k=true then(p.1,v)else p)else kvs++[(k,v)]
def dictAt (μ:Sto) (o k:D):Option (List (D×D)):=match o with
 | .loc n=>match μ[n]? with
  | some (.d kvs)=>if yy k=true then some kvs else none
  | _=>none
 | _=>none
def Bm (μ:Sto) (o:D) (ks:List D):Option (List (D×D)):=match o with
 | .loc n=>match μ[n]? with
  | some (.dt kvs)=>if ks.all yy=true then some kvs else none
  | _=>none
 | _=>none
def bg:List (Option D)->Option (List D)
 | []=>some []
 | none::_=>none
 | some d::r=>match bg r with
  | some ds=>some (d::ds)
  | none=>none
def au (μ:Sto):Nat->D->Option D
 | 0,d=>if flat d=true then some d else none
 | k+1,d=>match d with
  | .tup ds=>(bg (ds.map (au μ k))).map .tup
  | .lst ds=>(bg (ds.map (au μ k))).map .lst
  | .loc n=>match μ[n]? with
   | some (.l ds)=>(bg (ds.map (au μ k))).map .lst
   | some (.r ds)=>(bg (ds.map (au μ k))).map .lst
   | _=>none
  | d=>some d
def cpD (op:Cp) (a b:D) (μ:Sto):Res D:=match op with
 | .eq=>if a.pure=true/\b.pure=true then .ok (.bl (deq a b)) μ else .stuck
 | .ne=>if a.pure=true/\b.pure=true then .ok (.bl (!deq a b)) μ else .stuck
 | .eqM=>match au μ 8 a,au μ 8 b with
  | some x,some y=>.ok (.bl (deq x y)) μ
  | _,_=>.stuck
 | .neM=>match au μ 8 a,au μ 8 b with
  | some x,some y=>.ok (.bl (!deq x y)) μ
  | _,_=>.stuck
 | .lt=>match a,b with
  | .int i,.int j=>.ok (.bl (decide (i<j))) μ
  | .tup x,.tup y=>match eh x,eh y with
   | some xs,some ys=>.ok (.bl (lexLt xs ys)) μ
   | _,_=>.stuck
  | _,_=>.stuck
 | .le=>match a,b with
  | .int i,.int j=>.ok (.bl (decide (i<=j))) μ
  | .tup x,.tup y=>match eh x,eh y with
   | some xs,some ys=>.ok (.bl (!lexLt ys xs)) μ
   | _,_=>.stuck
  | _,_=>.stuck
 | .gt=>match a,b with
  | .int i,.int j=>.ok (.bl (decide (j<i))) μ
  | _,_=>.stuck
 | .ge=>match a,b with
  | .int i,.int j=>.ok (.bl (decide (j<=i))) μ
  | .tup x,.tup y=>match eh x,eh y with
   | some xs,some ys=>.ok (.bl (!lexLt xs ys)) μ
   | _,_=>.stuck
  | _,_=>.stuck
 | .is=>match b with
  | .non=>.ok (.bl (match a with | .non=>true | _=>false)) μ
  | .bl k=>match a with
   | .bl j=>.ok (.bl (j==k)) μ
   | .non=>.ok (.bl false) μ
   | _=>.stuck
  | _=>.stuck
 | .isnot=>match b with
  | .non=>.ok (.bl (match a with | .non=>false | _=>true)) μ
  | .bl k=>match a with
   | .bl j=>.ok (.bl (!(j==k))) μ
   | .non=>.ok (.bl true) μ
   | _=>.stuck
  | _=>.stuck
 | .in_=>match cy μ b with
  | some ds=>if flat a=true/\ds.all flat=true then .ok (.bl (ds.any λy=>deq y a)) μ else .stuck
  | none=>match dictAt μ b a with
   | some kvs=>.ok (.bl (w6 a kvs).isSome) μ
   | none=>.stuck
 | .notin=>match cy μ b with
  | some ds=>if flat a=true/\ds.all flat=true then .ok (.bl (!ds.any λy=>deq y a)) μ else .stuck
  | none=>match dictAt μ b a with
   | some kvs=>.ok (.bl (!(w6 a kvs).isSome)) μ
   | none=>.stuck
def insI (x:Int):List Int->List Int
 | []=>[x]
 | y::r=>if x<=y then x::y::r else y::insI x r
def sortI:List Int->List Int
 | []=>[]
 | x::r=>insI x (sortI r)
def J4 (x:List Int):List (List Int)->List (List Int)
 | []=>[x]
 | y::r=>if lexLt y x=true then y::J4 x r else x::y::r
def Bn:List (List Int)->List (List Int)
 | []=>[]
 | x::r=>J4 x (Bn r)
def J5:Int->List Int->Int
 | x,[]=>x
 | x,y::r=>J5 (if y<x then y else x) r
def iq (f:D->Sto->Res D) (ds:List D) (μ:Sto):Res D:=match ds with
 | [x]=>f x μ
 | _=>.stuck
@[simp] theorem oo (f:D->Sto->Res D) (x:D) (μ:Sto):iq f [x] μ=f x μ:=rfl
def seq1 (f:List D->Sto->Res D) (x:D) (μ:Sto):Res D:=match cy μ x with
 | some xs=>f xs μ
 | none=>.stuck
def Cu (f:List Int->Sto->Res D) (x:D) (μ:Sto):Res D:=match(cy μ x).bind eh with
 | some ns=>f ns μ
 | none=>.stuck
def se (f:List Bool->Sto->Res D) (x:D) (μ:Sto):Res D:=match(cy μ x).bind gj with
 | some ns=>f ns μ
 | none=>.stuck
def w8 (m:Mk) (x:D) (μ:Sto):Res D:=match listOf μ x with
 | some xs=>mkL m xs.reverse μ
 | none=>.stuck
def minD (ds:List D) (μ:Sto):Res D:=match ds with
 | [.int i,.int j]=>.ok (.int (if j<i then j else i)) μ
 | _=>.stuck
def maxD (ds:List D) (μ:Sto):Res D:=match ds with
 | [.int i,.int j]=>.ok (.int (if j > i then j else i)) μ
 | _=>.stuck
def Bo (m:Mk) (xs:List D) (μ:Sto):Res D:=match rowsOf xs with
 | some rs=>if rs.all (λr=>!r.isEmpty)=true then mkL m ((Bn rs).map λr=>.tup (r.map .int)) μ else .stuck
 | none=>.stuck
def Le (ns:List Int):List Int:=ns.foldl (λσ k=>if σ.any (·==k)then σ else σ++[k]) []
def D7 (m:Mk):D->Sto->Res D:=Cu λns μ=>if ns.length<64 then mkL m ((sortI (Le ns)).map .int) μ else .stuck
def D8 (m:Mk) (x:D) (μ:Sto):Res D:=match listOf μ x with
 | some xs=>if xs.length<64 then Bo m xs μ else .stuck
 | none=>.stuck
def D9:List D->Sto->Option (List (List Int)×Sto)
 | [],μ=>some ([],μ)
 | .loc n::r,μ=>match μ[n]? with
  | some (.l ds)=>match eh ds,D9 r (μ.set n .dead)with
   | some x,some p=>some (x::p.1,p.2)
   | _,_=>none
  | _=>none
 | _,_=>none
def Bp (m:Mk) (x:D) (μ:Sto):Res D:=match listOf μ x with
 | some xs=>if xs.length<64 then(match D9 xs μ with
  | some p=>mkL m ((Bn p.1).map λr=>.lst (r.map .int)) p.2
  | none=>.stuck)else .stuck
 | none=>.stuck
def Ic:D->Sto->Res D:=Cu λns μ=>match ns with
 | n::r=>.ok (.int (J5 n r)) μ
 | []=>.stuck
def Ea (x:D) (μ:Sto):Res D:=match x with
 | .bl b=>.ok (.int (if b then 1 else 0)) μ
 | .int i=>.ok (.int i) μ
 | _=>.stuck
def yz (f:List D->Sto->Res D) (x:D) (μ:Sto):Res D:=match x with
 | .int j=>if -(lim:Int)<=j/\j<=lim then f ((List.range j.toNat).map fun(i:Nat)=>D.int i) μ else .stuck
 | _=>.stuck
def y0:List D->Option (List (D×D))
 | []=>some []
 | .tup [k,v]::r=>if yy k=true/\v.pure=true then(y0 r).map ((k,v)::·)else none
 | _=>none
def Eb (x:D) (μ:Sto):Res D:=match(listOf μ x).bind y0 with
 | some ps=>if ps.length<1000 then .ok (.loc μ.length) (μ++[.d (ps.foldl (λm p=>dput p.1 p.2 m) [])])else .stuck
 | none=>.stuck
def btD (b:Bt) (m:Mk) (ds:List D) (μ:Sto):Res D:=match b with
 | .len=>iq (seq1 λxs μ=>.ok (.int xs.length) μ) ds μ
 | .tuple=>iq (seq1 λxs μ=>.ok (.tup xs) μ) ds μ
 | .list=>iq (seq1 λxs μ=>mkL m xs μ) ds μ
 | .listRev=>iq (w8 m) ds μ
 | .sum=>iq (Cu λns μ=>.ok (.int ns.sum) μ) ds μ
 | .min=>minD ds μ
 | .max=>maxD ds μ
 | .all=>iq (se λbs μ=>.ok (.bl (bs.all id)) μ) ds μ
 | .any=>iq (se λbs μ=>.ok (.bl (bs.any id)) μ) ds μ
 | .sorted=>iq (D8 m) ds μ
 | .min1=>iq Ic ds μ
 | .sortedSet=>iq (D7 m) ds μ
 | .sortedL=>iq (Bp m) ds μ
 | .int=>iq Ea ds μ
 | .listRange=>iq (yz λxs μ=>mkL m xs μ) ds μ
 | .tupleRange=>iq (yz λxs μ=>.ok (.tup xs) μ) ds μ
 | .dictP=>iq Eb ds μ
def xcls:List Str:=["BadBook","BadTicks","NoDeed","NoRest"]
def qq (k c:Str):Bool:=decide (c=k) || decide (c="LampError") || decide (c="ValueError")
def Cv (c:Cl) (d:D) (μ:Sto):Res D:=match d,c with
 | .int _,.int=>.ok (.bl true) μ
 | .bl _,.int=>.ok (.bl true) μ
 | .bl _,.bool=>.ok (.bl true) μ
 | .tup _,.tuple=>.ok (.bl true) μ
 | .lst _,.list=>.ok (.bl true) μ
 | .str _,.str=>.ok (.bl true) μ
 | .loc n,.list=>match μ[n]? with
  | some (.l _)=>.ok (.bl true) μ
  | some (.r _)=>.ok (.bl true) μ
  | _=>.stuck
 | .loc n,.own c=>match μ[n]? with
  | some (.x k)=>if xcls.contains k=true then .ok (.bl (qq k c)) μ else .stuck
  | _=>.stuck
 | .loc _,_=>.stuck
 | _,.own _=>.stuck
 | _,_=>.ok (.bl false) μ
def putL (n:Nat) (o:O) (ds:List D) (d:D) (μ:Sto):Res D:=match o with
 | .l _=>.ok d (μ.set n (.l ds))
 | .r _=>.ok d (μ.set n (.r ds))
 | _=>.stuck
def fits (o:O) (d:D):Bool:=match o with
 | .l _=>d.pure
 | .r _=>true
 | _=>false
def d5:O->Option (List D)
 | .l ds=>some ds
 | .r ds=>some ds
 | _=>none
def mtL (mt:Mt) (n:Nat) (ob:O) (xs:List D) (ds:List D) (μ:Sto):Res D:=match mt with
 | .append=>iq (λd μ=>if fits ob d=true/\xs.length<lim then putL n ob (xs++[d]) .non μ else .stuck) ds μ
 | .pop=>match ds with
  | []=>match xs.getLast? with
   | some d=>putL n ob xs.dropLast d μ
   | none=>.stuck
  | [.int i]=>if 0<=i/\i<lim then(match xs[i.toNat]? with
   | some d=>putL n ob (xs.eraseIdx i.toNat) d μ
   | none=>.stuck)else .stuck
  | _=>.stuck
 | .extend=>iq (λy μ=>match listOf μ y with
  | some ys=>if ys.all (fits ob)=true/\xs.length+ys.length<=lim then putL n ob (xs++ys) .non μ else .stuck
  | none=>.stuck) ds μ
 | .extendT=>iq (λy μ=>match y with
  | .tup ys=>if ys.all (fits ob)=true/\xs.length+ys.length<=lim then putL n ob (xs++ys) .non μ else .stuck
  | _=>.stuck) ds μ
 | .insert=>match ds with
  | [.int i,d]=>if 0<=i/\i<=(xs.length:Int)/\fits ob d=true/\xs.length<lim then putL n ob (xs.take i.toNat++d::xs.drop i.toNat) .non μ else .stuck
  | _=>.stuck
 | .remove=>iq (λd μ=>match bg (xs.map (au μ 8)),au μ 8 d with
  | some es,some e=>match es.findIdx? (λx=>deq x e)with
   | some j=>putL n ob (xs.eraseIdx j) .non μ
   | none=>.stuck
  | _,_=>.stuck) ds μ
 | .reverse=>match ds with
  | []=>putL n ob xs.reverse .non μ
  | _=>.stuck
 | .clear=>match ds with
  | []=>putL n ob [] .non μ
  | _=>.stuck
 | _=>.stuck
def J6 (xs ds:List D) (μ:Sto):Res D:=iq (λx μ=>if flat x=true/\xs.all flat=true then .ok (.int (xs.countP λy=>deq y x)) μ else .stuck) ds μ
def Lg (o:D) (ds:List D) (μ:Sto):Res D:=match o with
 | .tup xs=>J6 xs ds μ
 | _=>.stuck
def Lh (o:D) (ds:List D) (μ:Sto):Res D:=match listOf μ o with
 | some xs=>J6 xs ds μ
 | none=>.stuck
def ir (mt:Mt) (x:D) (μ:Sto):Bool:=match mt with
 | .get=>match x with
  | .loc n=>match μ[n]? with
   | some (.d _)=>true
   | _=>false
  | _=>false
 | .count=>match x with
  | .tup _=>true
  | _=>false
 | _=>(listOf μ x).isSome
def Ie (o:D) (ds:List D) (μ:Sto):Res D:=match ds with
 | [k,x]=>match dictAt μ o k with
  | some kvs=>.ok ((w6 k kvs).getD x) μ
  | none=>.stuck
 | _=>.stuck
def p9 (mt:Mt) (o:D) (ds:List D) (μ:Sto):Res D:=match o with
 | .loc n=>match μ[n]? with
  | none=>.stuck
  | some ob=>match d5 ob with
   | none=>.stuck
   | some xs=>mtL mt n ob xs ds μ
 | _=>.stuck
def mtD (mt:Mt) (o:D) (ds:List D) (μ:Sto):Res D:=match mt with
 | .count=>Lg o ds μ
 | .countL=>Lh o ds μ
 | .get=>Ie o ds μ
 | mt=>p9 mt o ds μ
def Ig (a:D) (ks:List D) (v:D) (μ:Sto):Res Unit:=match a with
 | .loc n=>match μ[n]? with
  | some (.dt kvs)=>if ks.all yy=true/\v.pure=true/\kvs.length<lim then .ok () (μ.set n (.dt (dput (.tup ks) v kvs)))else .stuck
  | _=>.stuck
 | _=>.stuck
def Li (neg:Bool) (ks:List D) (a:D) (μ:Sto):Res D:=match Bm μ a ks with
 | some kvs=>.ok (.bl (neg ^^ (w6 (.tup ks) kvs).isSome)) μ
 | none=>.stuck
def ixD (a b:D) (μ:Sto):Res D:=match b with
 | .int i=>match cy μ a with
  | some xs=>match ixN xs.length i with
   | some j=>match xs[j]? with
    | some d=>.ok d μ
    | none=>.stuck
   | none=>.stuck
  | none=>.stuck
 | _=>.stuck
def ixL (a b:D) (μ:Sto):Res D:=match a with
 | .loc n=>ixD (.loc n) b μ
 | _=>.stuck
def Ih (a b:D) (μ:Sto):Res D:=match dictAt μ a b with
 | some kvs=>match w6 b kvs with
  | some v=>.ok v μ
  | none=>.stuck
 | none=>.stuck
def J7 (op:Operator) (a b:D) (μ:Sto):Res D:=match a,b with
 | .int i,.int j=>match op with
  | .Add=>.ok (.int (i+j)) μ
  | .Sub=>.ok (.int (i-j)) μ
  | _=>.stuck
 | _,_=>.stuck
def slD (m:Mk) (a:D) (lo hi:Option Int) (μ:Sto):Res D:=match a with
 | .tup xs=>.ok (.tup (cut xs lo hi)) μ
 | x=>match listOf μ x with
  | some xs=>mkL m (cut xs lo hi) μ
  | none=>.stuck
def qr (a b v:D) (μ:Sto):Res Unit:=match a with
 | .loc n=>match μ[n]? with
  | none=>.stuck
  | some (.d kvs)=>if yy b=true/\v.pure=true/\kvs.length<lim then .ok () (μ.set n (.d (dput b v kvs)))else .stuck
  | some ob=>match d5 ob,b with
   | some xs,.int i=>match ixN xs.length i with
    | some j=>if fits ob v=true then(putL n ob (xs.set j v) .non μ).bind λ_ μ=>.ok () μ else .stuck
    | none=>.stuck
   | _,_=>.stuck
 | _=>.stuck
def di (tg:Tg) (d:D) (σ:Sl):Option Sl:=match tg with
 | .one i=>some (σ.set i (some d))
 | .many is=>match d with
  | .tup ds=>if ds.length=is.length then some ((is.zip ds).foldl (λs p=>s.set p.1 (some p.2)) σ)else none
  | _=>none
abbrev Gd:=Option (Nat×O)
def gd (g:Gd) (μ:Sto):Prop:=match g with
 | none=>True
 | some (n,o)=>μ[n]? = some o
@[simp] theorem sf (μ:Sto):gd none μ=True:=rfl
open Classical in
def mapR (g:Gd) (f:D->Sto->Res (List D)):List D->Sto->Res (List D)
 | [],μ=>if gd g μ then .ok [] μ else .stuck
 | d::ds,μ=>if gd g μ then(f d μ).bind λxs μ1=>(mapR g f ds μ1).bind λys μ2=>.ok (xs++ys) μ2 else .stuck
inductive Fl where
 | nx (σ:Sl) | rt (d:D) | bk (σ:Sl) | ct (σ:Sl)
open Classical in
def fi (g:Gd) (f:D->Sl->Sto->Res Fl):List D->Sl->Sto->Res Fl
 | [],σ,μ=>if gd g μ then .ok (.nx σ) μ else .stuck
 | d::ds,σ,μ=>if gd g μ then(f d σ μ).bind λfl μ1=>match fl with
  | .nx σ1=>fi g f ds σ1 μ1
  | .ct σ1=>fi g f ds σ1 μ1
  | .bk σ1=>.ok (.nx σ1) μ1
  | .rt v=>.ok (.rt v) μ1 else .stuck
def J8 (t:Bool) (ds:List D) (μ:Sto):Res D:=match ds with
 | []=>.ok (.loc μ.length) (μ++[if t then .dt []else .d []])
 | [.int a,x]=>if t=false/\x.pure=true then .ok (.loc μ.length) (μ++[.d [(.int a,x)]])else .stuck
 | [.int a,x,.int b,y]=>if t=false/\x.pure=true/\y.pure=true then .ok (.loc μ.length) (μ++[.d (dput (.int b) y [(.int a,x)])])else .stuck
 | _=>.stuck
abbrev Phi:=Nat->List D->Sto->Res D
def D.belowN (b:Nat):Nat->D->Bool
 | 0,d=>match d with | .tup _=>false | .lst _=>false | .loc n=>decide (n<b) | _=>true
 | k+1,d=>match d with | .tup ds=>ds.all (D.belowN b k) | .lst ds=>ds.all (D.belowN b k) | .loc n=>decide (n<b) | _=>true
def dr (b:Nat):O->Bool
 | .r ds=>ds.all (D.belowN b 8)
 | _=>true
def noR:O->Bool
 | .r _=>false
 | _=>true
def iu (keep:Bool) (base:Nat) (r:Res D):Res D:=match r with
 | .ok d μ'=>if keep=true then .ok d μ' else if D.belowN base 8 d=true/\(μ'.take base).all (dr base)=true then .ok d (μ'.take base)else .stuck
 | x=>x
def xg:D->Option (Sum D Str)
 | .non=>some (.inl .non)
 | .tup [.bl true,d]=>some (.inl d)
 | .tup [.bl false,.str c]=>some (.inr c)
 | _=>none
def lg (base:Nat) (r:Res D):Res (Option Str):=match r with
 | .ok d μ'=>if(μ'.take base).all (dr base)=true then(match xg d with
  | some (.inl _)=>.ok none (μ'.take base)
  | some (.inr c)=>.ok (some c) (μ'.take base)
  | none=>.stuck)else .stuck
 | .exc c ds μ'=>.exc c ds μ'
 | .stuck=>.stuck
def kTh (σ:Sl) (r:Option Str) (μ:Sto):Res Fl:=match r with
 | none=>.ok (.nx σ) μ
 | some c=>.ok (.rt (.tup [.bl false,.str c])) μ
def kPl (fl:Fl) (μ:Sto):Res Fl:=match fl with
 | .nx σ=>.ok (.nx σ) μ
 | _=>.stuck
def kGo (ei:Nat) (fl:Fl) (μ:Sto):Res Fl:=match fl with
 | .nx σ=>.ok (.nx (σ.set ei none)) μ
 | _=>.stuck
def G6 (σ:Sl) (ei:Nat) (h:Sl->Sto->Res Fl) (r:Option Str) (μ:Sto):Res Fl:=match r with
 | none=>.ok (.nx σ) μ
 | some c=>if xcls.contains c=true then(h (σ.set ei (some (.loc μ.length))) (μ++[.x c])).bind (kGo ei)else .stuck
def J9 (d:D) (μ:Sto):Res Bool:=match d with
 | .bl b=>.ok b μ
 | _=>.stuck
section
variable (φ : Phi)
mutual
def evE:Ex->Sl->Sto->Res D
 | .var i,σ,μ=>match σ[i]? with
  | some (some d)=>.ok d μ
  | _=>.stuck
 | .frz i,σ,μ=>match σ[i]? with
  | some (some (.loc n))=>match μ[n]? with
   | some (.l ds)=>.ok (.lst ds) (μ.set n .dead)
   | some (.r ds)=>.ok (.lst ds) (μ.set n .dead)
   | _=>.stuck
  | _=>.stuck
 | .cst d,_,μ=>.ok d μ
 | .bin op m a b,σ,μ=>(evE a σ μ).bind λx μ=>(evE b σ μ).bind λy μ=>opD op m x y μ
 | .neg a,σ,μ=>(evE a σ μ).bind λx μ=>match x with
  | .int i=>.ok (.int (-i)) μ
  | _=>.stuck
 | .not a,σ,μ=>(evE a σ μ).bind λx μ=>match x with
  | .bl b=>.ok (.bl (!b)) μ
  | _=>.stuck
 | .and a b,σ,μ=>(evE a σ μ).bind λx μ=>match x with
  | .bl c=>if c=true then evE b σ μ else .ok (.bl false) μ
  | _=>.stuck
 | .or a b,σ,μ=>(evE a σ μ).bind λx μ=>match x with
  | .bl c=>if c=true then .ok (.bl true) μ else evE b σ μ
  | _=>.stuck
 | .ite c a b,σ,μ=>(evE c σ μ).bind λx μ=>match x with
  | .bl c=>if c=true then evE a σ μ else evE b σ μ
  | _=>.stuck
 | .cmp a r,σ,μ=>(evE a σ μ).bind λx μ=>evC r x σ μ
 | .call keep f es,σ,μ=>(dj es σ μ).bind λds μ=>iu keep μ.length (φ f ds μ)
 | .blt b m es,σ,μ=>(dj es σ μ).bind λds μ=>btD b m ds μ
 | .isi a c,σ,μ=>(evE a σ μ).bind λx μ=>Cv c x μ
 | .meth mt o es,σ,μ=>(evE o σ μ).bind λx μ=>if ir mt x μ=true then(dj es σ μ).bind λds μ=>mtD mt x ds μ else .stuck
 | .ix a b,σ,μ=>(evE a σ μ).bind λx μ=>(evE b σ μ).bind λy μ=>ixD x y μ
 | .dix a b,σ,μ=>(evE a σ μ).bind λx μ=>(evE b σ μ).bind λy μ=>Ih x y μ
 | .sl m a lo hi,σ,μ=>(evE a σ μ).bind λx μ=>(evO lo σ μ).bind λl μ=>(evO hi σ μ).bind λh μ=>slD m x l h μ
 | .tup es,σ,μ=>(dj es σ μ).bind λds μ=>.ok (.tup ds) μ
 | .lst m es,σ,μ=>(dj es σ μ).bind λds μ=>mkL m ds μ
 | .dic t es,σ,μ=>(dj es σ μ).bind λds μ=>J8 t ds μ
 | .inT neg es d,σ,μ=>(dj es σ μ).bind λds μ=>(evE d σ μ).bind λx μ=>Li neg ds x μ
 | .comp m cap nl tg it cs elt,σ,μ=>(evI it σ μ).bind λds μ =>
   (mapR ds.2 (λd μ=>fk (di tg d (cap.map (λi=>(σ[i]?).getD none)++List.replicate nl none)) λσ' =>
    (sg cs σ' μ).bind λb μ=>if b=true then(evE elt σ' μ).bind λx μ=>.ok [x] μ else .ok [] μ) ds.1 μ).bind λxs μ=>mkL m xs μ
def dj:Exs->Sl->Sto->Res (List D)
 | .nil,_,μ=>.ok [] μ
 | .cons e es,σ,μ=>(evE e σ μ).bind λd μ=>(dj es σ μ).bind λds μ=>.ok (d::ds) μ
def evC:Cps->D->Sl->Sto->Res D
 | .nil,_,_,_=>.stuck
 | .cons op e r,x,σ,μ=>(evE e σ μ).bind λy μ=>(cpD op x y μ).bind λz μ=>match r with
  | .nil=>.ok z μ
  | r=>match z with
   | .bl b=>if b=true then evC r y σ μ else .ok (.bl false) μ
   | _=>.stuck
def evO:ExO->Sl->Sto->Res (Option Int)
 | .no,_,μ=>.ok none μ
 | .so e,σ,μ=>(evE e σ μ).bind λx μ=>match x with
  | .int i=>.ok (some i) μ
  | _=>.stuck
def sg:Exs->Sl->Sto->Res Bool
 | .nil,_,μ=>.ok true μ
 | .cons e es,σ,μ=>(evE e σ μ).bind λx μ=>match x with
  | .bl b=>if b=true then sg es σ μ else .ok false μ
  | _=>.stuck
def evI:It->Sl->Sto->Res (List D×Gd)
 | .seq e,σ,μ=>(evE e σ μ).bind λx μ=>match bf μ x with
  | some w=>.ok w μ
  | none=>.stuck
 | .rng a,σ,μ=>(evE a σ μ).bind λx μ=>match x with
  | .int j=>if -(lim:Int)<=j/\j<=lim then .ok ((List.range j.toNat).map fun(i:Nat)=>D.int i,none) μ else .stuck
  | _=>.stuck
 | .rng2 a b,σ,μ=>(evE a σ μ).bind λx μ=>(evE b σ μ).bind λy μ=>match x,y with
  | .int i,.int j=>if -(lim:Int)<=i/\i<=lim/\j<=lim /\ -(lim:Int)<=j/\(j-i)<=lim then .ok ((List.range (j-i).toNat).map fun(k:Nat)=>D.int (i+k),none) μ else .stuck
  | _,_=>.stuck
 | .rng3 a b c,σ,μ=>(evE a σ μ).bind λx μ=>(evE b σ μ).bind λy μ=>(evE c σ μ).bind λz μ=>match x,y,z with
  | .int i,.int j,.int k=>if 0<=i/\i<=lim/\j<=lim/\0<=j/\1<=k/\k<=1000 then .ok ((List.range (if i<j then((j-i-1) / k+1).toNat else 0)).map fun(n:Nat)=>D.int (i+n*k),none) μ else .stuck
  | _,_,_=>.stuck
 | .zip a b,σ,μ=>(evE a σ μ).bind λx μ=>(evE b σ μ).bind λy μ=>match bf μ x,cy [] y with
  | some w,some ys=>.ok ((w.1.zip ys).map λp=>.tup [p.1,p.2],w.2) μ
  | _,_=>.stuck
 | .enum a,σ,μ=>(evE a σ μ).bind λx μ=>match bf μ x with
  | some w=>.ok ((List.range w.1.length |>.zip w.1).map fun(p:Nat×D)=>.tup [.int p.1,p.2],w.2) μ
  | none=>.stuck
 | .rev _,_,_=>.stuck
 | .vals a,σ,μ=>(evE a σ μ).bind λx μ=>match x with
  | .loc n=>match μ[n]? with
   | some (.d kvs)=>.ok (kvs.map (·.2),none) (μ.set n .dead)
   | _=>.stuck
  | _=>.stuck
end
mutual
def evS:Sm->Sl->Sto->Res Fl
 | .set i e,σ,μ=>(evE φ e σ μ).bind λd μ=>.ok (.nx (σ.set i (some d))) μ
 | .unp is e,σ,μ=>(evE φ e σ μ).bind λd μ=>match di (.many is) d σ with
  | some σ'=>.ok (.nx σ') μ
  | none=>.stuck
 | .setx o i v,σ,μ=>(evE φ v σ μ).bind λd μ=>(evE φ o σ μ).bind λx μ=>(evE φ i σ μ).bind λy μ=>(qr x y d μ).bind λ_ μ=>.ok (.nx σ) μ
 | .augx op o i v,σ,μ=>(evE φ o σ μ).bind λx μ=>(evE φ i σ μ).bind λy μ=>(ixL x y μ).bind λold μ=>(evE φ v σ μ).bind λd μ=>(J7 op old d μ).bind λz μ=>(qr x y z μ).bind λ_ μ=>.ok (.nx σ) μ
 | .setxT o i v,σ,μ=>(evE φ v σ μ).bind λd μ=>(evE φ o σ μ).bind λx μ=>(dj φ i σ μ).bind λy μ=>(Ig x y d μ).bind λ_ μ=>.ok (.nx σ) μ
 | .ex e,σ,μ=>(evE φ e σ μ).bind λ_ μ=>.ok (.nx σ) μ
 | .ite c a b,σ,μ=>(evE φ c σ μ).bind λx μ=>match x with
  | .bl k=>if k=true then du a σ μ else du b σ μ
  | _=>.stuck
 | .loop tg it b,σ,μ=>(evI φ it σ μ).bind λds μ=>fi ds.2 (λd σ μ=>fk (di tg d σ) λσ'=>du b σ' μ) ds.1 σ μ
 | .ret e,σ,μ=>(evE φ e σ μ).bind λd μ=>.ok (.rt d) μ
 | .raise c es,σ,μ=>(dj φ es σ μ).bind λ_ μ=>.ok (.rt (.tup [.bl false,.str c])) μ
 | .pl s,σ,μ=>(evS s σ μ).bind kPl
 | .callx f es,σ,μ=>(dj φ es σ μ).bind λds μ=>(lg μ.length (φ f ds μ)).bind (kTh σ)
 | .tryc f es ei h,σ,μ=>(dj φ es σ μ).bind λds μ=>(lg μ.length (φ f ds μ)).bind (G6 σ ei λσ μ=>du h σ μ)
 | .pass,σ,μ=>.ok (.nx σ) μ
 | .brk,σ,μ=>.ok (.bk σ) μ
 | .cont,σ,μ=>.ok (.ct σ) μ
 | .never,_,_=>.stuck
def du:Sms->Sl->Sto->Res Fl
 | .nil,σ,μ=>.ok (.nx σ) μ
 | .cons s r,σ,μ=>(evS s σ μ).bind λfl μ=>match fl with
  | .nx σ'=>du r σ' μ
  | fl=>.ok fl μ
end
end
structure Df where
 np:Nat
 nn:Nat
 body:Sms
def y3 (φ:Phi) (f:Df) (ds:List D) (μ:Sto):Res D :=
 if ds.length=f.np then(du φ f.body (ds.map some++List.replicate (f.nn-f.np) none) μ).bind λfl μ=>match fl with
  | .nx _=>.ok .non μ
  | .rt d=>.ok d μ
  | _=>.stuck
 else .stuck
def ao (T:List Df):Nat->Phi
 | 0=>λ_ _ _=>.stuck
 | n+1=>λf ds μ=>match T[f]? with
  | some d=>y3 (ao T n) d ds μ
  | none=>.stuck
open PySem PySem.Spec PyProof.Rows L2
abbrev St:=L2.St
theorem _root_.L2.FzL.sq {K:PySem.W.Frag} {H:Hp} {a:Addr} {xs:List V} (h:FzL K H a xs):SqL K H a xs:=by
 rcases h with⟨o,h⟩ | ⟨its,n,h,hz,hv⟩
 ·exact .inl (.inr ⟨o,h⟩)
 ·exact .inr ⟨_,its.toArray,n,h,rfl,rfl,rfl,by rw[AC,<-hv.length];exact hz,by simpa using hv⟩
def LsL (K:PySem.W.Frag) (H:Hp) (a:Addr) (xs:List V):Prop:=H a=some (.lst xs)\/FzL K H a xs
theorem LsL.sq {K:PySem.W.Frag} {H:Hp} {a:Addr} {xs:List V} (h:LsL K H a xs):SqL K H a xs:=by
 rcases h with h | h
 ·exact .of h
 ·exact h.sq
theorem _root_.L2.Inv.ls {X:Cx} {pins:List (Addr×Obj)} {σ:St} {H:Hp} {s:Shared} {a:Addr} {xs:List V} (I:Inv X pins σ H s) (h:LsL X.K H a xs) :
  xs.length<=sizeLine/\∃(its:List Value) (n:Nat),ay xs its/\xs.length=its.length/\s.heap.get? a=some {cls:=.type "list",data:=.seq its.toArray n}:=by
 rcases h with h | ⟨o,h⟩ | ⟨its,n,h,hz,hv⟩
 ·obtain⟨z,its,n,hv,e⟩:=I.hok a _ h
  exact⟨z,its,n,hv,hv.length,e⟩
 ·obtain⟨_,z,its,n,hv,e⟩:=I.hok a _ h
  exact⟨z,its,n,hv,hv.length,e⟩
 ·exact⟨hz,its,n,hv,hv.length,I.kIn a _ h⟩
structure Ext (H H':Hp):Prop where
 tups:∀b xs,H b=some (.tup xs)->H' b=some (.tup xs)
 frzs:∀b o u,H b=some (.frz o u)->H' b=some (.frz o u)
theorem Ext.refl (H:Hp):Ext H H:=⟨λ_ _ h=>h,λ_ _ _ h=>h⟩
theorem Ext.trans {H H1 H2:Hp} (a:Ext H H1) (b:Ext H1 H2):Ext H H2:=⟨λc xs h=>b.tups c xs (a.tups c xs h),λc o u h=>b.frzs c o u (a.frzs c o u h)⟩
theorem Ext.new {H:Hp} {p:Addr} {o:HO} (h:H p=none):Ext H (upd H p o) :=
 ⟨λb xs e=>by rw[aj (aq e h)];exact e,λb o u e=>by rw[aj (aq e h)];exact e⟩
theorem Ext.lst {H:Hp} {p:Addr} {xs:List V} {o:HO} (h:H p=some (.lst xs)):Ext H (upd H p o) :=
 ⟨λb ys e=>by rw[aj (jf e h (by intro z;cases z))];exact e,λb o u e=>by rw[aj (jf e h (by intro z;cases z))];exact e⟩
theorem Ext.dK {H:Hp} {p:Addr} {xs:List (Key×V)} {o:HO} (h:H p=some (.dK xs)):Ext H (upd H p o) :=
 ⟨λb ys e=>by rw[aj (jf e h (by intro z;cases z))];exact e,λb o u e=>by rw[aj (jf e h (by intro z;cases z))];exact e⟩
theorem _root_.L2.SqT.ext {K:PySem.W.Frag} {H H':Hp} {a:Addr} {xs:List V} (h:SqT K H a xs) (e:Ext H H'):SqT K H' a xs:=by
 rcases h with(h | ⟨o,h⟩) | h
 ·exact .inl (.inl (e.tups _ _ h))
 ·exact .inl (.inr ⟨o,e.frzs _ _ _ h⟩)
 ·exact .inr h
theorem _root_.L2.FzL.ext {K:PySem.W.Frag} {H H':Hp} {a:Addr} {xs:List V} (h:FzL K H a xs) (e:Ext H H'):FzL K H' a xs:=by
 rcases h with⟨o,h⟩ | h
 ·exact .inl ⟨o,e.frzs _ _ _ h⟩
 ·exact .inr h
section
variable (K : PySem.W.Frag) (ι : List Addr) (H : Hp)
mutual
def IsD:D->V->Prop
 | .non,v=>v=.non
 | .bl b,v=>v=.bl b
 | .int i,v=>v=.int i
 | .str x,v=>v=.str x
 | .tup ds,v=>∃a xs,v=.ref a/\SqT K H a xs/\af ds xs
 | .lst ds,v=>∃a xs,v=.ref a/\FzL K H a xs/\af ds xs
 | .loc n,v=>∃a,v=.ref a/\ι[n]? = some a
def af:List D->List V->Prop
 | [],xs=>xs=[]
 | d::ds,xs=>∃v r,xs=v::r/\IsD d v/\af ds r
end
end
section
variable {K : PySem.W.Frag} {ι ι' : List Addr} {H H' : Hp}
mutual
theorem IsD.mono (hp:ι <+: ι') (he:Ext H H'):∀(d:D) (v:V),IsD K ι H d v->IsD K ι' H' d v
 | .non,_,h=>by simpa[IsD]using h
 | .bl b,_,h=>by simpa[IsD]using h
 | .int i,_,h=>by simpa[IsD]using h
 | .str x,_,h=>by simpa[IsD]using h
 | .tup ds,v,h=>by
  simp![IsD]at h ⊢
  obtain⟨a,xs,e,q,r⟩:=h
  exact⟨a,xs,e,q.ext he,af.mono hp he ds xs r⟩
 | .lst ds,v,h=>by
  simp![IsD]at h ⊢
  obtain⟨a,xs,e,q,r⟩:=h
  exact⟨a,xs,e,q.ext he,af.mono hp he ds xs r⟩
 | .loc n,v,h=>by
  simp![IsD]at h ⊢
  obtain⟨a,e,q⟩:=h
  obtain⟨t,rfl⟩:=hp
  exact⟨a,e,by rw[AI (AF.mp q).1];exact q⟩
theorem af.mono (hp:ι <+: ι') (he:Ext H H'):∀(ds:List D) (xs:List V),af K ι H ds xs->af K ι' H' ds xs
 | [],xs,h=>by simpa[af]using h
 | d::ds,xs,h=>by
  simp![af]at h ⊢
  obtain⟨v,r,e,q,t⟩:=h
  exact⟨v,r,e,IsD.mono hp he d v q,af.mono hp he ds r t⟩
end
theorem af.length:∀{ds:List D} {xs:List V},af K ι H ds xs->xs.length=ds.length
 | [],xs,h=>by simp![af]at h;subst h;rfl
 | d::ds,xs,h=>by
  simp![af]at h
  obtain⟨v,r,rfl,_,t⟩:=h
  simp[af.length t]
theorem af.get:∀{ds:List D} {xs:List V} {i:Nat} {d:D},af K ι H ds xs->ds[i]? = some d->∃v,xs[i]? = some v/\IsD K ι H d v
 | [],_,_,_,_,e=>by simp at e
 | d::ds,xs,0,_,h,e=>by
  simp![af]at h
  obtain⟨v,r,rfl,q,_⟩:=h
  simp at e;subst e
  exact⟨v,rfl,q⟩
 | d::ds,xs,i+1,x,h,e=>by
  simp![af]at h
  obtain⟨v,r,rfl,_,t⟩:=h
  obtain⟨w,h1,h2⟩:=af.get (i:=i) (d:=x) t (by simpa using e)
  exact⟨w,by simpa using h1,h2⟩
theorem af.append:∀{ds es:List D} {xs ys:List V},af K ι H ds xs->af K ι H es ys->af K ι H (ds++es) (xs++ys)
 | [],_,_,_,h,g=>by simp![af]at h;subst h;exact g
 | d::ds,es,xs,ys,h,g=>by
  simp![af]at h
  obtain⟨v,r,rfl,q,t⟩:=h
  simp![CB,af]
  exact⟨v,r++ys,rfl,q,af.append t g⟩
theorem af.one {d:D} {v:V} (h:IsD K ι H d v):af K ι H [d] [v]:=by
 simp![af];exact⟨v,[],rfl,h,rfl⟩
theorem af.take:∀{ds:List D} {xs:List V} (n:Nat),af K ι H ds xs->af K ι H (ds.take n) (xs.take n)
 | _,_,0,_=>by simp[af]
 | [],_,n+1,h=>by simp![af]at h;subst h;simp[af]
 | d::ds,xs,n+1,h=>by
  simp![af]at h
  obtain⟨v,r,rfl,q,t⟩:=h
  simp![List.take_succ_cons,af]
  exact⟨v,_,rfl,q,af.take n t⟩
theorem af.drop:∀{ds:List D} {xs:List V} (n:Nat),af K ι H ds xs->af K ι H (ds.drop n) (xs.drop n)
 | _,_,0,h=>by simpa using h
 | [],_,n+1,h=>by simp![af]at h;subst h;simp[af]
 | d::ds,xs,n+1,h=>by
  simp![af]at h
  obtain⟨v,r,rfl,q,t⟩:=h
  simpa using af.drop n t
theorem af.set {d:D} {v:V} (hd:IsD K ι H d v):∀{ds:List D} {xs:List V} (n:Nat),af K ι H ds xs->af K ι H (ds.set n d) (xs.set n v)
 | [],_,n,h=>by simp![af]at h;subst h;simp[af]
 | e::ds,xs,0,h=>by
  simp![af]at h
  obtain⟨w,r,rfl,q,t⟩:=h
  simp![EG,af]
  exact⟨v,r,rfl,hd,t⟩
 | e::ds,xs,n+1,h=>by
  simp![af]at h
  obtain⟨w,r,rfl,q,t⟩:=h
  simp![EH,af]
  exact⟨w,_,rfl,q,af.set hd n t⟩
theorem af.eraseIdx:∀{ds:List D} {xs:List V} (n:Nat),af K ι H ds xs->af K ι H (ds.eraseIdx n) (xs.eraseIdx n)
 | [],_,n,h=>by simp![af]at h;subst h;simp[af]
 | e::ds,xs,0,h=>by
  simp![af]at h
  obtain⟨w,r,rfl,q,t⟩:=h
  simpa using t
 | e::ds,xs,n+1,h=>by
  simp![af]at h
  obtain⟨w,r,rfl,q,t⟩:=h
  simp![DJ,af]
  exact⟨w,_,rfl,q,af.eraseIdx n t⟩
theorem af.dropLast {ds:List D} {xs:List V} (h:af K ι H ds xs):af K ι H ds.dropLast xs.dropLast:=by
 rw[FR,FR,h.length]
 exact h.take _
theorem af.rep {ds:List D} {xs:List V} (h:af K ι H ds xs):∀k:Nat,af K ι H (List.replicate k ds).flatten (List.replicate k xs).flatten
 | 0=>by simp[af]
 | k+1=>by
  simp![CH,DB]
  exact h.append (af.rep h k)
theorem af.ints:∀(ns:List Int),af K ι H (ns.map D.int) (ns.map V.int)
 | []=>by simp[af]
 | n::r=>by
  simp![AQ,af]
  exact⟨_,_,rfl,by simp[IsD],af.ints r⟩
theorem IsD.puren:∀(k:Nat) (d:D) (v:V),D.pureN k d=true->IsD K ι H d v->IsD K ι' H d v:=by
 have list:∀(k:Nat),(∀(d:D) (v:V),D.pureN k d=true->IsD K ι H d v->IsD K ι' H d v) ->
   ∀(ds:List D) (xs:List V),ds.all (D.pureN k)=true->af K ι H ds xs->af K ι' H ds xs:=by
  intro k ih ds
  induction ds with
  | nil=>intro xs _ h;simpa[af]using h
  | cons d ds ihd =>
   intro xs hp h
   simp![af]at h ⊢
   simp![BN,AS]at hp
   obtain⟨v,r,e,q,t⟩:=h
   exact⟨v,r,e,ih d v hp.1 q,ihd r hp.2 t⟩
 intro k
 induction k with
 | zero =>
  intro d v hp h
  cases d<;>simp_all[D.pureN,IsD]
 | succ k ih =>
  intro d v hp h
  cases d with
  | tup ds =>
   simp![D.pureN]at hp
   simp![IsD]at h ⊢
   obtain⟨a,xs,e,q,r⟩:=h
   exact⟨a,xs,e,q,list k ih ds xs hp r⟩
  | lst ds =>
   simp![D.pureN]at hp
   simp![IsD]at h ⊢
   obtain⟨a,xs,e,q,r⟩:=h
   exact⟨a,xs,e,q,list k ih ds xs hp r⟩
  | loc n=>simp[D.pureN]at hp
  | _=>simpa[IsD]using h
theorem IsD.pur {d:D} {v:V} (hp:d.pure=true) (h:IsD K ι H d v):IsD K ι' H d v:=IsD.puren 8 d v hp h
theorem af.pur {ds:List D} {xs:List V} (hp:ds.all (D.pureN 8)=true) (h:af K ι H ds xs):af K ι' H ds xs:=by
 induction ds generalizing xs with
 | nil=>simpa[af]using h
 | cons d ds ih =>
  simp![af]at h ⊢
  simp![BN,AS]at hp
  obtain⟨v,r,e,q,t⟩:=h
  exact⟨v,r,e,IsD.pur hp.1 q,ih hp.2 t⟩
end
section
variable (K : PySem.W.Frag) (ι : List Addr) (H : Hp)
def y4 (kvs:List (D×D)) (xs:List (Key×V)):Prop :=
 Paired (fun(p:D×D) (q:Key×V)=>IsD K [] H p.1 (kV q.1)/\IsD K [] H p.2 q.2) kvs xs
def Lj (kvs:List (D×D)) (xs:List (List Key×V)):Prop :=
 Paired (fun(p:D×D) (q:List Key×V)=>(∃ds,p.1=.tup ds/\af K [] H ds (q.1.map kV))/\IsD K [] H p.2 q.2) kvs xs
def OIs (a:Addr):O->Prop
 | .l ds=>∃xs,H a=some (.lst xs)/\af K [] H ds xs
 | .r ds=>∃xs,H a=some (.lst xs)/\af K ι H ds xs
 | .d kvs=>∃xs,H a=some (.dK xs)/\y4 K H kvs xs
 | .dt kvs=>∃xs,H a=some (.dT xs)/\Lj K H kvs xs
 | .x c=>∃cls,PySem.W.nsIn K mainGlobals c=some (some cls)/\H a=some (G4 a cls)
 | .dead=>∃u,H a=some u
structure Sim (μ:Sto):Prop where
 len:ι.length=μ.length
 nd:ι.Nodup
 obj:∀(n:Nat) a o,ι[n]? = some a->μ[n]? = some o->OIs K ι H a o
def fm (σ:Sl) (σv:St):Prop:=∀(i:Nat) d,σ[i]? = some (some d)->∃v,σv[i]? = some (some v)/\IsD K ι H d v
end
section
variable {K : PySem.W.Frag} {ι ι' : List Addr} {H H' : Hp} {μ : Sto} {σ : Sl} {σv : St}
theorem fm.mono (h:fm K ι H σ σv) (hp:ι <+: ι') (he:Ext H H'):fm K ι' H' σ σv:=λi d e=>by
 obtain⟨v,q,r⟩:=h i d e
 exact⟨v,q,IsD.mono hp he d v r⟩
theorem fm.set (h:fm K ι H σ σv) (hl:σ.length=σv.length) {i:Nat} {d:D} {v:V} (hd:IsD K ι H d v):fm K ι H (σ.set i (some d)) (σv.set i (some v)):=λj e q=>by
 by_cases hj:i=j
 ·subst hj
  by_cases hi:i<σ.length
  ·rw[BM hi]at q
   cases q
   exact⟨v,by rw[BM (by lia)],hd⟩
  ·rw[DQ (by simp;lia)]at q;cases q
 ·rw[BA hj]at q
  obtain⟨w,q1,q2⟩:=h j e q
  exact⟨w,by rw[BA hj];exact q1,q2⟩
theorem OIs.ne (h:OIs K ι H a o):∃u,H a=some u:=by
 cases o with
 | l ds=>obtain⟨xs,e,_⟩:=h;exact⟨_,e⟩
 | r ds=>obtain⟨xs,e,_⟩:=h;exact⟨_,e⟩
 | d kvs=>obtain⟨xs,e,_⟩:=h;exact⟨_,e⟩
 | dt kvs=>obtain⟨xs,e,_⟩:=h;exact⟨_,e⟩
 | x c=>obtain⟨_,_,e⟩:=h;exact⟨_,e⟩
 | dead=>exact h
theorem OIs.mono {a:Addr} {o:O} (h:OIs K ι H a o) (hp:ι <+: ι') (he:Ext H H') (ha:H' a=H a):OIs K ι' H' a o:=by
 cases o with
 | l ds=>obtain⟨xs,e,q⟩:=h;exact⟨xs,ha.trans e,af.mono (AD _) he ds xs q⟩
 | r ds=>obtain⟨xs,e,q⟩:=h;exact⟨xs,ha.trans e,af.mono hp he ds xs q⟩
 | d kvs =>
  obtain⟨xs,e,q⟩:=h
  exact⟨xs,ha.trans e,Paired.mapP q λp r z=>⟨IsD.mono (AD _) he _ _ z.1,IsD.mono (AD _) he _ _ z.2⟩⟩
 | dt kvs =>
  obtain⟨xs,e,q⟩:=h
  exact⟨xs,ha.trans e,Paired.mapP q λp r z=>⟨let ⟨ds,e,t⟩:=z.1;⟨ds,e,af.mono (AD _) he _ _ t⟩,IsD.mono (AD _) he _ _ z.2⟩⟩
 | x c=>obtain⟨k,q,e⟩:=h;exact⟨k,q,ha.trans e⟩
 | dead=>obtain⟨u,e⟩:=h;exact⟨u,ha.trans e⟩
theorem Sim.at (h:Sim K ι H μ) {n:Nat} {o:O} (e:μ[n]? = some o):∃a,ι[n]? = some a/\OIs K ι H a o:=by
 have hn:n<ι.length:=by rw[h.len];exact(AF.mp e).1
 exact⟨ι[n],AA hn,h.obj n _ o (AA hn) e⟩
theorem Sim.used (h:Sim K ι H μ) {n:Nat} {a:Addr} (e:ι[n]? = some a):∃u,H a=some u:=by
 have hn:n<μ.length:=by rw[<-h.len];exact(AF.mp e).1
 exact(h.obj n a _ e (AA hn)).ne
theorem Sim.new (h:Sim K ι H μ) {p:Addr} {o:HO} (hp:H p=none):Sim K ι (upd H p o) μ :=
 ⟨h.len,h.nd,λn a ob e1 e2=>by
  obtain⟨u,hu⟩:=h.used e1
  exact(h.obj n a ob e1 e2).mono (AD _) (.new hp) (aj (aq hu hp))⟩
theorem Sim.push (h:Sim K ι H μ) {p:Addr} {u:HO} {o:O} (hp:H p=none) (ho:OIs K (ι++[p]) (upd H p u) p o):Sim K (ι++[p]) (upd H p u) (μ++[o]):=by
 have hne:∀a∈ι,a≠p:=λa ha z=>by
  obtain⟨n,hn,e⟩:=List.mem_iff_getElem.mp ha
  obtain⟨u,hu⟩:=h.used (n:=n) (by rw[AA hn,e])
  rw[z,hp]at hu;cases hu
 refine⟨by simp[h.len],?_,λn a ob e1 e2=>?_⟩
 ·refine List.nodup_append.mpr ⟨h.nd,by simp,?_⟩
  intro a ha b hb
  have:b=p:=by simpa using hb
  subst this
  exact hne a ha
 ·by_cases hn:n<ι.length
  ·rw[AI hn]at e1
   rw[AI (by rw[<-h.len];exact hn)]at e2
   exact(h.obj n a ob e1 e2).mono ⟨[p],rfl⟩ (.new hp) (aj (hne a (DT e1)))
  ·have hm:n=ι.length:=by
    have:=(AF.mp e1).1
    simp at this;lia
   subst hm
   simp at e1
   rw[h.len]at e2
   simp at e2
   subst e1;subst e2
   exact ho
theorem Sim.put (h:Sim K ι H μ) {n:Nat} {p:Addr} {u:HO} {o:O} (hn:ι[n]? = some p) (he:Ext H (upd H p u)) (ho:OIs K ι (upd H p u) p o):Sim K ι (upd H p u) (μ.set n o):=by
 refine⟨by simp[h.len],h.nd,λk a ob e1 e2=>?_⟩
 by_cases hk:n=k
 ·subst hk
  rw[hn]at e1;cases e1
  have:n<μ.length:=by rw[<-h.len];exact(AF.mp hn).1
  rw[BM this]at e2;cases e2
  exact ho
 ·rw[BA hk]at e2
  refine(h.obj k a ob e1 e2).mono (AD _) he (aj λz=>hk ?_)
  subst z
  obtain⟨h1,e1'⟩:=AF.mp e1
  obtain⟨h2,e2'⟩:=AF.mp hn
  exact(List.getElem_inj h.nd).mp (e2'.trans e1'.symm)
end
def cv {α β:Type} (K:PySem.W.Frag) (R:List Addr->Hp->α->β->Prop) (ι:List Addr) (H:Hp) (r:Res α) (Q:β->Hp->Prop):Prop:=match r with
 | .ok d μ'=>∀ι' v H',ι <+: ι'->Ext H H'->Sim K ι' H' μ'->R ι' H' d v->Q v H'
 | .exc _ _ _=>False
 | .stuck=>False
abbrev RD (K:PySem.W.Frag):List Addr->Hp->D->V->Prop:=λι H d v=>IsD K ι H d v
abbrev RDs (K:PySem.W.Frag):List Addr->Hp->List D->List V->Prop:=λι H d v=>af K ι H d v
abbrev RB:List Addr->Hp->Bool->Bool->Prop:=λ_ _ d v=>d=v
abbrev RO:List Addr->Hp->Option Int->Option Int->Prop:=λ_ _ d v=>d=v
section
variable {α β γ δ : Type} {K : PySem.W.Frag} {R : List Addr -> Hp -> α -> β -> Prop} {S : List Addr -> Hp -> γ -> δ -> Prop} {ι ι' : List Addr} {H H' : Hp}
theorem cv.mono {r:Res α} {Q:β->Hp->Prop} (h:cv K R ι H r Q) (hp:ι <+: ι') (he:Ext H H'):cv K R ι' H' r Q:=by
 cases r with
 | ok d μ=>exact λι2 v H2 p e s q=>h ι2 v H2 (hp.trans p) (he.trans e) s q
 | exc _ _ _=>exact h
 | stuck=>exact h
theorem cv.imp {r:Res α} {Q Q':β->Hp->Prop} (h:cv K R ι H r Q) (hq:∀v H',Q v H'->Q' v H'):cv K R ι H r Q':=by
 cases r with
 | ok d μ=>exact λι2 v H2 p e s q=>hq _ _ (h ι2 v H2 p e s q)
 | exc _ _ _=>exact h
 | stuck=>exact h
theorem cv.ok {d:α} {μ:Sto} {v:β} {Q:β->Hp->Prop} (h:cv K R ι H (.ok d μ) Q) (hs:Sim K ι H μ) (hr:R ι H d v):Q v H:=h ι v H (AD _) (.refl _) hs hr
theorem cv.bind {x:Res α} {f:α->Sto->Res γ} {Q:δ->Hp->Prop} (h:cv K S ι H (x.bind f) Q) :
  ∃d μ1,x=.ok d μ1/\cv K S ι H (f d μ1) Q:=by
 cases x with
 | ok d μ=>exact⟨d,μ,rfl,h⟩
 | exc _ _ _=>exact h.elim
 | stuck=>exact h.elim
end
def tE (K:PySem.W.Frag) (φ:Phi) (x:Ex):TE:=λσv H Q=>∃ι σ μ,Sim K ι H μ/\fm K ι H σ σv/\cv K (RD K) ι H (evE φ x σ μ) Q
def tEs (K:PySem.W.Frag) (φ:Phi) (x:Exs):TA:=λσv H Q=>∃ι σ μ,Sim K ι H μ/\fm K ι H σ σv/\cv K (RDs K) ι H (dj φ x σ μ) Q
def tEo (K:PySem.W.Frag) (φ:Phi) (x:ExO):TO:=λσv H Q=>∃ι σ μ,Sim K ι H μ/\fm K ι H σ σv/\cv K RO ι H (evO φ x σ μ) Q
def tT (K:PySem.W.Frag) (φ:Phi) (x:Ex):TT:=λσv H Q=>∃ι σ μ,Sim K ι H μ/\fm K ι H σ σv/\cv K RB ι H ((evE φ x σ μ).bind λd μ=>J9 d μ) Q
theorem PE.imp {X:Cx} {e:Expr} {t t':TE} (h:PE X e t) (i:∀σ H Q,t' σ H Q->t σ H Q):PE X e t':=λpins s σ H Q I q=>h pins s σ H Q I (i σ H Q q)
theorem PA.imp {X:Cx} {e:List Expr} {t t':TA} (h:PA X e t) (i:∀σ H Q,t' σ H Q->t σ H Q):PA X e t':=λpos pins s σ H Q I q=>h pos pins s σ H Q I (i σ H Q q)
theorem PT.imp {X:Cx} {e:Expr} {t t':TT} (h:PT X e t) (i:∀σ H Q,t' σ H Q->t σ H Q):PT X e t':=λpins s σ H Q I q=>h pins s σ H Q I (i σ H Q q)
theorem PW.imp {X:Cx} {e:Expr} {t t':TT} (h:PW X e t) (i:∀σ H Q,t' σ H Q->t σ H Q):PW X e t':=λwh pins s σ H Q I q=>h wh pins s σ H Q I (i σ H Q q)
section
variable {X : Cx} {φ : Phi} {a b c : Expr} {xa xb xc : Ex} {pos : Pos}
theorem Ii {i:Nat} {x:Str} (hN:X.N[i]? = some x) (hv:Vis X.env.scope x) (hd:(x==("__debug__":Str))=false) (hcd:(x==("__classdict__":Str))=false):PE X (.Name x pos) (tE X.K φ (.var i)) :=
 PE.imp (qz hN hv hd hcd) λσv H Q ⟨ι,σ,μ,hS,hL,h⟩=>by
  simp![evE]at h
  split at h
  ·rename_i d e
   obtain⟨v,e1,e2⟩:=hL i d e
   exact⟨v,e1,h.ok hS e2⟩
  ·exact h.elim
theorem Ij {i:Int} {j:Nat}:PE X (.Constant (.int i) j pos) (tE X.K φ (.cst (.int i))) :=
 PE.imp C4 λσv H Q ⟨ι,σ,μ,hS,hL,h⟩=>by simp![evE]at h;exact h.ok hS (by simp[IsD])
theorem Lk {i:Bool} {j:Nat}:PE X (.Constant (.bool i) j pos) (tE X.K φ (.cst (.bl i))) :=
 PE.imp Hd λσv H Q ⟨ι,σ,μ,hS,hL,h⟩=>by simp![evE]at h;exact h.ok hS (by simp[IsD])
theorem Ik {j:Nat}:PE X (.Constant .none j pos) (tE X.K φ (.cst .non)) :=
 PE.imp C5 λσv H Q ⟨ι,σ,μ,hS,hL,h⟩=>by simp![evE]at h;exact h.ok hS (by simp[IsD])
theorem Il {i:Str} {j:Nat}:PE X (.Constant (.str i) j pos) (tE X.K φ (.cst (.str i))) :=
 PE.imp C6 λσv H Q ⟨ι,σ,μ,hS,hL,h⟩=>by simp![evE]at h;exact h.ok hS (by simp[IsD])
theorem two {σv:St} {H:Hp} {ι:List Addr} {σ:Sl} {μ:Sto} {f:D->D->Sto->Res D} {Q:VK} {R:V->V->Hp->Prop} (hS:Sim X.K ι H μ) (hL:fm X.K ι H σ σv)
  (h:cv X.K (RD X.K) ι H ((evE φ xa σ μ).bind λx μ=>(evE φ xb σ μ).bind λy μ=>f x y μ) Q)
  (k:∀ι' H' d e x y μ',Sim X.K ι' H' μ'->IsD X.K ι' H' d x->IsD X.K ι' H' e y->cv X.K (RD X.K) ι' H' (f d e μ') Q->R x y H') :
  tE X.K φ xa σv H λx H1=>tE X.K φ xb σv H1 λy H2=>R x y H2:=by
 obtain⟨d,μ1,e1,h⟩:=h.bind
 refine⟨ι,σ,μ,hS,hL,?_⟩
 rw[e1]
 intro ι1 x H1 p1 x1 s1 d1
 obtain⟨e,μ2,e2,h⟩:=h.bind
 refine⟨ι1,σ,μ1,s1,hL.mono p1 x1,?_⟩
 rw[e2]
 intro ι2 y H2 p2 x2 s2 d2
 exact k ι2 H2 d e x y μ2 s2 (IsD.mono p2 x2 d x d1) d2 (h.mono (p1.trans p2) (x1.trans x2))
def rOp (K:PySem.W.Frag) (f:D->D->Sto->Res D):R2:=λx y H Q=>∃ι d e μ,Sim K ι H μ/\IsD K ι H d x/\IsD K ι H e y/\cv K (RD K) ι H (f d e μ) Q
theorem Im {op:Operator} {m:Mk} (ho:OpR X (binaryOp op) (rOp X.K (opD op m))) (ha:PE X a (tE X.K φ xa)) (hb:PE X b (tE X.K φ xb)):PE X (.BinOp a op b pos) (tE X.K φ (.bin op m xa xb)) :=
 PE.imp (Hj ho ha hb) λσv H Q ⟨ι,σ,μ,hS,hL,h⟩=>by
  simp![evE]at h
  exact two hS hL h λι' H' d e x y μ' s d1 d2 p=>⟨ι',d,e,μ',s,d1,d2,p⟩
theorem Ll (ho:IxR X (rOp X.K ixD)) (ha:PE X a (tE X.K φ xa)) (hb:PE X b (tE X.K φ xb)) (hs:mr b):PE X (.Subscript a b pos) (tE X.K φ (.ix xa xb)) :=
 PE.imp (Hu ho ha hb hs) λσv H Q ⟨ι,σ,μ,hS,hL,h⟩=>by
  simp![evE]at h
  exact two hS hL h λι' H' d e x y μ' s d1 d2 p=>⟨ι',d,e,μ',s,d1,d2,p⟩
theorem Bq:PA X [] (tEs X.K φ .nil) :=
 PA.imp rl λσv H Q ⟨ι,σ,μ,hS,hL,h⟩=>by simp![dj]at h;exact h.ok hS (by simp[af])
theorem sh {es:List Expr} {xs:Exs} (ha:PE X a (tE X.K φ xa)) (hb:PA X es (tEs X.K φ xs)) (hs:starEach (a::es) X.env=(false,eval a X.env)::starEach es X.env):PA X (a::es) (tEs X.K φ (.cons xa xs)) :=
 PA.imp (ib ha hb hs) λσv H Q ⟨ι,σ,μ,hS,hL,h⟩=>by
  simp![dj]at h
  obtain⟨d,μ1,e1,h⟩:=h.bind
  refine⟨ι,σ,μ,hS,hL,?_⟩
  rw[e1]
  intro ι1 x H1 p1 x1 s1 d1
  obtain⟨e,μ2,e2,h⟩:=h.bind
  refine⟨ι1,σ,μ1,s1,hL.mono p1 x1,?_⟩
  rw[e2]
  intro ι2 y H2 p2 x2 s2 d2
  refine h ι2 (x::y) H2 (p1.trans p2) (x1.trans x2) s2 ?_
  show af _ _ _ _ _
  simp![af]
  exact⟨x,y,rfl,IsD.mono p2 x2 d x d1,d2⟩
theorem Io {es:List Expr} {xs:Exs} {k:Nat} (h:PA X es (tEs X.K φ xs)) (hl:∀σ μ ds μ',dj φ xs σ μ=.ok ds μ'->ds.length<=sizeLine):PE X (.Tuple es k pos) (tE X.K φ (.tup xs)) :=
 PE.imp (Dm h) λσv H Q ⟨ι,σ,μ,hS,hL,h⟩=>by
  simp![evE]at h
  obtain⟨ds,μ1,e1,h⟩:=h.bind
  refine⟨ι,σ,μ,hS,hL,?_⟩
  rw[e1]
  intro ι1 vs H1 p1 x1 s1 d1
  have hd:af X.K ι1 H1 ds vs:=d1
  refine⟨by rw[hd.length];exact hl σ μ ds μ1 e1,λp hp=>?_⟩
  refine h ι1 (.ref p) (upd H1 p (.tup vs)) p1 (x1.trans (.new hp)) (s1.new hp) ?_
  show IsD _ _ _ _ _
  simp![IsD]
  exact⟨p,vs,rfl,.of av,af.mono (AD _) (.new hp) ds vs d1⟩
theorem Ip {x:Ex} {σv:St} {H:Hp} {Q:Bool->Hp->Prop} (h:tT X.K φ x σv H Q):tE X.K φ x σv H λv H'=>∃k,v=.bl k/\Q k H':=by
 obtain⟨ι,σ,μ,hS,hL,h⟩:=h
 obtain⟨d,μ1,e1,h⟩:=h.bind
 refine⟨ι,σ,μ,hS,hL,?_⟩
 rw[e1]
 intro ι1 x H1 p1 x1 s1 d1
 cases d with
 | bl k=>exact⟨k,by simpa[IsD]using d1,h ι1 k H1 p1 x1 s1 rfl⟩
 | _=>exact h.elim
theorem Br {x:Ex} (ha:PE X a (tE X.K φ x)) (he:∀whole,isTrue a X.env whole=(do let v <-whole;standAt a.pos;holding [v] (truthy v))):PT X a (tT X.K φ x) :=
 PT.imp (vz ha he) λσv H Q h=>by
  have q:=Ip h
  obtain⟨ι,σ,μ,hS,hL,q⟩:=q
  exact⟨ι,σ,μ,hS,hL,q.imp λv H' ⟨k,e,z⟩=>⟨k,by subst e;exact rfl,z⟩⟩
theorem Ec (ha:PE X a (tE X.K φ xa)):PE X (.UnaryOp .Not a pos) (tE X.K φ (.not xa)) :=
 PE.imp (C9 ha) λσv H Q ⟨ι,σ,μ,hS,hL,h⟩=>by
  simp![evE]at h
  obtain⟨d,μ1,e1,h⟩:=h.bind
  refine⟨ι,σ,μ,hS,hL,?_⟩
  rw[e1]
  intro ι1 x H1 p1 x1 s1 d1
  cases d with
  | bl k=>exact⟨k,by simpa[IsD]using d1,h ι1 (.bl !k) H1 p1 x1 s1 (by simp[IsD])⟩
  | _=>exact h.elim
theorem Iq (ha:PE X a (tE X.K φ xa)):PE X (.UnaryOp .USub a pos) (tE X.K φ (.neg xa)) :=
 PE.imp (Hk Dj ha) λσv H Q ⟨ι,σ,μ,hS,hL,h⟩=>by
  simp![evE]at h
  obtain⟨d,μ1,e1,h⟩:=h.bind
  refine⟨ι,σ,μ,hS,hL,?_⟩
  rw[e1]
  intro ι1 x H1 p1 x1 s1 d1
  cases d with
  | int k=>exact⟨k,by simpa[IsD]using d1,h ι1 (.int (-k)) H1 p1 x1 s1 (by simp[IsD])⟩
  | _=>exact h.elim
theorem Ed {rest:List Expr} (ha:PT X a (tT X.K φ xa)) (hb:PW X (.BoolOp .And (b::rest) pos) (tT X.K φ xb)):PW X (.BoolOp .And (a::b::rest) pos) (tT X.K φ (.and xa xb)) :=
 PW.imp (C8 ha hb) λσv H Q ⟨ι,σ,μ,hS,hL,h⟩=>by
  simp![evE]at h
  rw[Res.bind_assoc]at h
  obtain⟨d,μ1,e1,h⟩:=h.bind
  refine⟨ι,σ,μ,hS,hL,?_⟩
  rw[e1]
  cases d with
  | bl k =>
   intro ι1 x H1 p1 x1 s1 d1
   cases d1
   cases k with
   | true=>exact⟨ι1,σ,μ1,s1,hL.mono p1 x1,(show cv _ _ _ _ ((evE φ xb σ μ1).bind _) _ from h).mono p1 x1⟩
   | false=>exact h ι1 false H1 p1 x1 s1 rfl
  | _=>exact h.elim
theorem Ir {rest:List Expr} (ha:PT X a (tT X.K φ xa)) (hb:PW X (.BoolOp .Or (b::rest) pos) (tT X.K φ xb)):PW X (.BoolOp .Or (a::b::rest) pos) (tT X.K φ (.or xa xb)) :=
 PW.imp (He ha hb) λσv H Q ⟨ι,σ,μ,hS,hL,h⟩=>by
  simp![evE]at h
  rw[Res.bind_assoc]at h
  obtain⟨d,μ1,e1,h⟩:=h.bind
  refine⟨ι,σ,μ,hS,hL,?_⟩
  rw[e1]
  cases d with
  | bl k =>
   intro ι1 x H1 p1 x1 s1 d1
   cases d1
   cases k with
   | true=>exact h ι1 true H1 p1 x1 s1 rfl
   | false=>exact⟨ι1,σ,μ1,s1,hL.mono p1 x1,(show cv _ _ _ _ ((evE φ xb σ μ1).bind _) _ from h).mono p1 x1⟩
  | _=>exact h.elim
end
def d7 (K:PySem.W.Frag) (ι:List Addr) (H:Hp) (r:Res Fl) (E:Ends):Prop:=match r with
 | .ok (.nx σ') μ'=>∀ι' σv H',ι <+: ι'->Ext H H'->Sim K ι' H' μ'->fm K ι' H' σ' σv->σ'.length=σv.length->E.nx σv H'
 | .ok (.bk σ') μ'=>∀ι' σv H',ι <+: ι'->Ext H H'->Sim K ι' H' μ'->fm K ι' H' σ' σv->σ'.length=σv.length->E.bk σv H'
 | .ok (.ct σ') μ'=>∀ι' σv H',ι <+: ι'->Ext H H'->Sim K ι' H' μ'->fm K ι' H' σ' σv->σ'.length=σv.length->E.ct σv H'
 | .ok (.rt d) μ'=>∀ι' v H',ι <+: ι'->Ext H H'->Sim K ι' H' μ'->IsD K ι' H' d v->E.rt v H'
 | .exc _ _ _=>False
 | .stuck=>False
theorem d7.mono {K:PySem.W.Frag} {ι ι':List Addr} {H H':Hp} {r:Res Fl} {E:Ends} (h:d7 K ι H r E) (hp:ι <+: ι') (he:Ext H H'):d7 K ι' H' r E:=by
 cases r with
 | ok f μ=>cases f<;>exact λι2 v H2 p e=>h ι2 v H2 (hp.trans p) (he.trans e)
 | exc _ _ _=>exact h
 | stuck=>exact h
theorem d7.bind {α:Type} {K:PySem.W.Frag} {ι:List Addr} {H:Hp} {E:Ends} {x:Res α} {f:α->Sto->Res Fl} (h:d7 K ι H (x.bind f) E):∃d μ1,x=.ok d μ1/\d7 K ι H (f d μ1) E:=by
 cases x with
 | ok d μ=>exact⟨d,μ,rfl,h⟩
 | exc _ _ _=>exact h.elim
 | stuck=>exact h.elim
def tS (K:PySem.W.Frag) (φ:Phi) (x:Sm):TS:=λE σv H=>∃ι σ μ,Sim K ι H μ/\fm K ι H σ σv/\σ.length=σv.length/\d7 K ι H (evS φ x σ μ) E
def tSs (K:PySem.W.Frag) (φ:Phi) (x:Sms):TS:=λE σv H=>∃ι σ μ,Sim K ι H μ/\fm K ι H σ σv/\σ.length=σv.length/\d7 K ι H (du φ x σ μ) E
theorem PS.imp {X:Cx} {e:Stmt} {t t':TS} (h:PS X e t) (i:∀E σ H,t' E σ H->t E σ H):PS X e t':=λpins s σ H E I q=>h pins s σ H E I (i E σ H q)
theorem PSs.imp {X:Cx} {e:List Stmt} {t t':TS} (h:PSs X e t) (i:∀E σ H,t' E σ H->t E σ H):PSs X e t':=λpins s σ H E I q=>h pins s σ H E I (i E σ H q)
section
variable {X : Cx} {φ : Phi} {e : Expr} {x : Ex} {pos : Pos} {s : Stmt} {ss : List Stmt} {xs : Sm} {xss : Sms}
theorem Iu:PSs X [] (tSs X.K φ .nil) :=
 PSs.imp rb λE σv H ⟨ι,σ,μ,hS,hL,hl,h⟩=>by
  simp![du]at h
  exact h ι σv H (AD _) (.refl _) hS hL hl
theorem Ee (h1:PS X s (tS X.K φ xs)) (h2:PSs X ss (tSs X.K φ xss)):PSs X (s::ss) (tSs X.K φ (.cons xs xss)) :=
 PSs.imp (n9 h1 h2) λE σv H ⟨ι,σ,μ,hS,hL,hl,h⟩=>by
  simp![du]at h
  refine⟨ι,σ,μ,hS,hL,hl,?_⟩
  obtain⟨f,μ1,e1,h⟩:=h.bind
  rw[e1]
  cases f with
  | nx σ'=>exact λι1 σ1 H1 p1 x1 s1 l1 z1=>⟨ι1,σ',μ1,s1,l1,z1,(show d7 _ _ _ (du φ xss σ' μ1) _ from h).mono p1 x1⟩
  | rt d=>exact h
  | bk σ'=>exact h
  | ct σ'=>exact h
theorem Ef (he:PE X e (tE X.K φ x)) (hs:swapsWith e none pos.line X.env=pure false):PS X (.Expr e pos) (tS X.K φ (.ex x)) :=
 PS.imp (Ay he hs) λE σv H ⟨ι,σ,μ,hS,hL,hl,h⟩=>by
  simp![evS]at h
  obtain⟨d,μ1,e1,h⟩:=h.bind
  refine⟨ι,σ,μ,hS,hL,?_⟩
  rw[e1]
  exact λι1 v H1 p1 x1 s1 d1=>h ι1 σv H1 p1 x1 s1 (hL.mono p1 x1) hl
theorem Iv (he:PE X e (tE X.K φ x)):PS X (.Return (some e) pos) (tS X.K φ (.ret x)) :=
 PS.imp (yt he) λE σv H ⟨ι,σ,μ,hS,hL,hl,h⟩=>by
  simp![evS]at h
  obtain⟨d,μ1,e1,h⟩:=h.bind
  refine⟨ι,σ,μ,hS,hL,?_⟩
  rw[e1]
  exact h
theorem Lm {c:Expr} {xc:Ex} {a b:List Stmt} {xa xb:Sms} (hc:PT X c (tT X.K φ xc)) (ha:PSs X a (tSs X.K φ xa)) (hb:PSs X b (tSs X.K φ xb)):PS X (.If c a b pos) (tS X.K φ (.ite xc xa xb)) :=
 PS.imp (Dc hc ha hb) λE σv H ⟨ι,σ,μ,hS,hL,hl,h⟩=>by
  simp![evS]at h
  obtain⟨d,μ1,e1,h⟩:=h.bind
  refine⟨ι,σ,μ,hS,hL,?_⟩
  rw[e1]
  cases d with
  | bl k =>
   intro ι1 x H1 p1 x1 s1 d1
   cases d1
   cases k with
   | true=>exact⟨ι1,σ,μ1,s1,hL.mono p1 x1,hl,(show d7 _ _ _ (du φ xa σ μ1) _ from h).mono p1 x1⟩
   | false=>exact⟨ι1,σ,μ1,s1,hL.mono p1 x1,hl,(show d7 _ _ _ (du φ xb σ μ1) _ from h).mono p1 x1⟩
  | _=>exact h.elim
def slots:Tg->List Nat
 | .one i=>[i]
 | .many is=>is
def tG (K:PySem.W.Frag) (tg:Tg):TG:=λv σv H Q=>∃ι σ d σ',fm K ι H σ σv/\σ.length=σv.length/\IsD K ι H d v/\di tg d σ=some σ' /\
 ∀σv',fm K ι H σ' σv'->σ'.length=σv'.length->σv'.length=σv.length->(∀j,j∉slots tg->σv'[j]? = σv[j]?)->Q σv' H
theorem PG.imp {e:Expr} {t t':TG} (h:PG X e t) (i:∀v σ H Q,t' v σ H Q->t v σ H Q):PG X e t':=by
 intro pins s σ H x u Q I r q
 exact h pins s σ H x u Q I r (i _ _ _ _ q)
theorem Eg {i:Nat} {y:Str} (hN:X.N.Nodup) (hi:X.N[i]? = some y) (hx:Loc X.env.scope y) (hf:X.fn y=true\/X.env.scope.names.lookup y=some .local):PG X (.Name y pos) (tG X.K (.one i)) :=
 PG.imp (rd hN hi hx hf) λv σv H Q ⟨ι,σ,d,σ',hL,hl,hd,hb,q⟩=>by
  simp![di,AT]at hb
  subst hb
  exact q _ (hL.set hl hd) (by simp[hl]) (by simp) λj hj=>BA (λz=>hj (by simp[slots,z]))
def tGs (K:PySem.W.Frag) (is:List Nat):TGs:=λvs σv H Q=>∃ι σ ds,fm K ι H σ σv/\σ.length=σv.length/\af K ι H ds vs/\ds.length=is.length /\
 ∀σv',fm K ι H ((is.zip ds).foldl (λs p=>s.set p.1 (some p.2)) σ) σv'->((is.zip ds).foldl (λs p=>s.set p.1 (some p.2)) σ).length=σv'.length->σv'.length=σv.length->(∀j,j∉is->σv'[j]? = σv[j]?)->Q σv' H
theorem PGs.imp {es:List Expr} {t t':TGs} (h:PGs X es t) (i:∀v σ H Q,t' v σ H Q->t v σ H Q):PGs X es t':=by
 intro pins s σ H vs us Q I r q
 exact h pins s σ H vs us Q I r (i _ _ _ _ q)
theorem Eh:PGs X [] (tGs X.K []) :=
 PGs.imp A0 λvs σv H Q ⟨ι,σ,ds,hL,hl,hd,hn,q⟩=>by
  have e:ds=[]:=List.length_eq_zero_iff.mp hn
  subst e
  exact⟨by simpa[af]using hd,q σv (by simpa using hL) (by simpa using hl) rfl λ_ _=>rfl⟩
theorem Bs {i:Nat} {is:List Nat} {es:List Expr} (h1:PG X e (Az i)) (h2:PGs X es (tGs X.K is)) (hs:(assignEach (e::es) X.env).map (·.2)=assign e X.env::(assignEach es X.env).map (·.2)):PGs X (e::es) (tGs X.K (i::is)) :=
 PGs.imp (vx h1 h2 hs) λvs σv H Q ⟨ι,σ,ds,hL,hl,hd,hn,q⟩=>by
  cases ds with
  | nil=>simp at hn
  | cons d ds =>
   simp![af]at hd
   obtain⟨v,r,e,hd1,hd2⟩:=hd
   refine⟨v,r,e,ι,σ.set i (some d),ds,hL.set hl hd1,by simp[hl],hd2,by simpa using hn,λσv' l z z2 ks=>q σv' (by simpa using l) (by simpa using z) (by simpa using z2) λj hj=>?_⟩
   have hj':j≠i/\j∉is:=by simpa using hj
   rw[ks j hj'.2,BA (Ne.symm hj'.1)]
theorem Iw {is:List Nat} {es:List Expr} {k:Nat} (hc:X.calm=true) (h:PGs X es (tGs X.K is)) (hn:(assignEach es X.env).length=is.length) (hst:(assignEach es X.env).findIdx? (·.1)=none) :
  PG X (.Tuple es k pos) (tG X.K (.many is)) :=
 PG.imp (Dd hc h hn hst) λv σv H Q ⟨ι,σ,d,σ',hL,hl,hd,hb,q⟩=>by
  cases d with
  | tup ds =>
   simp![di]at hb
   split at hb
   ·rename_i hlen
    cases hb
    simp![IsD]at hd
    obtain⟨a,xs,e,hq,hds⟩:=hd
    exact⟨a,xs,e,hq,hds.length.trans hlen,ι,σ,ds,hL,hl,hds,hlen,q⟩
   ·cases hb
  | _=>simp[di]at hb
theorem Iy {i:Nat} {y:Str} {pos':Pos} (hN:X.N.Nodup) (hi:X.N[i]? = some y) (hx:Loc X.env.scope y) (hf:X.fn y=true\/X.env.scope.names.lookup y=some .local) (he:PE X e (tE X.K φ x)) (hs:swapsWith e (some (.Name y pos')) pos.line X.env=pure false) :
  PS X (.Assign [.Name y pos'] e pos) (tS X.K φ (.set i x)) :=
 PS.imp (Dh hN hi hx he hs hf) λE σv H ⟨ι,σ,μ,hS,hL,hl,h⟩=>by
  simp![evS]at h
  obtain⟨d,μ1,e1,h⟩:=h.bind
  refine⟨ι,σ,μ,hS,hL,?_⟩
  rw[e1]
  exact λι1 v H1 p1 x1 s1 d1=>h ι1 _ H1 p1 x1 s1 ((hL.mono p1 x1).set hl d1) (by simp[hl])
def Ka (K:PySem.W.Frag):TSet:=λo i v H Q=>∃ι a b d μ,Sim K ι H μ/\IsD K ι H a o/\IsD K ι H b i/\IsD K ι H d v/\cv K (λ_ _ _ (_:Unit)=>True) ι H (qr a b d μ) λ_ H'=>Q H'
theorem Ei {o i:Expr} {xo xi:Ex} {tp:Pos} (hset:G0 X (Ka X.K)) (ho:PE X o (tE X.K φ xo)) (hi:PE X i (tE X.K φ xi)) (he:PE X e (tE X.K φ x))
  (ha:∀v,assign (.Subscript o i tp) X.env v=(do
   let ov <-holding [v] (eval o X.env)
   let iv <-holding [v,ov] (eval i X.env)
   standAt tp
   holding [v,ov,iv] (setItem ov iv v)
   release [v,ov,iv] [])) (hs:swapsWithSole [.Subscript o i tp] e pos.line X.env=pure false) (hw:swappedStores [.Subscript o i tp] e X.env=pure none)
  (h1:(assignEach [.Subscript o i tp] X.env).map (·.2)=[assign (.Subscript o i tp) X.env]):PS X (.Assign [.Subscript o i tp] e pos) (tS X.K φ (.setx xo xi x)) :=
 PS.imp (Dg he (De ho hi hset ha) hs hw h1) λE σv H ⟨ι,σ,μ,hS,hL,hl,h⟩=>by
  simp![evS]at h
  obtain⟨d,μ1,e1,h⟩:=h.bind
  refine⟨ι,σ,μ,hS,hL,?_⟩
  rw[e1]
  intro ι1 v H1 p1 x1 s1 d1
  obtain⟨a,μ2,e2,h⟩:=h.bind
  refine⟨ι1,σ,μ1,s1,hL.mono p1 x1,?_⟩
  rw[e2]
  intro ι2 va H2 p2 x2 s2 d2
  obtain⟨b,μ3,e3,h⟩:=h.bind
  refine⟨ι2,σ,μ2,s2,(hL.mono p1 x1).mono p2 x2,?_⟩
  rw[e3]
  intro ι3 vb H3 p3 x3 s3 d3
  obtain⟨_,μ4,e4,h⟩:=h.bind
  refine⟨ι3,a,b,d,μ3,s3,IsD.mono p3 x3 _ _ d2,d3,IsD.mono p3 x3 _ _ (IsD.mono p2 x2 _ _ d1),?_⟩
  rw[e4]
  exact λι4 _ H4 p4 x4 s4 _=>h ι4 σv H4 (((p1.trans p2).trans p3).trans p4) (((x1.trans x2).trans x3).trans x4) s4 ((((hL.mono p1 x1).mono p2 x2).mono p3 x3).mono p4 x4) hl
structure Walk (K:PySem.W.Frag) (ι0:List Addr) (H0:Hp) (J:L2.It) (ds:List D) (g:Gd):Prop where
 len:ds.length<=sizeLine
 go:∀(i:Nat) ι H μ,ι0 <+: ι->Ext H0 H->Sim K ι H μ->gd g μ->i<ds.length->J.go i H
 yld:∀(i:Nat) ι H μ x H',ι0 <+: ι->Ext H0 H->Sim K ι H μ->gd g μ->i<ds.length->J.yld i H x H'->Ext H H'/\Sim K ι H' μ/\∃d,ds[i]? = some d/\IsD K ι H' d x
 stop:∀ι H μ,ι0 <+: ι->Ext H0 H->Sim K ι H μ->gd g μ->J.stop ds.length H
def tI (K:PySem.W.Frag) (φ:Phi) (it:It):TI:=λσv H R=>∃ι σ μ,Sim K ι H μ/\fm K ι H σ σv /\
 match evI φ it σ μ with
 | .ok (ds,g) μ'=>∀ι' H' J,ι <+: ι'->Ext H H'->Sim K ι' H' μ'->Walk K ι' H' J ds g->R J H'
 | _=>False
theorem PI.imp {tg it:Expr} {t t':TI} (h:PI X tg it t) (i:∀σ H R,t' σ H R->t σ H R):PI X tg it t':=λpins s σ H R I q=>h pins s σ H R I (i _ _ _ q)
theorem Iz {tg it:Expr} {body:List Stmt} {xt:Tg} {xi:It} {xb:Sms} (hp:PassesOwn (model X.prog X.w) X.A X.env X.xe) (hc:X.calm=true) (hi:PI X tg it (tI X.K φ xi)) (hg:PG X tg (tG X.K xt)) (hb:PSs X body (tSs X.K φ xb))
  (hs:∀x,foldedSetIterable it X.env x=pure x):PS X (.For tg it body [] pos) (tS X.K φ (.loop xt xi xb)) :=
 PS.imp (Di hp hc hi hg hb hs) λE σv H ⟨ι,σ,μ,hS,hL,hl,h⟩=>by
  simp![evS]at h
  obtain⟨⟨ds,g⟩,μ1,e1,h⟩:=h.bind
  refine⟨ι,σ,μ,hS,hL,?_⟩
  rw[e1]
  intro ι1 H1 J p1 x1 s1 wk
  refine⟨λi m σv' H'=>m=ds.length-i/\i<=ds.length/\∃ι' σ' μ',ι1 <+: ι'/\Ext H1 H'/\Sim X.K ι' H' μ'/\fm X.K ι' H' σ' σv'/\σ'.length=σv'.length /\
   d7 X.K ι' H' (fi g (λd σ μ=>fk (di xt d σ) λσ'=>du φ xb σ' μ) (ds.drop i) σ' μ') E,⟨ds.length,by simp,Nat.zero_le _,ι1,σ,μ1,AD _,.refl _,s1,hL.mono p1 x1,hl,?_⟩,?_⟩
  ·simpa using(show d7 _ _ _ (fi g _ ds σ μ1) _ from h).mono p1 x1
  ·rintro i m σv' H' ⟨rfl,hi,ι',σ',μ',p',x',s',l',z',h'⟩
   by_cases hlt:i<ds.length
   ·obtain⟨d,ed⟩:∃d,ds[i]? = some d:=⟨ds[i],AA hlt⟩
    have edrop:ds.drop i=d::ds.drop (i+1):=by
     rw[EJ hlt]
     rw[AA hlt]at ed
     cases ed;rfl
    rw[edrop]at h'
    simp![fi]at h'
    split at h'
    ·rename_i hgd
     right
     refine⟨wk.go i ι' H' μ' p' x' s' hgd hlt,?_⟩
     obtain⟨fl,μ2,e2,h2⟩:=h'.bind
     refine⟨λσ2 H2=>ds.length-(i+1)<ds.length-i/\∃ι2 σs,ι1 <+: ι2/\Ext H1 H2/\Sim X.K ι2 H2 μ2/\fm X.K ι2 H2 σs σ2/\σs.length=σ2.length /\
      d7 X.K ι2 H2 (fi g (λd σ μ=>fk (di xt d σ) λσ'=>du φ xb σ' μ) (ds.drop (i+1)) σs μ2) E,?_,?_⟩
     ·rintro σ2 H2 ⟨_,ι2,σs,q1,q2,q3,q4,q5,q6⟩
      exact⟨ds.length-(i+1),by lia,rfl,hlt,ι2,σs,μ2,q1,q2,q3,q4,q5,q6⟩
     ·intro v H2 hy
      obtain⟨x2,s2,d',ed',hd'⟩:=wk.yld i ι' H' μ' v H2 p' x' s' hgd hlt hy
      rw[ed]at ed';cases ed'
      cases eb:di xt d σ' with
      | none=>rw[eb]at e2;cases e2
      | some σb =>
       rw[eb]at e2
       refine⟨ι',σ',d,σb,l'.mono (AD _) x2,z',hd',eb,λσv2 l2 z2 _ _=>⟨ι',σb,μ',s2,l2,z2,?_⟩⟩
       have e2':du φ xb σb μ'=.ok fl μ2:=e2
       rw[e2']
       cases fl with
       | nx σ3=>exact λι3 σv3 H3 p3 x3 s3 l3 z3=>⟨by lia,ι3,σ3,p'.trans p3,(x'.trans x2).trans x3,s3,l3,z3,(show d7 _ _ _ (fi g _ (ds.drop (i+1)) σ3 μ2) _ from h2).mono p3 (x2.trans x3)⟩
       | ct σ3=>exact λι3 σv3 H3 p3 x3 s3 l3 z3=>⟨by lia,ι3,σ3,p'.trans p3,(x'.trans x2).trans x3,s3,l3,z3,(show d7 _ _ _ (fi g _ (ds.drop (i+1)) σ3 μ2) _ from h2).mono p3 (x2.trans x3)⟩
       | bk σ3=>exact(show d7 _ _ _ (.ok (.nx σ3) μ2) _ from h2).mono (AD _) x2
       | rt w=>exact(show d7 _ _ _ (.ok (.rt w) μ2) _ from h2).mono (AD _) x2
    ·exact h'.elim
   ·have ei:i=ds.length:=by lia
    subst ei
    simp![List.drop_length,fi]at h'
    split at h'
    ·rename_i hgd
     exact .inl ⟨wk.stop ι' H' μ' p' x' s' hgd,h' ι' σv' H' (AD _) (.refl _) s' l' z'⟩
    ·exact h'.elim
end
theorem c6:lim=sizeLine:=by rw[yx];rfl
section
variable {X : Cx} {pins : List (Addr × Obj)} {σ : St} {H : Hp} {s : Shared} {φ : Phi}
theorem _root_.L2.Inv.freeze {p:Addr} {xs:List V} (I:Inv X pins σ H s) (h:H p=some (.lst xs)):∃o,Inv X pins σ (upd H p (.frz o (.lst xs))) s:=by
 have hp:=I.hok p _ h
 obtain⟨hz,its,n,hv,hget⟩:=id hp
 refine⟨{cls:=.type "list",data:=.seq its.toArray n},I.ok,I.os,I.bare,⟨I.base.keep,I.base.slot,λb o e hn hx=>?_,I.base.there,λb ys e=>?_,λb o u e=>?_,λb ps e=>?_⟩,I.loc,I.cell,?_,λx c e=>?_,λq hq=>?_,λb u e=>?_,I.len⟩
 ·have q:=I.base.free b o e hn hx
  rw[aj (λz=>by subst z;rw[h]at q;cases q)]
  exact q
 ·have q:=I.base.tups b ys e
  rw[aj (jf q h (by intro z;cases z))];exact q
 ·have q:=I.base.frzs b o u e
  rw[aj (jf q h (by intro z;cases z))];exact q
 ·obtain⟨more,q⟩:=I.base.tbls b ps e
  exact⟨more,by rw[aj (jf q h (by intro z;cases z))];exact q⟩
 ·rw[aj (λz=>by rw[<-z,I.free]at h;cases h)];exact I.free
 ·rw[aj (λz=>by rw[<-z,I.freeC x c e]at h;cases h)];exact I.freeC x c e
 ·obtain⟨e1,e2,e3⟩:=I.pin q hq
  refine⟨e1,?_,e3⟩
  rw[aj (λz=>by rw[<-z,e2]at h;cases h)];exact e2
 ·by_cases hb:b=p
  ·subst hb
   rw[av]at e;cases e
   exact⟨hget,hz,its,n,hv,hget⟩
  ·rw[aj hb]at e
   refine(I.hok b u e).stay (λc v _ q=>q) (λc q=>?_) (λc ys q=>?_)
   ·rw[aj (jf q h (by intro z;cases z))];exact q
   ·rw[aj (jf q h (by intro z;cases z))];exact q
def FQ (Q:VK):VK:=λv H=>Q v H\/∃p xs,v=.ref p/\H p=some (.lst xs)/\∀o,Q v (upd H p (.frz o (.lst xs)))
theorem xj {Q:VK} {u:Value} (h:EP X pins σ (FQ Q) u s):EP X pins σ Q u s:=by
 obtain⟨v,H',I,r,q⟩:=h
 rcases q with q | ⟨p,xs,rfl,e,q⟩
 ·exact⟨v,H',I,r,q⟩
 ·obtain⟨o,I'⟩:=L2.Inv.freeze I e
  exact⟨_,_,I',r,q o⟩
theorem y6 {A:Around} {E:Value->Shared->Prop} {M:Model} {t:Sem Value} {Q:VK} (h:wpAny M A t (EP X pins σ (FQ Q)) E s):wpAny M A t (EP X pins σ Q) E s:=thn h λ_ _ z=>xj z
theorem PE.fq {e:Expr} {t:TE} (h:PE X e t):PE X e (λσ H Q=>t σ H (FQ Q)):=λpins s σ H Q I q=>thn (h pins s σ H _ I q) λ_ _ z=>xj z
theorem bx.fq {f:Value} {r:List V->Hp->VK->Prop} (h:bx X f r):bx X f (λxs H Q=>r xs H (FQ Q)):=by
 intro pins s σ H xs us Q I rx q
 exact thn (h pins s σ H xs us _ I rx q) λ_ _ z=>xj z
theorem SlR.fq {r:V->Option Int->Option Int->Hp->VK->Prop} (h:SlR X r):SlR X (λx l u H Q=>r x l u H (FQ Q)):=by
 intro pins s σ H x v vl vu lo hi sl Q I rx h1 h2 h3 q
 obtain⟨T,id,e1,e2,e3⟩:=h pins s σ H x v vl vu lo hi sl _ I rx h1 h2 h3 q
 exact⟨T,id,e1,e2,thn e3 λ_ _ z=>xj z⟩
theorem gs {K:PySem.W.Frag} {ι:List Addr} {μ:Sto} {ds:List D} {xs:List V} {m:Mk} {Q:VK} {p:Addr} (hS:Sim K ι H μ) (hd:af K ι H ds xs) (h:cv K (RD K) ι H (mkL m ds μ) Q) (hp:H p=none) :
  FQ Q (.ref p) (upd H p (.lst xs)):=by
 cases m with
 | z =>
  refine .inr ⟨p,xs,rfl,av,λo=>?_⟩
  rw[Ar]
  refine h ι (.ref p) _ (AD _) (.new hp) (hS.new hp) ?_
  show IsD _ _ _ _ _
  simp![IsD]
  exact⟨p,xs,rfl,.inl ⟨o,av⟩,af.mono (AD _) (.new hp) ds xs hd⟩
 | l =>
  simp![mkL]at h
  split at h
  ·rename_i hpure
   refine .inl (h (ι++[p]) (.ref p) _ ⟨[p],rfl⟩ (.new hp) (hS.push hp ⟨xs,av,af.pur hpure (af.mono (AD _) (.new hp) ds xs hd)⟩) ?_)
   show IsD _ _ _ _ _
   simp![IsD]
   exact⟨p,rfl,by rw[<-hS.len];simp⟩
  ·exact h.elim
 | r =>
  simp![mkL]at h
  refine .inl (h (ι++[p]) (.ref p) _ ⟨[p],rfl⟩ (.new hp) (hS.push hp ⟨xs,av,af.mono ⟨[p],rfl⟩ (.new hp) ds xs hd⟩) ?_)
  show IsD _ _ _ _ _
  simp![IsD]
  exact⟨p,rfl,by rw[<-hS.len];simp⟩
theorem I0 {es:List Expr} {xs:Exs} {m:Mk} {pos:Pos} (h:PA X es (tEs X.K φ xs)) (hl:∀σ μ ds μ',dj φ xs σ μ=.ok ds μ'->ds.length<=sizeLine):PE X (.List es pos) (tE X.K φ (.lst m xs)) :=
 PE.imp (PE.fq (Dn h)) λσv H Q ⟨ι,σ,μ,hS,hL,h⟩=>by
  simp![evE]at h
  obtain⟨ds,μ1,e1,h⟩:=h.bind
  refine⟨ι,σ,μ,hS,hL,?_⟩
  rw[e1]
  intro ι1 vs H1 p1 x1 s1 d1
  have hd:af X.K ι1 H1 ds vs:=d1
  exact⟨by rw[hd.length];exact hl σ μ ds μ1 e1,λp hp=>gs s1 hd (h.mono p1 x1) hp⟩
theorem jo {K:PySem.W.Frag} {ι:List Addr} {μ:Sto} {d:D} {v:V} {ds:List D} (hS:Sim K ι H μ) (hd:IsD K ι H d v) (h:cy μ d=some ds) :
  ∃a xs,v=.ref a/\(LsL K H a xs\/SqT K H a xs)/\af K ι H ds xs:=by
 cases d with
 | tup es =>
  cases h
  simp![IsD]at hd
  obtain⟨a,xs,e,q,r⟩:=hd
  exact⟨a,xs,e,.inr q,r⟩
 | lst es =>
  cases h
  simp![IsD]at hd
  obtain⟨a,xs,e,q,r⟩:=hd
  exact⟨a,xs,e,.inl (.inr q),r⟩
 | loc n =>
  simp![IsD]at hd
  obtain⟨a,e,q⟩:=hd
  simp![cy]at h
  split at h
  ·rename_i es em
   cases h
   obtain⟨a',q',ho⟩:=hS.at em
   rw[q]at q';cases q'
   obtain⟨xs,e1,e2⟩:=ho
   exact⟨a,xs,e,.inl (.inl e1),af.mono (CA) (.refl _) _ _ e2⟩
  ·rename_i es em
   cases h
   obtain⟨a',q',ho⟩:=hS.at em
   rw[q]at q';cases q'
   obtain⟨xs,e1,e2⟩:=ho
   exact⟨a,xs,e,.inl (.inl e1),e2⟩
  ·cases h
 | _=>simp[cy]at h
theorem gu {K:PySem.W.Frag} {ι:List Addr} {μ:Sto} {d:D} {v:V} {ds:List D} (hS:Sim K ι H μ) (hd:IsD K ι H d v) (h:listOf μ d=some ds) :
  ∃a xs,v=.ref a/\LsL K H a xs/\af K ι H ds xs:=by
 cases d with
 | lst es =>
  cases h
  simp![IsD]at hd
  obtain⟨a,xs,e,q,r⟩:=hd
  exact⟨a,xs,e,.inr q,r⟩
 | loc n =>
  simp![IsD]at hd
  obtain⟨a,e,q⟩:=hd
  simp![listOf]at h
  split at h
  ·rename_i es em
   cases h
   obtain⟨a',q',ho⟩:=hS.at em
   rw[q]at q';cases q'
   obtain⟨xs,e1,e2⟩:=ho
   exact⟨a,xs,e,.inl e1,af.mono (CA) (.refl _) _ _ e2⟩
  ·rename_i es em
   cases h
   obtain⟨a',q',ho⟩:=hS.at em
   rw[q]at q';cases q'
   obtain⟨xs,e1,e2⟩:=ho
   exact⟨a,xs,e,.inl e1,e2⟩
  ·cases h
 | _=>simp[listOf]at h
theorem Ja {i:Nat} {x:Str} {pos:Pos} (hN:X.N[i]? = some x) (hv:Vis X.env.scope x) (hd:(x==("__debug__":Str))=false) (hcd:(x==("__classdict__":Str))=false):PE X (.Name x pos) (tE X.K φ (.frz i)) :=
 PE.imp (PE.fq (qz hN hv hd hcd)) λσv H Q ⟨ι,σ,μ,hS,hL,h⟩=>by
  simp![evE]at h
  split at h
  ·rename_i n e
   obtain⟨v,e1,e2⟩:=hL i _ e
   refine⟨v,e1,?_⟩
   simp![IsD]at e2
   obtain⟨a,rfl,ha⟩:=e2
   split at h
   ·rename_i ds em
    obtain⟨a',q',ho⟩:=hS.at em
    rw[ha]at q';cases q'
    obtain⟨xs,f1,f2⟩:=ho
    refine .inr ⟨a,xs,rfl,f1,λo=>?_⟩
    refine h ι (.ref a) _ (AD _) (.lst f1) (hS.put ha (.lst f1) ⟨_,av⟩) ?_
    show IsD _ _ _ _ _
    simp![IsD]
    exact⟨a,xs,rfl,.inl ⟨o,av⟩,af.mono (CA) (.lst f1) ds xs f2⟩
   ·rename_i ds em
    obtain⟨a',q',ho⟩:=hS.at em
    rw[ha]at q';cases q'
    obtain⟨xs,f1,f2⟩:=ho
    refine .inr ⟨a,xs,rfl,f1,λo=>?_⟩
    refine h ι (.ref a) _ (AD _) (.lst f1) (hS.put ha (.lst f1) ⟨_,av⟩) ?_
    show IsD _ _ _ _ _
    simp![IsD]
    exact⟨a,xs,rfl,.inl ⟨o,av⟩,af.mono (AD _) (.lst f1) ds xs f2⟩
   ·exact h.elim
  ·exact h.elim
theorem OpR.imp {f:Value->Value->Sem Value} {r r':R2} (h:OpR X f r) (i:∀x y H Q,r' x y H Q->r x y H Q):OpR X f r':=λpins s σ H x y v u Q I rx ry q=>h pins s σ H x y v u Q I rx ry (i _ _ _ _ q)
theorem IxR.imp {r r':R2} (h:IxR X r) (i:∀x y H Q,r' x y H Q->r x y H Q):IxR X r':=λe1 e2 pins s σ H x y v u Q I rx ry q=>h e1 e2 pins s σ H x y v u Q I rx ry (i _ _ _ _ q)
theorem bx.imp {f:Value} {r r':List V->Hp->VK->Prop} (h:bx X f r) (i:∀xs H Q,r' xs H Q->r xs H Q):bx X f r':=λpins s σ H xs us Q I rx q=>h pins s σ H xs us Q I rx (i _ _ _ q)
theorem MtR.imp {id:String} {r r':V->List V->Hp->VK->Prop} (h:MtR X id r) (i:∀x xs H Q,r' x xs H Q->r x xs H Q):MtR X id r':=λpins s σ H x xs v us Q I rx rr q=>h pins s σ H x xs v us Q I rx rr (i _ _ _ _ q)
theorem Ej {K:PySem.W.Frag} {ι:List Addr} {ds:List D} {xs:List V} {i:Int} {j:Nat} {d:D} (h:af K ι H ds xs) (hi:Lp.ixN ds.length i=some j) (hj:ds[j]? = some d):∃v,atI xs i=some v/\IsD K ι H d v:=by
 obtain⟨v,e,q⟩:=h.get hj
 refine⟨v,?_,q⟩
 unfold atI
 rw[h.length,show L2.ixN ds.length i=some j from hi]
 exact e
theorem Jb:IxR X (rOp X.K ixD):=IxR.imp Dx λx y H Q ⟨ι,d,e,μ,hS,hd,he,h⟩=>by
 unfold ixD at h
 split at h
 ·rename_i i
  have hy:y=.int i:=by simpa[IsD]using he
  subst hy
  split at h
  ·rename_i ds es
   obtain⟨a,xs,rfl,hq,hds⟩:=jo hS hd es
   split at h
   ·rename_i j ej
    split at h
    ·rename_i d' ed
     obtain⟨v,ev,hv⟩:=Ej hds ej ed
     have qv:=h.ok hS hv
     rcases hq with hq | hq
     ·exact .inl ⟨a,xs,i,v,rfl,rfl,hq.sq,ev,qv⟩
     ·exact .inr (.inl ⟨a,xs,i,v,rfl,rfl,hq,ev,qv⟩)
    ·exact h.elim
   ·exact h.elim
  ·exact h.elim
 ·exact h.elim
theorem y8 {K:PySem.W.Frag} {ι:List Addr} {ds:List D} {xs:List V} (h:af K ι H ds xs) (lo hi:Option Int):af K ι H (cut ds lo hi) (yv xs lo hi):=by
 have e1:∀n d o,Lp.sIx n d o=HT.sIx n d o:=λn d o=>by cases o<;>rfl
 unfold cut yv
 rw[h.length,e1,e1]
 exact(h.drop _).take _
end
def qt (env:Env):List (Str×NameKind)->List (Str×Addr)->List (Str×Addr)
 | [],acc=>acc
 | (n,k)::r,acc=>qt env r (if k==.free then(n,(env.cells.lookup n).getD 0)::acc else acc)
def g6 (env:Env) (x:Str×NameKind) (cs:List (Str×Addr)):Sem (ForInStep (List (Str×Addr))):=match x with
 | (name,kind)=>if kind==.free then(do let a <-cellOf env name;pure (ForInStep.yield ((name,a)::cs)))else pure (ForInStep.yield cs)
theorem gv {env:Env}:∀(names:List (Str×NameKind)) (acc:List (Str×Addr)),(∀n,(n,NameKind.free)∈names->∃c,env.cells.lookup n=some c) ->
  forIn names acc (g6 env)=pure (qt env names acc)
 | [],acc,_=>rfl
 | (n,k)::r,acc,h=>by
  rw[List.forIn_cons]
  by_cases hk:k=.free
  ·subst hk
   obtain⟨c,hc⟩:=h n BF
   have e:g6 env (n,.free) acc=pure (ForInStep.yield ((n,c)::acc)):=by
    simp![g6,cellOf,hc,beq_self_eq_true,if_true]
    rfl
   rw[e]
   refine Eq.trans (b:=forIn r ((n,c)::acc) (g6 env)) rfl ?_
   rw[gv r ((n,c)::acc) λm hm=>h m (AO _ hm)]
   simp[qt,hc]
  ·have hb:(k==NameKind.free)=false:=by simpa using hk
   have e:g6 env (n,k) acc=pure (ForInStep.yield acc):=by
    unfold g6
    simp![hb,CK,if_false]
   rw[e]
   refine Eq.trans (b:=forIn r acc (g6 env)) rfl ?_
   rw[gv r acc λm hm=>h m (AO _ hm)]
   simp[qt,hb]
theorem qa {env:Env} {scope:Scope} (h:∀n,(n,NameKind.free)∈scope.names->∃c,env.cells.lookup n=some c):closureFor scope env=pure (qt env scope.names []):=by
 have e:=gv (env:=env) scope.names [] h
 have e2:closureFor scope env=(forIn scope.names [] (g6 env)>>=λcs=>pure cs):=rfl
 rw[e2,e]
 rfl
theorem g9 {env:Env}:∀(names:List (Str×NameKind)) (acc:List (Str×Addr)) (x:Str) (c:Addr),(∀n,(n,NameKind.free)∈names->∃c,env.cells.lookup n=some c)->(qt env names acc).lookup x=some c->acc.lookup x=some c\/env.cells.lookup x=some c
 | [],acc,x,c,_,h=>.inl h
 | (n,k)::r,acc,x,c,hh,h=>by
  rcases g9 r _ x c (λm hm=>hh m (AO _ hm)) h with q | q
  ·by_cases hk:k=.free
   ·subst hk
    obtain⟨c',hc⟩:=hh n BF
    simp![beq_self_eq_true,if_true,CQ]at q
    by_cases hx:x=n
    ·subst hx
     simp![beq_self_eq_true,hc,FA,AT]at q
     subst q
     exact .inr hc
    ·have hb:(x==n)=false:=beq_eq_false_iff_ne.mpr hx
     rw[hb]at q
     exact .inl q
   ·have hb:(k==NameKind.free)=false:=by simpa using hk
    simp![hb,CK,if_false]at q
    exact .inl q
  ·exact .inr q
theorem lh {env:Env}:∀(names:List (Str×NameKind)) (acc:List (Str×Addr)) (x:Str),(∃c,acc.lookup x=some c)->∃c,(qt env names acc).lookup x=some c
 | [],acc,x,h=>h
 | (n,k)::r,acc,x,h=>by
  refine lh r _ x ?_
  by_cases hk:(k==NameKind.free)=true
  ·rw[if_pos hk,CQ]
   cases hx:x==n with
   | true=>exact⟨_,rfl⟩
   | false=>exact h
  ·rw[if_neg hk];exact h
theorem j4 {env:Env}:∀(names:List (Str×NameKind)) (acc:List (Str×Addr)) (x:Str),(x,NameKind.free)∈names->∃c,(qt env names acc).lookup x=some c
 | [],acc,x,h=>by cases h
 | (n,k)::r,acc,x,h=>by
  rcases AL.mp h with e | e
  ·cases e
   refine lh r _ n ?_
   exact⟨(env.cells.lookup n).getD 0,by simp⟩
  ·exact j4 r _ x e
def fu (X:Cx) (scope:Scope) (Nb:List Str) (C:Addr) (s:Shared) (H:Hp) (fp:List Addr):Cx :=
 {X with N:=Nb,s₀:=s,H₀:=H,env:=compEnvC scope (qt X.env scope.names []) C X.env,outer:=X.stack,stack:=X.stack,ex:=fp,fn:=λ_=>false,pn:=[],xe:=λ_ _=>False}
structure CompScope (sc scope:Scope) (N Nb:List Str) (cap:List Nat) (nl:Nat):Prop where
 kind:scope.kind=.function
 nocell:∀y∈scope.names,y.2≠.cell
 uniq:∀y∈scope.names,scope.names.lookup y.1=some y.2
 free:∀n,(n,NameKind.free)∈scope.names->sc.names.lookup n=some .cell\/sc.names.lookup n=some .free
 fnames:∀n,(relabel scope {scope:=sc,locals:=0,globals:=0,cells:=[]}).names.lookup n=some .cell\/(relabel scope {scope:=sc,locals:=0,globals:=0,cells:=[]}).names.lookup n=some .free->(n,NameKind.free)∈scope.names
 nd:Nb.Nodup
 len:Nb.length=cap.length+nl
 capt:∀(j:Nat) i,cap[j]? = some i->∃x,Nb[j]? = some x/\N[i]? = some x/\(x,NameKind.free)∈scope.names
theorem qb (scope:Scope) (env env':Env) (h:env.scope=env'.scope):relabel scope env=relabel scope env':=by
 unfold relabel Env.kindOf
 rw[h]
section
variable {X : Cx} {pins : List (Addr × Obj)} {σ : St} {H : Hp} {s : Shared} {scope : Scope} {Nb : List Str} {cap : List Nat} {nl : Nat}
def dw (cap:List Nat) (nl:Nat) (σ:St):St:=cap.map (λi=>(σ[i]?).getD none)++List.replicate nl none
theorem si {fp:List Addr} {h':Heap} {tk:Nat} {C:Addr} {m:Str->Option Value} {D:Addr} {n0:Nat} (I:Inv X pins σ H s) (S:CompScope X.env.scope scope X.N Nb cap nl)
  (hf:∀b∈fp,qp X pins H b) (hfp:∀b∈fp,∃o,s.heap.get? b=some o) (hk:∀b o,s.heap.get? b=some o->h'.get? b=some o) (hC:s.heap.objs.size<=C) (hD:s.heap.objs.size<=D) (hDC:D≠C)
  (hns:h'.Ns C m) (hm:∀x,m x=none) (hDo:h'.get? D=some {cls:=.type "list",data:=.seq #[] n0}) :
  Inv (fu X scope Nb C s H fp) [(D,{cls:=.type "list",data:=.seq #[] n0})] (dw cap nl σ) H {s with heap:=h',toks:=tk}:=by
 have hcells:∀n,(n,NameKind.free)∈scope.names->∃c,X.env.cells.lookup n=some c:=λn hn=>by
  rcases S.free n hn with e | e
  ·exact I.ok.has n (.inl e)
  ·exact I.ok.has n (.inr e)
 have sub:∀x c,(qt X.env scope.names []).lookup x=some c->X.env.cells.lookup x=some c:=λx c e=>by
  rcases g9 scope.names [] x c hcells e with q | q
  ·cases q
  ·exact q
 have hlt:∀b∈fp,b<s.heap.objs.size:=λb hb=>let ⟨o,e⟩:=hfp b hb;AG e
 have hrel:relabel scope X.env=relabel scope {scope:=X.env.scope,locals:=0,globals:=0,cells:=[]}:=qb _ _ _ rfl
 have hcm:∀x c,X.env.cells.lookup x=some c->c<s.heap.objs.size:=λx c e=>let ⟨v,q⟩:=I.cell x c e;q.lt
 refine⟨⟨I.ok.mod,by show(relabel scope X.env).kind=_;unfold relabel;exact S.kind,I.ok.glob,I.ok.blt,hC,λx y c e1 e2=>I.ok.inj x y c (sub x c e1) (sub y c e2),λx hx=>?_,λx c hfn=>?_,I.ok.hd,I.ok.frames,.inl rfl,
  λb hb=>⟨AN (AK (hlt b hb) hC),λx c e=>(hf b hb).2.2.2.2.1 x c (sub x c e)⟩,I.bs,CC I.ok.bsz I.sz,λb o e hb=>?_,λb hb hb2=>?_,I.stack,I.stkFree⟩,
  rfl,I.bare,Un.kept hk,⟨m,hns,λi x v e1 e2 e3=>?_⟩,λx c e=>?_,I.hok.fresh hC,λx c e=>I.freeC x c (sub x c e),λp hp=>?_,I.hok.kept hk,?_⟩
 ·have hx':(relabel scope {scope:=X.env.scope,locals:=0,globals:=0,cells:=[]}).names.lookup x=some .cell\/(relabel scope {scope:=X.env.scope,locals:=0,globals:=0,cells:=[]}).names.lookup x=some .free:=by
   rw[<-hrel];exact hx
  exact j4 scope.names [] x (S.fnames x hx')
 ·cases hfn
 ·rcases(hf b hb).2.2.2.1 with z | z
  ·exact I.ok.noex b o e z
  ·have:=AG e
   exact absurd (AK this (CC I.ok.bsz z)) (BU _)
 ·rcases AL.mp (I.stkSub b hb2)with z | z
  ·exact(hf b hb).2.1 z
  ·exact(hf b hb).2.2.1 z
 ·-- a captured name
  have hi:i<cap.length:=by
   by_cases hi:i<cap.length
   ·exact hi
   ·unfold dw at e2
    rw[BL (by simpa using hi),BR]at e2
    split at e2<;>cases e2
  unfold dw at e2
  rw[AI (by simpa using hi),AY,AA hi]at e2
  simp![DY,AT]at e2
  obtain⟨y,q1,q2,q3⟩:=S.capt i _ (AA hi)
  have ey:y=x:=AX (q1.symm.trans e1)
  subst ey
  have e4:σ[cap[i]]? = some (some v):=by
   cases e5:σ[cap[i]]? with
   | none=>rw[e5]at e2;cases e2
   | some w=>rw[e5]at e2;simp at e2;rw[e2]
  obtain⟨m0,hn0,hl0⟩:=I.loc
  have hkind:X.env.kindOf y=some .cell\/X.env.kindOf y=some .free:=S.free y q3
  obtain⟨u,r,l⟩:=hl0 _ y v q2 e4 (by rcases hkind with z | z;exact .inr (.inl z);exact .inr (.inr z))
  refine⟨u,r,.inr ?_⟩
  rcases l with⟨z,_⟩ | ⟨_,c,ec,hc⟩
  ·rcases hkind with w | w<;>(rw[w]at z;cases z)
  ·obtain⟨c',ec'⟩:=j4 (env:=X.env) scope.names [] y q3
   have:c'=c:=by have:=sub y c' ec';rw[ec]at this;cases this;rfl
   subst this
   obtain⟨o,ho,hd⟩:=hc
   refine⟨?_,c',ec',o,hk _ _ ho,hd⟩
   -- a free name is seen as a cell or as free
   have hv:(fu X scope Nb C s H fp).env.kindOf y=some .local\/(fu X scope Nb C s H fp).env.kindOf y=some .cell\/(fu X scope Nb C s H fp).env.kindOf y=some .free:=e3
   rcases hv with z | z | z
   ·exfalso
    have hl:(relabel scope X.env).names.lookup y=some .local:=z
    have mem:∀(l:List (Str×NameKind)) (y:Str),(l.map fun(n,k)=>if(k==NameKind.free&&X.env.scope.kind==.function&&X.env.kindOf n==some .cell)then(n,NameKind.cell)else(n,k)).lookup y=some .local->l.lookup y=some .local:=by
     intro l
     induction l with
     | nil=>intro y h;simp at h
     | cons a r ih =>
      obtain⟨n,k⟩:=a
      intro y h
      simp![AQ]at h
      rw[CQ]
      by_cases hc:(k==NameKind.free&&X.env.scope.kind==.function&&X.env.kindOf n==some .cell)=true
      ·rw[if_pos hc,CQ]at h
       cases hy:y==n with
       | true=>rw[hy]at h;cases h
       | false=>rw[hy]at h;exact ih y h
      ·rw[if_neg hc,CQ]at h
       cases hy:y==n with
       | true=>rw[hy]at h;exact h
       | false=>rw[hy]at h;exact ih y h
    have hloc:=mem scope.names y hl
    rw[S.uniq (y,NameKind.free) q3]at hloc
    cases hloc
   ·exact .inl z
   ·exact .inr z
 ·obtain⟨v,o,ho,hd⟩:=I.cell x c (sub x c e)
  exact⟨v,o,hk _ _ ho,hd⟩
 ·have e:p=(D,{cls:=.type "list",data:=.seq #[] n0}):=by
   have:p∈([]:List (Addr×Obj))++[(D,{cls:=.type "list",data:=.seq #[] n0})]:=hp
   simpa using this
  subst e
  refine⟨hDo,I.hok.fresh hD,hDC,λz=>?_,λv z=>by cases z⟩
  have z':D∈frs X.stack:=z
  rcases AL.mp (I.stkSub D z')with w | w
  ·exact absurd (AK I.lt hD) (by rw[w];exact BU _)
  ·exact I.nofs hD w
 ·show(dw cap nl σ).length=Nb.length
  rw[S.len];simp[dw]
end
abbrev sj (ifs:List Expr) (env:Env) (b:Bool):Sem Bool:=forIn ifs b λc r=>if r=true then do let ok <-isTrue c env (eval c env);pure (ForInStep.yield ok)else pure (ForInStep.yield r)
def PTs (X:Cx) (ifs:List Expr) (t:TT):Prop :=
 ∀(pins:List (Addr×Obj)) (s:Shared) (σ:St) (H:Hp) (Q:Bool->Hp->Prop),Inv X pins σ H s->t σ H Q->wpAny (model X.prog X.w) X.A (sj ifs X.env true) (TP X pins σ Q) X.xe s
def tTsNil:TT:=λ_ H Q=>Q true H
theorem Bu {X:Cx}:PTs X [] tTsNil:=λpins s σ H Q I h=>AJ ⟨H,I,h⟩
def Kept (σ σ':St):Prop:=σ.length=σ'.length/\∀(i:Nat) v,σ[i]? = some (some v)->σ'[i]? = some (some v)
def Ek (wi:TI) (g:TG) (ts:TT) (te:TE) (σb:St->St):TE:=λσ H Q=>wi σ H λJ H1=>∃W:Nat->Nat->Hp->List V->Prop,(∃m,W 0 m H1 [])/\∀i m H acc,W i m H acc ->
 (J.stop i H/\acc.length<=sizeLine/\∀p,H p=none->Q (.ref p) (upd H p (.lst acc))) \/
 (J.go i H/\acc.length<sizeLine/\∀x H',J.yld i H x H'->g x (σb σ) H' λσ2 H2=>Kept (σb σ) σ2/\ts σ2 H2 λb H3=>if b=true then te σ2 H3 λv H4=>∃m',m'<m/\W (i+1) m' H4 (acc++[v])else ∃m',m'<m/\W (i+1) m' H3 acc)
section
variable {X : Cx} {scope : Scope} {Nb : List Str} {cap : List Nat} {nl : Nat}
theorem _root_.L2.HOk.track {P:Program} {w:World} {H:Hp} {h:Heap} {p:Addr} {o:HO} (x:HOk P w H h) (hp:H p=none) (new:cw P w (upd H p o) h p o):HOk P w (upd H p o) h:=λb u e=>by
 by_cases hb:b=p
 ·subst hb;rw[av]at e;cases e;exact new
 ·rw[aj hb]at e
  exact(x b u e).stay (λc v _ q=>q) (λc q=>by rw[aj (aq q hp)];exact q) λc xs q=>by rw[aj (aq q hp)];exact q
theorem sk {prog:Program} {w:World} {A:Around} {R:Result->Shared->Prop} {s:Shared} {elt target iter:Expr} {ifs:List Expr} {pos:Pos} {it acc:Value} {env:Env} (I:Nat->Shared->Prop)
  (turn:∀n s,I n s->wpAny (model prog w) A (pyNext it) (λr s₁=>match r with
   | none=>R (.ok .next) s₁
   | some v=>wpAny (model prog w) A (letOwnedTupleGo target it v) (λ_ s₀=>wpAny (model prog w) A (assign target env v) (λ_ s₂ =>
     wpAny (model prog w) A (sj ifs env true) (λok s₃ =>
      if ok=true then wpAny (model prog w) A (eval elt env) (λx s₄ =>
       wpAny (model prog w) A (call (.builtin "list.append") [acc,x]) (λ_ s₅=>∃m,m<n/\I m s₅) (λ_ _=>False) s₄) (λ_ _=>False) s₃
      else ∃m,m<n/\I m s₃) (λ_ _=>False) s₂) (λ_ _=>False) s₀) (λ_ _=>False) s₁) (λ_ _=>False) s)
  (n:Nat) (h:I n s) :
  codeAny (model prog w) A (.compLoop (.ListComp elt [⟨target,iter,ifs,0⟩] scope pos) 0 it acc env) R s:=by
 refine codeAny_loop rfl I (λn s hI=>?_) n h
 show wpAny _ A ((compTurn (.ListComp elt [⟨target,iter,ifs,0⟩] scope pos) 0 it acc env).onRaise (λx=>do noteFrame x env;theTreesLotGoes x)) _ _ s
 refine wpAny_noted ?_
 rw[compTurn_list]
 have no:∀{α:Type} {t:Sem α} {Q:α->Shared->Prop} {E:Value->Shared->Prop} {s:Shared},wpAny (model prog w) A t Q (λ_ _=>False) s->wpAny (model prog w) A t Q E s:=λh=>BK h (λ_ _ q=>q) λ_ _ q=>q.elim
 refine AB (wpAny_standAt (AB (BK (turn n s hI) (λr s₁ h₁=>?_) λ_ _ h'=>h'.elim)))
 cases r with
 | none=>exact AJ h₁
 | some v =>
  refine AB (BK h₁ (λ_ s₀ h₀=>?_) λ_ _ h'=>h'.elim)
  refine AB (BK h₀ (λ_ s₂ h₂=>AB (BK h₂ (λok s₃ h₃=>?_) λ_ _ h'=>h'.elim)) λ_ _ h'=>h'.elim)
  cases ok with
  | false=>exact AJ ⟨rfl,h₃⟩
  | true =>
   exact AB (AB (BK h₃ (λx s₄ h₄=>AB (BK h₄ (λ_ s₅ h₅=>AJ (AJ ⟨rfl,h₅⟩)) λ_ _ h'=>h'.elim)) λ_ _ h'=>h'.elim))
def xk (X:Cx) (scope:Scope) (Nb:List Str) (target:Expr) (ifs:List Expr) (elt:Expr) (g:TG) (ts:TT) (te:TE):Prop :=
 ∀C s H fp,PG (fu X scope Nb C s H fp) target g/\PTs (fu X scope Nb C s H fp) ifs ts/\PE (fu X scope Nb C s H fp) elt te
theorem qc {elt target iter:Expr} {ifs:List Expr} {pos:Pos} {g:TG} {ts:TT} {te:TE} {pins:List (Addr×Obj)} {σ:St} {H:Hp} {s:Shared} {it:Addr} {fp:List Addr} {tn:Nat->Heap->Prop} {J:L2.It} {Q:VK} {E:Value->Shared->Prop} {use:Option (Value->Sem Unit)} {QQ:Value->Shared->Prop}
  (S:CompScope X.env.scope scope X.N Nb cap nl) (hc:X.calm=true) (B:xk X scope Nb target ifs elt g ts te) (I:Inv X pins σ H s) (T:Turn X.prog X.w X.K target J fp it tn) (t0:tn 0 s.heap) (hf:∀b∈fp,qp X pins H b)
  (h:∃W:Nat->Nat->Hp->List V->Prop,(∃m,W 0 m H [])/\∀i m H acc,W i m H acc ->
   (J.stop i H/\acc.length<=sizeLine/\∀p,H p=none->Q (.ref p) (upd H p (.lst acc))) \/
   (J.go i H/\acc.length<sizeLine/\∀x H',J.yld i H x H'->g x (dw cap nl σ) H' λσ2 H2=>Kept (dw cap nl σ) σ2/\ts σ2 H2 λb H3=>if b=true then te σ2 H3 λv H4=>∃m',m'<m/\W (i+1) m' H4 (acc++[v])else ∃m',m'<m/\W (i+1) m' H3 acc))
  (hQ:∀(D C:Addr) (s':Shared) m,s.heap.objs.size<=C->(∀h',Heap.SameBut C s'.heap h'->EP X pins σ (λv H=>H C=none/\Q v H) (.ref D) {s' with heap:=h'})->s'.heap.Ns C m->compPost (model X.prog X.w) X.A E use QQ (.ref D) C (.ok .next) s') :
  wpAny (model X.prog X.w) X.A (newList []) (λacc s₃=>wpAny (model X.prog X.w) X.A (newFunctionEnv scope X.env.globals (qt X.env scope.names []) [] X.env.qual none .none (some X.env)) (λcenv s₄ =>
   codeAny (model X.prog X.w) X.A (.compStart (.ListComp elt [⟨target,iter,ifs,0⟩] scope pos) 0 (.ref it) acc {cenv with scope:=relabel scope X.env}) (compPost (model X.prog X.w) X.A E use QQ acc cenv.locals) s₄) E s₃) E s:=by
 refine CD (wpAny_newFunctionEnv S.nocell (by intro y hy;simp at hy) (λh₁ hns₁ hsb₁=>?_) S.kind)
 dsimp only at hns₁ hsb₁ ⊢
 generalize hH2:s.heap.push {cls:=.type "list",dict:=none,data:=.seq ([]:List Value).toArray}=H2 at hns₁ hsb₁ ⊢
 have hC:H2.objs.size=s.heap.objs.size+1:=by rw[<-hH2,EI]
 have hDC:s.heap.objs.size≠H2.objs.size:=by rw[hC];exact AN (FB _)
 have hCle:s.heap.objs.size<=H2.objs.size:=by rw[hC];exact Nat.le_succ _
 have old:∀b o,s.heap.get? b=some o->h₁.get? b=some o:=λb o e=>hsb₁.extBut b o (by rw[hC];exact AN (EO (AG e))) (AE _ (hH2 ▸ AE _ e))
 have hDo:h₁.get? s.heap.objs.size=some {cls:=.type "list",data:=.seq #[]}:=hsb₁.extBut _ _ hDC (AE _ (hH2 ▸ AM _ rfl))
 have hfp:∀b∈fp,∃o,s.heap.get? b=some o:=λb hb=>let ⟨o,e,_⟩:=T.obj 0 _ t0 b hb;⟨o,e⟩
 have hlt:∀b∈fp,b<s.heap.objs.size:=λb hb=>let ⟨o,e⟩:=hfp b hb;AG e
 obtain⟨W,⟨m0,w0⟩,turn⟩:=h
 obtain⟨BG,BT,BE⟩:=B H2.objs.size s H fp
 have I4:=si (tk:=s.toks+([]:List (Str×Value)).length) I S hf hfp old hCle (AH _) hDC hns₁ (λx=>by simp) hDo
 have hcells:∀n,(n,NameKind.free)∈scope.names->∃c,X.env.cells.lookup n=some c:=λn hn=>by
  rcases S.free n hn with e | e
  ·exact I.ok.has n (.inl e)
  ·exact I.ok.has n (.inr e)
 -- what the iterator's objects are to the block
 have stat:∀{H':Hp},(∀b∈fp,H' b=none)->∀b∈fp,qp (fu X scope Nb H2.objs.size s H fp) [] H' b:=λhn b hb=>by
  refine⟨hn b hb,AN (AK (hlt b hb) hCle),λz=>?_,.inl hb,λx c e=>?_,λp hp=>absurd (show p∈([]:List (Addr×Obj))++[]from hp) (by simp)⟩
  ·rcases AL.mp (I.stkSub b z)with z | z
   ·exact(hf b hb).2.1 z
   ·exact(hf b hb).2.2.1 z
  ·rcases g9 scope.names [] x c hcells e with q | q
   ·cases q
   ·exact(hf b hb).2.2.2.2.1 x c q
 have loop:∀s₃:Shared,s₃={s with heap:=h₁,toks:=s.toks+([]:List (Str×Value)).length} ->
   codeAny (model X.prog X.w) X.A (.compLoop (.ListComp elt [⟨target,iter,ifs,0⟩] scope pos) 0 (.ref it) (.ref s.heap.objs.size) (compEnvC scope (qt X.env scope.names []) H2.objs.size X.env))
    (compPost (model X.prog X.w) X.A E use QQ (.ref s.heap.objs.size) H2.objs.size) s₃:=by
  rintro s₃ rfl
  refine sk (λn s'=>∃i H' acc its n',Inv (fu X scope Nb H2.objs.size s H fp) [] (dw cap nl σ) H' s'/\tn i s'.heap/\(∀b∈fp,H' b=none)/\H' s.heap.objs.size=none /\
   s'.heap.get? s.heap.objs.size=some {cls:=.type "list",data:=.seq (its:List Value).toArray n'}/\ay acc its/\W i n H' acc) ?_ m0
   ⟨0,H,[],[],_,I4.pins_of (λp hp=>absurd hp (by simp)),T.keep _ _ _ t0 λb hb o e=>old b o e,λb hb=>(hf b hb).1,I.hok.fresh (AH _),hDo,.nil,w0⟩
  rintro n s5 ⟨i,H5,acc,its,n5,I5,t5,f5,hD5,hget5,hv5,w5⟩
  rcases turn i n H5 acc w5 with⟨stop,hz,q⟩ | ⟨go,hz,q⟩
  ·refine thn (T.done (fu X scope Nb H2.objs.size s H fp) rfl rfl rfl hc i [(s.heap.objs.size,{cls:=.type "list",data:=.seq its.toArray n5})] s5 _ H5 _ (I5.pins_of ?_) ?_ t5 stop) λr s6 ⟨hr,I6⟩=>?_
   ·intro p hp
    have e:p=(s.heap.objs.size,{cls:=.type "list",data:=.seq its.toArray n5}):=by simpa using hp
    subst e
    refine⟨hget5,hD5,hDC,λz=>?_,λv z=>by cases z⟩
    rcases AL.mp (I.stkSub _ (show s.heap.objs.size∈frs X.stack from z))with w | w
    ·exact absurd I.lt (by rw[<-w];exact BU _)
    ·exact I.nofs (AH _) w
   ·intro b hb
    obtain⟨a1,a2,a3,a4,a5,a6⟩:=stat f5 b hb
    refine⟨a1,a2,a3,a4,a5,λp hp=>?_⟩
    have e:p=(s.heap.objs.size,{cls:=.type "list",data:=.seq its.toArray n5}):=by
     have:p∈([]:List (Addr×Obj))++[(s.heap.objs.size,{cls:=.type "list",data:=.seq its.toArray n5})]:=hp
     simpa using this
    subst e
    exact λz=>absurd (hlt b hb) (by rw[<-z];exact BU _)
   ·subst hr
    have hget6:=(I6.pin (s.heap.objs.size,{cls:=.type "list",data:=.seq its.toArray n5}) (by show _∈([]:List (Addr×Obj))++_;simp)).1
    obtain⟨m6,hn6,_⟩:=I6.loc
    refine hQ _ _ s6 m6 hCle (λh' hs'=>?_) hn6
    have hk6:∀b o,b≠H2.objs.size->s6.heap.get? b=some o->h'.get? b=some o:=λb o hb e=>hs'.extBut b o hb e
    have hgetD:=hk6 _ _ hDC hget6
    have Cn:H5 H2.objs.size=none:=I6.free
    have hok':HOk X.prog X.w H5 h':=λb u e=>by
     refine(I6.hok b u e).stay (λc v hcc q=>hk6 c v ?_ q) (λ_ q=>q) λ_ _ q=>q
     rcases hcc with z | z
     ·rintro rfl;rw[<-z]at e;rw[Cn]at e;cases e
     ·rintro rfl;rw[Cn]at z;cases z
    refine⟨.ref s.heap.objs.size,upd H5 s.heap.objs.size (.lst acc),?_,rfl,by rw[aj (Ne.symm hDC)];exact Cn,q _ hD5⟩
    have hU:Un (frs X.stack) fp H H5 s.heap s6.heap:=I6.base
    have nC:∀b o,s.heap.get? b=some o->b≠H2.objs.size:=λb o e=>AN (AK (AG e) hCle)
    have nD:∀b o,s.heap.get? b=some o->b≠s.heap.objs.size:=λb o e=>AN (AG e)
    refine I.call' (s':={s6 with heap:=h'}) (ch:=fp) (by show s6.os=s.os;exact I6.os) ⟨λb o e nn hb hx=>hk6 b o (nC b o e) (hU.keep b o e nn hb hx),λb o e nn hb hx=>?_,λb o e nn hx=>?_,λb o e hx=>?_,λb xs e=>?_,λb o u e=>?_,λb ps e=>?_⟩ ?_ I6.bare ?_
    ·obtain⟨sl,e2⟩:=hU.slot b o e nn hb hx
     exact⟨sl,hk6 b _ (nC b o e) e2⟩
    ·rw[aj (nD b o e)];exact hU.free b o e nn hx
    ·obtain⟨o',e2⟩:=hU.there b o e hx
     exact⟨o',hk6 b _ (nC b o e) e2⟩
    ·have e2:=hU.tups b xs e
     rw[aj (aq e2 hD5)];exact e2
    ·have e2:=hU.frzs b o u e
     rw[aj (aq e2 hD5)];exact e2
    ·obtain⟨more,e2⟩:=hU.tbls b ps e
     exact⟨more,by rw[aj (aq e2 hD5)];exact e2⟩
    ·exact L2.HOk.track hok' hD5 ⟨hz,its,n5,hv5,hgetD⟩
    ·intro b hb
     obtain⟨a1,a2,a3,a4,a5,a6⟩:=hf b hb
     exact⟨a4,a2,a5,a6⟩
  ·-- one more turn
   have notfs:s.heap.objs.size∉frs X.stack:=λz=>by
    rcases AL.mp (I.stkSub _ z)with w | w
    ·exact absurd I.lt (by rw[<-w];exact BU _)
    ·exact I.nofs (AH _) w
   have I5':Inv (fu X scope Nb H2.objs.size s H fp) [(s.heap.objs.size,{cls:=.type "list",data:=.seq its.toArray n5})] (dw cap nl σ) H5 s5:=I5.pins_of λp hp=>by
    have e:p=(s.heap.objs.size,{cls:=.type "list",data:=.seq its.toArray n5}):=by simpa using hp
    subst e
    exact⟨hget5,hD5,hDC,notfs,λv z=>by cases z⟩
   have stat':∀{H':Hp},(∀b∈fp,H' b=none)->∀b∈fp,qp (fu X scope Nb H2.objs.size s H fp) [(s.heap.objs.size,{cls:=.type "list",data:=.seq its.toArray n5})] H' b:=λhn b hb=>by
    obtain⟨a1,a2,a3,a4,a5,a6⟩:=stat hn b hb
    refine⟨a1,a2,a3,a4,a5,λp hp=>?_⟩
    have e:p=(s.heap.objs.size,{cls:=.type "list",data:=.seq its.toArray n5}):=by
     have:p∈([]:List (Addr×Obj))++[(s.heap.objs.size,{cls:=.type "list",data:=.seq its.toArray n5})]:=hp
     simpa using this
    subst e
    exact λz=>absurd (hlt b hb) (by rw[<-z];exact BU _)
   refine thn (T.item (fu X scope Nb H2.objs.size s H fp) rfl rfl rfl hc i _ s5 _ H5 (λ_ _=>False) I5' (stat' f5) t5 go) λr s6 ⟨u,hr,h6⟩=>?_
   subst hr
   refine thn h6 λ_ s7 ⟨x,H7,I7,r7,y7,t7,f7⟩=>?_
   have I7':=I7.pinned (stat' f7) (T.obj _ _ t7)
   have back:∀{σ':St} {H':Hp} {s':Shared},Inv (fu X scope Nb H2.objs.size s H fp) ([(s.heap.objs.size,{cls:=.type "list",data:=.seq its.toArray n5})]++kq fp s7.heap) σ' H' s' ->
     tn (i+1) s'.heap/\(∀b∈fp,H' b=none)/\H' s.heap.objs.size=none/\s'.heap.get? s.heap.objs.size=some {cls:=.type "list",data:=.seq its.toArray n5}:=λ{σ' H' s'} J'=>by
    have pD:=J'.pin (s.heap.objs.size,{cls:=.type "list",data:=.seq its.toArray n5}) (by show _∈([]:List (Addr×Obj))++_;simp)
    refine⟨T.keep _ _ _ t7 λb hb o e=>(J'.pin (b,o) (AU _ (AU _ (fb hb e)))).1,λb hb=>?_,pD.2.1,pD.1⟩
    obtain⟨o,e,d⟩:=T.obj _ _ t7 b hb
    exact(J'.pin (b,o) (AU _ (AU _ (fb hb e)))).2.1
   refine thn (BG _ s7 _ H7 x u _ I7' r7 (q x H7 y7)) λ_ s8 ⟨σ8,H8,I8,ks,q8⟩=>?_
   refine thn (BT _ s8 σ8 H8 _ I8 q8) λok s9 ⟨H9,I9,q9⟩=>?_
   cases ok with
   | false =>
    obtain⟨m',hm',w9⟩:∃m',m'<n/\W (i+1) m' H9 acc:=q9
    obtain⟨b1,b2,b3,b4⟩:=back I9
    exact⟨m',hm',i+1,H9,acc,its,n5,(I9.weak ks.1 ks.2).pins_of (λp hp=>absurd hp (by simp)),b1,b2,b3,b4,hv5,w9⟩
   | true =>
    refine thn (BE _ s9 σ8 H9 _ I9 q9) λxv s10 ⟨v,H10,I10,r10,m',hm',w10⟩=>?_
    obtain⟨b1,b2,b3,b4⟩:=back I10
    have hl5:=hv5.length
    refine wpAny_list_append_plain (items:=its.toArray) ⟨n5,b4⟩ (λh' hpl hs'=>?_) (by rw[AC,<-hl5];exact DC hz)
    obtain⟨n6,hg6⟩:=hpl
    have I11:Inv (fu X scope Nb H2.objs.size s H fp) [] (dw cap nl σ) H10 {s10 with heap:=h'}:=by
     have I10':=(I10.weak ks.1 ks.2).pins_of (pins':=[]) (λp hp=>absurd hp (by simp))
     refine I10'.turned (t':=s10.toks) (it:=s.heap.objs.size) (λb o hb e=>hs'.extBut b o hb e) b3 hDC (.inr (AH _)) (λx c e=>?_) (λp hp=>absurd (show p∈([]:List (Addr×Obj))++[]from hp) (by simp))
     rcases g9 scope.names [] x c hcells e with q | q
     ·cases q
     ·obtain⟨v,hcc⟩:=I.cell x c q
      exact AN hcc.lt
    refine⟨m',hm',i+1,H10,acc++[v],its++[xv],n6,I11,?_,b2,b3,by rw[hg6];simp,hv5.append (.cons r10 .nil),w10⟩
    exact T.keep _ _ _ b1 λb hb o e=>hs'.extBut b o (AN (hlt b hb)) e
 exact codeAny_compStart_list (loop _ rfl) (T.self X.A 0 _ _ _ (T.keep _ _ _ t0 λb hb o e=>old b o e) (loop _ rfl))
theorem Bv {elt target iter:Expr} {ifs:List Expr} {pos:Pos} {wi:TI} {g:TG} {ts:TT} {te:TE} (S:CompScope X.env.scope scope X.N Nb cap nl) (hc:X.calm=true) (hi:PI X target iter wi) (B:xk X scope Nb target ifs elt g ts te)
  (hs:∀x,foldedSetIterable iter X.env x=pure x):PE X (.ListComp elt [⟨target,iter,ifs,0⟩] scope pos) (Ek wi g ts te (dw cap nl)):=by
 intro pins s σ H Q I h
 rw[eval_ListComp]
 have hcells:∀n,(n,NameKind.free)∈scope.names->∃c,X.env.cells.lookup n=some c:=λn hn=>by
  rcases S.free n hn with e | e
  ·exact I.ok.has n (.inl e)
  ·exact I.ok.has n (.inr e)
 refine wpAny_comprehension_free (use:=none) rfl hs (qa hcells) S.kind (λy hy hl=>by rw[S.uniq y hy,hl]) ?_
 refine thn (hi pins s σ H _ I h) λv s1 h1=>thn h1 λitv s2 ⟨it,fp,tn,J,H2,e,I2,T,t2,f2,hW⟩=>?_
 subst e
 exact qc (Q:=Q) (QQ:=EP X pins σ Q) S hc B I2 T t2 f2 hW λD C s' m _ hq hn=>⟨m,hn,λh' hs'=>let ⟨v,H',I',r,q⟩:=hq h' hs';⟨v,H',I',r,q.2⟩⟩
end
def tTs (K:PySem.W.Frag) (φ:Phi) (x:Exs):TT:=λσv H Q=>∃ι σ μ,Sim K ι H μ/\fm K ι H σ σv/\cv K RB ι H (sg φ x σ μ) Q
section
variable {X : Cx} {φ : Phi} {scope : Scope} {Nb : List Str} {cap : List Nat} {nl : Nat}
theorem PTs.imp {ifs:List Expr} {t t':TT} (h:PTs X ifs t) (i:∀σ H Q,t' σ H Q->t σ H Q):PTs X ifs t':=λpins s σ H Q I q=>h pins s σ H Q I (i σ H Q q)
theorem El:PTs X [] (tTs X.K φ .nil):=PTs.imp Bu λσv H Q ⟨ι,σ,μ,hS,hL,h⟩=>by
 simp![sg]at h
 exact h.ok hS rfl
theorem xm {K:PySem.W.Frag} {ι:List Addr} {H:Hp} {σ:Sl} {σv:St} (hL:fm K ι H σ σv):fm K ι H (cap.map (λi=>(σ[i]?).getD none)++List.replicate nl none) (dw cap nl σv):=λj d e=>by
 by_cases hj:j<cap.length
 ·rw[AI (by simpa using hj),AY,AA hj]at e
  simp![DY,AT]at e
  have e4:σ[cap[j]]? = some (some d):=by
   cases e5:σ[cap[j]]? with
   | none=>rw[e5]at e;cases e
   | some w=>rw[e5]at e;simp at e;rw[e]
  obtain⟨v,q1,q2⟩:=hL _ _ e4
  refine⟨v,?_,q2⟩
  unfold dw
  rw[AI (by simpa using hj),AY,AA hj]
  simp[q1]
 ·rw[BL (by simpa using hj),BR]at e
  split at e<;>cases e
theorem xn {σv σv':St} {tg:Tg} (hs:∀j∈slots tg,cap.length<=j) (hl:σv'.length=(dw cap nl σv).length) (h:∀j,j∉slots tg->σv'[j]? = (dw cap nl σv)[j]?):Kept (dw cap nl σv) σv':=by
 refine⟨hl.symm,λi v e=>?_⟩
 have hi:i<cap.length:=by
  by_cases hi:i<cap.length
  ·exact hi
  ·unfold dw at e
   rw[BL (by simpa using hi),BR]at e
   split at e<;>cases e
 rw[h i λz=>absurd (hs i z) (by lia)]
 exact e
theorem sm {m:Mk} {tg:Tg} {it:It} {cs:Exs} {elt:Ex} {σv:St} {H:Hp} {Q:VK} (hs:∀j∈slots tg,cap.length<=j) (h:tE X.K φ (.comp m cap nl tg it cs elt) σv H Q) :
  Ek (tI X.K φ it) (tG X.K tg) (tTs X.K φ cs) (tE X.K φ elt) (dw cap nl) σv H (FQ Q):=by
 obtain⟨ι,σ,μ,hS,hL,h⟩:=h
 simp![evE]at h
 obtain⟨⟨ds,g⟩,μ1,e1,h⟩:=h.bind
 refine⟨ι,σ,μ,hS,hL,?_⟩
 rw[e1]
 intro ι1 H1 J p1 x1 s1 wk
 refine⟨λi k H' acc=>k=ds.length-i/\i<=ds.length/\acc.length<=i/\∃ι' μ' ys,ι1 <+: ι'/\Ext H1 H'/\Sim X.K ι' H' μ'/\af X.K ι' H' ys acc /\
  cv X.K (RD X.K) ι' H' ((mapR g (λd μ=>fk (di tg d (cap.map (λi=>(σ[i]?).getD none)++List.replicate nl none)) λσ' =>
    (sg φ cs σ' μ).bind λb μ=>if b=true then(evE φ elt σ' μ).bind λx μ=>.ok [x] μ else .ok [] μ) (ds.drop i) μ').bind λxs μ=>mkL m (ys++xs) μ) Q,
  ⟨ds.length,by simp,Nat.zero_le _,AH _,ι1,μ1,[],AD _,.refl _,s1,by simp[af],?_⟩,?_⟩
 ·simpa using h.mono p1 x1
 ·rintro i k H' acc ⟨rfl,hi,hacc,ι',μ',ys,p',x',s',hys,h'⟩
  have wl:=wk.len
  by_cases hlt:i<ds.length
  ·obtain⟨d,ed⟩:∃d,ds[i]? = some d:=⟨ds[i],AA hlt⟩
   have edrop:ds.drop i=d::ds.drop (i+1):=by
    rw[EJ hlt]
    rw[AA hlt]at ed
    cases ed;rfl
   rw[edrop]at h'
   simp![mapR]at h'
   split at h'
   ·rename_i hgd
    right
    refine⟨wk.go i ι' H' μ' p' x' s' hgd hlt,by lia,λv H2 hy=>?_⟩
    obtain⟨x2,s2,d',ed',hd'⟩:=wk.yld i ι' H' μ' v H2 p' x' s' hgd hlt hy
    rw[ed]at ed';cases ed'
    rw[Res.bind_assoc]at h'
    cases eb:di tg d (cap.map (λi=>(σ[i]?).getD none)++List.replicate nl none)with
    | none=>rw[eb]at h';exact h'.elim
    | some σb =>
     rw[eb]at h'
     simp![fo]at h'
     have hLb:=xm (cap:=cap) (nl:=nl) ((hL.mono (p1.trans p') (x1.trans x')).mono (AD _) x2)
     refine⟨ι',_,d,σb,hLb,?_,hd',eb,λσv2 l2 z2 z3 k2=>⟨xn hs z3 k2,ι',σb,μ',s2,l2,?_⟩⟩
     ·simp[dw]
     ·rw[Res.bind_assoc]at h'
      obtain⟨b,μ2,e2,h2⟩:=h'.bind
      rw[e2]
      intro ι3 b' H3 p3 x3 s3 d3
      cases d3
      cases b with
      | false =>
       refine⟨ds.length-(i+1),by lia,rfl,hlt,by lia,ι3,μ2,ys,p'.trans p3,(x'.trans x2).trans x3,s3,af.mono p3 (x2.trans x3) _ _ hys,?_⟩
       have h3:=h2.mono p3 (x2.trans x3)
       simpa[Res.bind_assoc]using h3
      | true =>
       simp![if_true]at h2 ⊢
       rw[Res.bind_assoc]at h2
       obtain⟨y,μ3,e3,h3⟩:=h2.bind
       refine⟨ι3,σb,μ2,s3,l2.mono p3 x3,?_⟩
       rw[e3]
       intro ι4 w H4 p4 x4 s4 d4
       refine⟨ds.length-(i+1),by lia,rfl,hlt,by simp;lia,ι4,μ3,ys++[y],(p'.trans p3).trans p4,((x'.trans x2).trans x3).trans x4,s4,(af.mono (p3.trans p4) ((x2.trans x3).trans x4) _ _ hys).append (.one d4),?_⟩
       have h4:=h3.mono (p3.trans p4) ((x2.trans x3).trans x4)
       simpa[Res.bind_assoc]using h4
   ·exact h'.elim
  ·have ei:i=ds.length:=by lia
   subst ei
   simp![List.drop_length,mapR]at h'
   split at h'
   ·rename_i hgd
    refine .inl ⟨wk.stop ι' H' μ' p' x' s' hgd,by lia,λp hp=>gs s' hys (by simpa using h') hp⟩
   ·exact h'.elim
theorem Em {e target iter:Expr} {ifs:List Expr} {pos:Pos} {m:Mk} {tg:Tg} {it:It} {cs:Exs} {elt:Ex} (S:CompScope X.env.scope scope X.N Nb cap nl) (hc:X.calm=true) (hi:PI X target iter (tI X.K φ it))
  (B:xk X scope Nb target ifs e (tG X.K tg) (tTs X.K φ cs) (tE X.K φ elt)) (hf:∀x,foldedSetIterable iter X.env x=pure x) (hs:∀j∈slots tg,cap.length<=j) :
  PE X (.ListComp e [⟨target,iter,ifs,0⟩] scope pos) (tE X.K φ (.comp m cap nl tg it cs elt)) :=
 PE.imp (PE.fq (Bv S hc hi B hf)) λσv H Q h=>sm hs h
end
section
variable {X : Cx} {φ : Phi}
theorem cz {K:PySem.W.Frag} {ι:List Addr} {H:Hp} {ds:List D} {v:V} (h:IsD K ι H (.tup ds) v):∃a xs,v=.ref a/\SqT K H a xs/\af K ι H ds xs:=by
 simpa[IsD]using h
theorem tup_is {K:PySem.W.Frag} {ι:List Addr} {H:Hp} {ds:List D} {a:Addr} {xs:List V} (h:SqT K H a xs) (h2:af K ι H ds xs):IsD K ι H (.tup ds) (.ref a):=by
 simp![IsD]
 exact⟨a,xs,rfl,h,h2⟩
theorem bq {K:PySem.W.Frag} {ι:List Addr} {H:Hp} {i:Int} {v:V} (h:IsD K ι H (.int i) v):v=.int i:=by simpa[IsD]using h
theorem my {K:PySem.W.Frag} {ι:List Addr} {H:Hp} {i:Bool} {v:V} (h:IsD K ι H (.bl i) v):v=.bl i:=by simpa[IsD]using h
theorem j5 {K:PySem.W.Frag} {ι:List Addr} {H:Hp} {μ:Sto} {ds:List D} {xs:List V} {Q:VK} {p:Addr} (hS:Sim K ι H μ) (hd:af K ι H ds xs) (h:cv K (RD K) ι H (.ok (.tup ds) μ) Q) (hp:H p=none):Q (.ref p) (upd H p (.tup xs)) :=
 h ι (.ref p) _ (AD _) (.new hp) (hS.new hp) (tup_is (.of av) (af.mono (AD _) (.new hp) ds xs hd))
theorem sr {pins:List (Addr×Obj)} {s:Shared} {σ:St} {H:Hp} {l b:Addr} {xs zs:List V} {Q:VK} (I:Inv X pins σ H s) (hl:LsL X.K H l xs) (hb:LsL X.K H b zs) (hz:xs.length+zs.length<=sizeLine)
  (q:∀p,H p=none->Q (.ref p) (upd H p (.lst (xs++zs)))):wpAny (model X.prog X.w) X.A (binaryOp .Add (.ref l) (.ref b)) (EP X pins σ Q) X.xe s:=by
 obtain⟨z,its,n,r,hl,e⟩:=I.ls hl
 obtain⟨z2,its2,n2,r2,hl2,e2⟩:=I.ls hb
 refine PySem.P.add_list e e2 ?_ (by rw[AC,AC];lia)
 have ea:its.toArray++its2.toArray=(its++its2).toArray:=by simp
 rw[ea]
 exact⟨.ref _,_,I.lnew (t':=s.toks) (r.append r2) (by rw[BH];lia),rfl,q _ I.fresh⟩
theorem xp {pins:List (Addr×Obj)} {s:Shared} {σ:St} {H:Hp} {l:Addr} {k:Int} {t:Tok} {xs:List V} {Q:VK} (I:Inv X pins σ H s) (hH:LsL X.K H l xs) (h1:-(2 ^ 63)<=k) (h2:k<2 ^ 63) (hz:xs.length*k.toNat<=sizeLine)
  (q:∀p,H p=none->Q (.ref p) (upd H p (.lst (List.replicate k.toNat xs).flatten))):wpAny (model X.prog X.w) X.A (binaryOp .Mult (.ref l) (.int k t)) (EP X pins σ Q) X.xe s:=by
 obtain⟨z,its,n,r,hl,e⟩:=I.ls hH
 have hlen:its.toArray.size*k.toNat<=sizeLine:=by rw[AC,<-hl];exact hz
 have hcap:¬its.toArray.size*k.toNat > (2 ^ 63-1) / 8:=by
  have:(sizeLine:Nat)<=(2 ^ 63-1) / 8:=by decide
  lia
 have hfit:¬(!Builtin.List.listFitsIndex k)=true:=by
  rw[fitsIndex_both h1 h2]
  exact AR
 have hlong:¬Builtin.List.listTooLong (its.toArray.size*k.toNat)=true:=by
  rw[og hlen]
  exact AR
 have hnew:List.foldl (λx1 x2=>x1++x2) #[] (List.replicate (if its.toArray.isEmpty=true then 0 else k.toNat) its.toArray)=(List.replicate k.toNat its).flatten.toArray:=by
  have f0:∀m:Nat,List.foldl (λx1 x2=>x1++x2) #[] (List.replicate m its.toArray)=(List.replicate m its).flatten.toArray:=λm=>by
   have:=foldl_rep its m []
   rw[DZ]at this
   exact this
  rw[f0]
  cases its with
  | nil=>simp
  | cons a r'=>rw[if_neg (by simp)]
 refine wpAny_binaryOp_repeat_ref (T:="list") (U:="int") (by decide) ⟨_,e,rfl⟩ (λs'=>typeIs_int s' k t) noFill_list_mul F.fills_int_mul F.slot_int_rmul repeat_list F.slot_int_index.lookup
  (EE F.slot_int_rmul (typeIs_int s k t) F.entry_int_rmul (F.args_int_rmul_2 _ _) (int___rmul___int_list k t l its.toArray n)
   ⟨e,rfl,⟨_,e,rfl⟩,EE F.slot_list_mul ⟨_,e,rfl⟩ F.entry_list_mul (F.args_list_mul_2 _ _) (AutoListH.list___mul___list_int_3 l its.toArray n k t hfit hcap hlong) ⟨e,?_⟩⟩)
 rw[hnew]
 exact⟨.ref _,_,I.lnew (t':=s.toks) (r.rep k.toNat) (by rw[len_rep,Nat.mul_comm];exact hz),rfl,q _ I.fresh⟩
theorem Bw {pins:List (Addr×Obj)} {s:Shared} {σ:St} {H:Hp} {a b:Addr} {ys:List V} {Q:VK} (I:Inv X pins σ H s) (ha:SqT X.K H a []) (hb:SqT X.K H b ys) (q:Q (.ref b) H) :
  wpAny (model X.prog X.w) X.A (binaryOp .Add (.ref a) (.ref b)) (EP X pins σ Q) X.xe s:=by
 obtain⟨its,r1,p1,_⟩:=I.tuple ha
 obtain⟨its2,r2,p2,_⟩:=I.tuple hb
 have e1:its=[]:=by cases r1;rfl
 subst e1
 obtain⟨⟨cls,dd,data,sl⟩,ho,hc,n,hd⟩:=id p1
 obtain⟨⟨cls2,dd2,data2,sl2⟩,ho2,hc2,n2,hd2⟩:=id p2
 simp only at hc hd hc2 hd2
 subst hc hd hc2 hd2
 exact concat_meets ⟨_,ho,rfl⟩ ⟨_,ho2,rfl⟩ EY seq_tuple_add DL DI (DF _ _)
   (tuple_addW0 a b ([]:List Value).toArray its2.toArray n n2 dd dd2 sl sl2 (by simp)) ⟨ho,ho2,⟨.ref b,H,I,rfl,q⟩⟩
theorem En {op:Operator} {m:Mk}:OpR X (binaryOp op) (rOp X.K (opD op m)):=by
 intro pins s σ H x y v u Q I rx ry ⟨ι,d,e,μ,hS,hd,he,h⟩
 unfold opD at h
 split at h
 ·rename_i i j
  cases bq hd
  cases bq he
  unfold opI at h
  split at h
  ·exact op_add pins s σ H _ _ v u Q I rx ry ⟨i,j,rfl,rfl,h.ok hS (by simp[IsD])⟩
  ·exact op_sub pins s σ H _ _ v u Q I rx ry ⟨i,j,rfl,rfl,h.ok hS (by simp[IsD])⟩
  ·split at h
   ·rename_i hc
    exact op_mul pins s σ H _ _ v u Q I rx ry ⟨i,j,rfl,rfl,hc,h.ok hS (by simp[IsD])⟩
   ·exact h.elim
  ·split at h
   ·rename_i hc
    exact A2 pins s σ H _ _ v u Q I rx ry ⟨i,j,rfl,rfl,hc,h.ok hS (by simp[IsD])⟩
   ·exact h.elim
  ·split at h
   ·rename_i hc
    exact op_mod pins s σ H _ _ v u Q I rx ry ⟨i,j,rfl,rfl,hc,h.ok hS (by simp[IsD])⟩
   ·exact h.elim
  ·split at h
   ·rename_i hc
    exact op_pow pins s σ H _ _ v u Q I rx ry ⟨i,j,rfl,rfl,hc,h.ok hS (by simp[IsD])⟩
   ·exact h.elim
  ·split at h
   ·rename_i hc
    exact op_shr pins s σ H _ _ v u Q I rx ry ⟨i,j,rfl,rfl,hc,h.ok hS (by simp[IsD])⟩
   ·exact h.elim
  ·exact h.elim
 ·rename_i xs ys
  split at h
  ·split at h
   ·rename_i hz
    obtain⟨a,vs,rfl,ha,hvs⟩:=cz hd
    obtain⟨b,ws,rfl,hb,hws⟩:=cz he
    cases rx
    cases ry
    rw[c6]at hz
    by_cases hx:vs=[]
    ·subst hx
     have e1:xs=[]:=by have:=hvs.length;simpa using this.symm
     subst e1
     exact Bw I ha hb (h.ok hS he)
    ·refine A8 pins s σ H (.ref a) (.ref b) _ _ Q I rfl rfl ⟨a,b,vs,ws,rfl,rfl,ha,hb,hx,by rw[hvs.length,hws.length];exact hz,λz=>?_,λz p hp=>j5 hS (hvs.append hws) h hp⟩
     subst z
     have e1:ys=[]:=by have:=hws.length;simpa using this.symm
     subst e1
     exact h.ok hS (by simpa using hd)
   ·exact h.elim
  ·exact h.elim
 ·rename_i j _
  cases bq he
  split at h
  ·rename_i es
   split at h
   ·rename_i hz
    obtain⟨a,xs,rfl,ha,hxs⟩:=gu hS hd es
    cases rx
    obtain⟨t,rfl⟩:=ry
    rw[c6]at hz
    exact y6 (xp I ha hz.2.1 hz.2.2 (by rw[hxs.length];exact hz.1) λp hp=>gs hS (hxs.rep _) h hp)
   ·exact h.elim
  ·exact h.elim
 ·split at h
  ·rename_i es1 es2
   split at h
   ·rename_i hz
    obtain⟨a,xs,rfl,ha,hxs⟩:=gu hS hd es1
    obtain⟨b,ys,rfl,hb,hys⟩:=gu hS he es2
    cases rx
    cases ry
    rw[c6]at hz
    exact y6 (sr I ha hb (by rw[hxs.length,hys.length];exact hz) λp hp=>gs hS (hxs.append hys) h hp)
   ·exact h.elim
  ·exact h.elim
end
section
variable (K : PySem.W.Frag) (H : Hp)
mutual
def IsW:D->V->Prop
 | .non,v=>v=.non
 | .bl b,v=>v=.bl b
 | .int i,v=>v=.int i
 | .str x,v=>v=.str x
 | .tup ds,v=>∃a xs,v=.ref a/\SqT K H a xs/\eg ds xs
 | .lst ds,v=>∃a xs,v=.ref a/\LsL K H a xs/\eg ds xs
 | .loc _,_=>False
def eg:List D->List V->Prop
 | [],xs=>xs=[]
 | d::ds,xs=>∃v r,xs=v::r/\IsW d v/\eg ds r
end
end
section
variable {K : PySem.W.Frag} {H : Hp}
theorem eg.length:∀{ds:List D} {xs:List V},eg K H ds xs->xs.length=ds.length
 | [],xs,h=>by simp![eg]at h;subst h;rfl
 | d::ds,xs,h=>by
  simp![eg]at h
  obtain⟨v,r,rfl,_,t⟩:=h
  simp[eg.length t]
theorem eg.get:∀{ds:List D} {xs:List V} {i:Nat} {d:D},eg K H ds xs->ds[i]? = some d->∃v,xs[i]? = some v/\IsW K H d v
 | [],_,_,_,_,e=>by simp at e
 | d::ds,xs,0,_,h,e=>by
  simp![eg]at h
  obtain⟨v,r,rfl,q,_⟩:=h
  simp at e;subst e
  exact⟨v,rfl,q⟩
 | d::ds,xs,i+1,x,h,e=>by
  simp![eg]at h
  obtain⟨v,r,rfl,_,t⟩:=h
  obtain⟨w,h1,h2⟩:=eg.get (i:=i) (d:=x) t (by simpa using e)
  exact⟨w,by simpa using h1,h2⟩
theorem iw {ds:List D} {v:V} (h:IsW K H (.tup ds) v):∃a xs,v=.ref a/\SqT K H a xs/\eg K H ds xs:=by simpa[IsW]using h
theorem su {ι:List Addr} {μ:Sto} (S:Sim K ι H μ) (f:D->Option D) (hf:∀d e v,f d=some e->IsD K ι H d v->IsW K H e v):∀{ds es:List D} {xs:List V},bg (ds.map f)=some es->af K ι H ds xs->eg K H es xs
 | [],es,xs,h,hd=>by
  simp![CI,bg,AT]at h
  subst h
  simpa[af,eg]using hd
 | d::ds,es,xs,h,hd=>by
  simp![AQ]at h
  cases e1:f d with
  | none=>rw[e1]at h;simp[bg]at h
  | some e =>
   rw[e1]at h
   simp![bg]at h
   cases e2:bg (ds.map f)with
   | none=>rw[e2]at h;cases h
   | some r =>
    rw[e2]at h
    cases h
    simp![af]at hd
    obtain⟨v,t,rfl,q,hd⟩:=hd
    simp![eg]
    exact⟨v,t,rfl,hf d e v e1 q,su S f hf e2 hd⟩
theorem ll {ι:List Addr} {μ:Sto} (S:Sim K ι H μ):∀(k:Nat) (d e:D) (v:V),au μ k d=some e->IsD K ι H d v->IsW K H e v
 | 0,d,e,v,h,hd=>by
  cases d<;>simp_all[au,flat,IsD,IsW]<;>(subst h;simp[IsW])
 | k+1,d,e,v,h,hd=>by
  have ih:=ll S k
  have sub:∀{ι':List Addr} {ds es:List D} {xs:List V},ι' <+: ι->bg (ds.map (au μ k))=some es->af K ι' H ds xs->eg K H es xs:=λp h hd=>su S _ ih h (af.mono p (.refl _) _ _ hd)
  cases d with
  | tup ds =>
   simp![au]at h
   cases e1:bg (ds.map (au μ k))with
   | none=>rw[e1]at h;cases h
   | some es =>
    rw[e1]at h;cases h
    obtain⟨a,xs,rfl,hq,hds⟩:=cz hd
    simp![IsW]
    exact⟨a,xs,rfl,hq,sub (AD _) e1 hds⟩
  | lst ds =>
   simp![au]at h
   cases e1:bg (ds.map (au μ k))with
   | none=>rw[e1]at h;cases h
   | some es =>
    rw[e1]at h;cases h
    obtain⟨a,xs,rfl,hq,hds⟩:∃a xs,v=.ref a/\FzL K H a xs/\af K ι H ds xs:=by simpa[IsD]using hd
    simp![IsW]
    exact⟨a,xs,rfl,.inr hq,sub (AD _) e1 hds⟩
  | loc n =>
   obtain⟨a,rfl,hn⟩:∃a,v=.ref a/\ι[n]? = some a:=by simpa[IsD]using hd
   simp![au]at h
   cases em:μ[n]? with
   | none=>rw[em]at h;cases h
   | some o =>
    obtain⟨a',q',ho⟩:=S.at em
    rw[hn]at q';cases q'
    rw[em]at h
    cases o with
    | l ds =>
     simp only at h
     obtain⟨xs,f1,f2⟩:=ho
     cases e1:bg (ds.map (au μ k))with
     | none=>rw[e1]at h;cases h
     | some es =>
      rw[e1]at h;cases h
      simp![IsW]
      exact⟨a,xs,rfl,(.inl f1),sub CA e1 f2⟩
    | r ds =>
     simp only at h
     obtain⟨xs,f1,f2⟩:=ho
     cases e1:bg (ds.map (au μ k))with
     | none=>rw[e1]at h;cases h
     | some es =>
      rw[e1]at h;cases h
      simp![IsW]
      exact⟨a,xs,rfl,(.inl f1),sub (AD _) e1 f2⟩
    | _=>cases h
  | _=>simp![au]at h;cases h;simpa[IsD,IsW]using hd
mutual
theorem IsW.ofD:∀{d:D} {v:V},IsD K [] H d v->IsW K H d v
 | .non,v,h=>by simpa[IsD,IsW]using h
 | .bl _,v,h=>by simpa[IsD,IsW]using h
 | .int _,v,h=>by simpa[IsD,IsW]using h
 | .str _,v,h=>by simpa[IsD,IsW]using h
 | .tup ds,v,h=>by
  obtain⟨a,xs,rfl,hq,hds⟩:=cz h
  simp![IsW]
  exact⟨a,xs,rfl,hq,eg.ofD hds⟩
 | .lst ds,v,h=>by
  obtain⟨a,xs,rfl,hq,hds⟩:∃a xs,v=.ref a/\FzL K H a xs/\af K [] H ds xs:=by simpa[IsD]using h
  simp![IsW]
  exact⟨a,xs,rfl,.inr hq,eg.ofD hds⟩
 | .loc n,v,h=>by simp[IsD]at h
theorem eg.ofD:∀{ds:List D} {xs:List V},af K [] H ds xs->eg K H ds xs
 | [],xs,h=>by simpa[af,eg]using h
 | d::ds,xs,h=>by
  simp![af]at h
  obtain⟨v,r,rfl,q,t⟩:=h
  simp![eg]
  exact⟨v,r,rfl,IsW.ofD q,eg.ofD t⟩
end
theorem iy {μ:Sto} {k:Nat} (ih:∀d e,au μ k d=some e->D.pureN k e=true):∀{ds es:List D},bg (ds.map (au μ k))=some es->es.all (D.pureN k)=true
 | [],es,h=>by simp![CI,bg,AT]at h;subst h;rfl
 | d::ds,es,h=>by
  simp![AQ]at h
  cases e1:au μ k d with
  | none=>rw[e1]at h;simp[bg]at h
  | some e =>
   rw[e1]at h
   simp![bg]at h
   cases e2:bg (ds.map (au μ k))with
   | none=>rw[e2]at h;cases h
   | some r =>
    rw[e2]at h;cases h
    simp![BN,ih d e e1,iy ih e2,Bool.and_self]
theorem dk {μ:Sto}:∀(k:Nat) (d e:D),au μ k d=some e->D.pureN k e=true
 | 0,d,e,h=>by
  cases d<;>simp_all[au,flat]<;>(subst h;rfl)
 | k+1,d,e,h=>by
  have ih:=dk (μ:=μ) k
  have mp:∀{ds:List D} {c:List D->D},(∀es,es.all (D.pureN k)=true->D.pureN (k+1) (c es)=true)->(bg (ds.map (au μ k))).map c=some e->D.pureN (k+1) e=true:=λ{ds c} hc h=>by
   cases e1:bg (ds.map (au μ k))with
   | none=>rw[e1]at h;cases h
   | some es=>rw[e1]at h;cases h;exact hc es (iy ih e1)
  cases d with
  | tup ds=>simp![au]at h;exact mp (c:=.tup) (λes h=>h) h
  | lst ds=>simp![au]at h;exact mp (c:=.lst) (λes h=>h) h
  | loc n =>
   simp![au]at h
   cases em:μ[n]? with
   | none=>rw[em]at h;cases h
   | some o =>
    rw[em]at h
    cases o with
    | l ds=>exact mp (c:=.lst) (λes h=>h) h
    | r ds=>exact mp (c:=.lst) (λes h=>h) h
    | _=>cases h
  | _=>simp![au]at h;cases h;rfl
end
open PySem.SeqAt (EqAt RcAt RcNeAt)
section
variable {X : Cx} {φ : Phi} {pins : List (Addr × Obj)} {σ : St} {H : Hp} {s : Shared}
theorem in1_units (A:Around):A.in1.units=A.units+1:=by
 first | rfl | simp[Around.in1]
theorem gw:∀(as bs:List D),as.length=bs.length->w4 as bs=(List.range as.length).all λj=>deq (as.getD j .non) (bs.getD j .non)
 | [],[],_=>rfl
 | a::as,b::bs,h=>by
  rw[w4,gw as bs (by simpa using h),AV,FI,BN,FJ]
  rfl
 | [],_::_,h=>by simp at h
 | _::_,[],h=>by simp at h
theorem j6:∀(as bs:List D),as.length≠bs.length->w4 as bs=false
 | [],[],h=>absurd rfl h
 | a::as,b::bs,h=>by rw[w4,j6 as bs (by simpa using h),Bool.and_false]
 | [],_::_,_=>rfl
 | _::_,[],_=>rfl
theorem mz:∀(k:Nat) (a b:D) (v:V),D.pureN k a=true->D.pureN k b=true->IsW X.K H a v->IsW X.K H b v->Inv X pins σ H s->deq a b=true:=by
 intro k
 have list:∀k,(∀(a b:D) (v:V),D.pureN k a=true->D.pureN k b=true->IsW X.K H a v->IsW X.K H b v->Inv X pins σ H s->deq a b=true) ->
   ∀(as bs:List D) (xs:List V),as.all (D.pureN k)=true->bs.all (D.pureN k)=true->eg X.K H as xs->eg X.K H bs xs->Inv X pins σ H s->w4 as bs=true:=by
  intro k ih as
  induction as with
  | nil =>
   intro bs xs _ _ ha hb _
   have e:xs=[]:=by simpa[eg]using ha
   subst e
   have:=hb.length
   have e2:bs=[]:=by simpa using this.symm
   subst e2
   rfl
  | cons a as iha =>
   intro bs xs pa pb ha hb I
   cases bs with
   | nil =>
    have e:xs=[]:=by simpa[eg]using hb
    subst e
    have:=ha.length
    simp at this
   | cons b bs =>
    simp![eg]at ha hb
    obtain⟨v,r,e,q,t⟩:=ha
    obtain⟨v',r',e',q',t'⟩:=hb
    rw[e]at e'
    cases e'
    simp![BN,AS]at pa pb
    rw[w4,ih a b v pa.1 pb.1 q q' I,iha bs r pa.2 pb.2 t t' I]
    rfl
 have flat:∀(a b:D) (v:V),(∀ds,a≠.tup ds)->(∀ds,a≠.lst ds)->(∀n,a≠.loc n)->(∀n,b≠.loc n)->IsW X.K H a v->IsW X.K H b v->deq a b=true:=by
  intro a b v h1 h2 h3 h4 ha hb
  cases a with
  | tup ds=>exact absurd rfl (h1 ds)
  | lst ds=>exact absurd rfl (h2 ds)
  | loc n=>exact absurd rfl (h3 n)
  | _=>cases b<;>simp_all[IsW,deq]
 induction k with
 | zero =>
  intro a b v pa pb ha hb I
  refine flat a b v ?_ ?_ ?_ ?_ ha hb
  ·intro z e;subst e;simp[D.pureN]at pa
  ·intro z e;subst e;simp[D.pureN]at pa
  ·intro z e;subst e;simp[D.pureN]at pa
  ·intro z e;subst e;simp[D.pureN]at pb
 | succ k ih =>
  intro a b v pa pb ha hb I
  cases a with
  | loc n=>simp[D.pureN]at pa
  | tup as =>
   simp![IsW]at ha
   obtain⟨p,xs,rfl,hq,hds⟩:=ha
   cases b with
   | tup bs =>
    simp![IsW]at hb
    obtain⟨p',xs',e,hq',hds'⟩:=hb
    cases e
    have:=I.tuple_inj hq hq'
    subst this
    rw[deq]
    exact list k ih as bs xs (by simpa[D.pureN]using pa) (by simpa[D.pureN]using pb) hds hds' I
   | lst bs =>
    simp![IsW]at hb
    obtain⟨p',xs',e,hq',hds'⟩:=hb
    cases e
    exfalso
    obtain⟨its,_,⟨o,e1,c1,_⟩,_⟩:=I.tuple hq
    obtain⟨its',_,⟨o',n',e2,c2,_⟩,_⟩:=I.list hq'.sq
    rw[e1]at e2;cases e2
    rw[c1]at c2
    injection c2 with c3
    exact absurd c3 (by decide)
   | loc n=>simp[D.pureN]at pb
   | _=>simp[IsW]at hb
  | lst as =>
   simp![IsW]at ha
   obtain⟨p,xs,rfl,hq,hds⟩:=ha
   cases b with
   | lst bs =>
    simp![IsW]at hb
    obtain⟨p',xs',e,hq',hds'⟩:=hb
    cases e
    have:=I.list_inj hq.sq hq'.sq
    subst this
    rw[deq]
    exact list k ih as bs xs (by simpa[D.pureN]using pa) (by simpa[D.pureN]using pb) hds hds' I
   | tup bs =>
    simp![IsW]at hb
    obtain⟨p',xs',e,hq',hds'⟩:=hb
    cases e
    exfalso
    obtain⟨its,_,⟨o,e1,c1,_⟩,_⟩:=I.tuple hq'
    obtain⟨its',_,⟨o',n',e2,c2,_⟩,_⟩:=I.list hq.sq
    rw[e1]at e2;cases e2
    rw[c1]at c2
    injection c2 with c3
    exact absurd c3 (by decide)
   | loc n=>simp[D.pureN]at pb
   | _=>simp[IsW]at hb
  | _ =>
   refine flat _ b v (by intro _ z;cases z) (by intro _ z;cases z) (by intro _ z;cases z) ?_ ha hb
   intro z e;subst e;simp[D.pureN]at pb
theorem xq (I:Inv X pins σ H s) {k:Nat} {A:Around} {a b:D} {x y:V} {u v:Value} (pa:D.pureN k a=true) (pb:D.pureN k b=true) (ha:IsW X.K H a x) (hb:IsW X.K H b y) (ru:RelV x u) (rv:RelV y v) (h:RcAt A s u v (deq a b)):EqAt A s u v (deq a b):=by
 intro prog w E Q q
 have fl:∀b t,u≠.float b t:=λb t z=>by
  subst z
  cases a with
  | non=>cases(show x=.non by simpa[IsW]using ha);exact nomatch (show Value.float b t=.none from ru)
  | bl c=>cases(show x=.bl c by simpa[IsW]using ha);exact nomatch (show Value.float b t=.bool c from ru)
  | int c=>cases(show x=.int c by simpa[IsW]using ha);obtain⟨_,z⟩:=ru;cases z
  | str c=>cases(show x=.str c by simpa[IsW]using ha);obtain⟨_,z⟩:=ru;cases z
  | loc n=>simp[IsW]at ha
  | tup _=>obtain⟨c,_,rfl,_⟩:=iw ha;exact nomatch (show Value.float b t=.ref c from ru)
  | lst ds =>
        obtain⟨c,_,rfl,_⟩:∃a xs,x=.ref a/\LsL X.K H a xs/\eg X.K H ds xs:=by simpa[IsW]using ha
        exact nomatch (show Value.float b t=.ref c from ru)
 unfold eqBool
 refine DD ?_
 by_cases e:(u==v)=true
 ·rw[if_pos e]
  have e':u=v:=by simpa using e
  subst e'
  cases ru.inj rv
  rw[mz k _ _ _ pa pb ha hb I]at q
  exact AB (wpAny_rule (AJ q))
 ·rw[if_neg e]
  have go:wpAny (model prog w) A (do
    let r <-richCompare .Eq u v
    truthOfDropped r) Q E s:=AB (h prog w _ _ (by exact CM q))
  cases u with
  | float b t=>exact absurd rfl (fl b t)
  | _=>exact go
theorem sv (A:Around) (a b:D) (x y:V) (u v:Value) (pa:D.pureN 0 a=true) (pb:D.pureN 0 b=true) (ha:IsW X.K H a x) (hb:IsW X.K H b y) (ru:RelV x u) (rv:RelV y v):RcAt A s u v (deq a b)/\RcNeAt A s u v (!deq a b):=by
 have b2:∀(a b:Int),decide (a=b)=(a==b):=λa b=>(Db a b).symm
 cases a with
 | tup _=>simp[D.pureN]at pa
 | lst _=>simp[D.pureN]at pa
 | loc _=>simp[D.pureN]at pa
 | non =>
  have ex:x=.non:=by simpa[IsW]using ha
  subst ex
  cases(show u=Value.none from ru)
  cases b with
  | tup _=>simp[D.pureN]at pb
  | lst _=>simp[D.pureN]at pb
  | loc _=>simp[D.pureN]at pb
  | non=>cases(show y=.non by simpa[IsW]using hb);cases(show v=Value.none from rv);exact⟨RcAt.none_none,RcNeAt.none_none⟩
  | bl c=>cases(show y=.bl c by simpa[IsW]using hb);cases(show v=Value.bool c from rv);exact⟨RcAt.none_bool _,RcNeAt.none_bool _⟩
  | int c=>cases(show y=.int c by simpa[IsW]using hb);obtain⟨t,rfl⟩:=rv;exact⟨RcAt.none_int _ _,RcNeAt.none_int _ _⟩
  | str c=>cases(show y=.str c by simpa[IsW]using hb);obtain⟨t,rfl⟩:=rv;exact⟨RcAt.none_str _ _,RcNeAt.none_str _ _⟩
 | bl d =>
  have ex:x=.bl d:=by simpa[IsW]using ha
  subst ex
  cases(show u=Value.bool d from ru)
  cases b with
  | tup _=>simp[D.pureN]at pb
  | lst _=>simp[D.pureN]at pb
  | loc _=>simp[D.pureN]at pb
  | non=>cases(show y=.non by simpa[IsW]using hb);cases(show v=Value.none from rv);exact⟨RcAt.bool_none _,RcNeAt.bool_none _⟩
  | bl c=>cases(show y=.bl c by simpa[IsW]using hb);cases(show v=Value.bool c from rv);exact⟨RcAt.bool_bool _ _,RcNeAt.bool_bool _ _⟩
  | int c=>cases(show y=.int c by simpa[IsW]using hb);obtain⟨t,rfl⟩:=rv;rw[deq,b2];exact⟨RcAt.bool_int _ _ _,RcNeAt.bool_int _ _ _⟩
  | str c=>cases(show y=.str c by simpa[IsW]using hb);obtain⟨t,rfl⟩:=rv;exact⟨RcAt.bool_str _ _ _,RcNeAt.bool_str _ _ _⟩
 | int d =>
  have ex:x=.int d:=by simpa[IsW]using ha
  subst ex
  obtain⟨t',rfl⟩:=ru
  cases b with
  | tup _=>simp[D.pureN]at pb
  | lst _=>simp[D.pureN]at pb
  | loc _=>simp[D.pureN]at pb
  | non=>cases(show y=.non by simpa[IsW]using hb);cases(show v=Value.none from rv);exact⟨RcAt.int_none _ _,RcNeAt.int_none _ _⟩
  | bl c=>cases(show y=.bl c by simpa[IsW]using hb);cases(show v=Value.bool c from rv);rw[deq,b2];exact⟨RcAt.int_bool _ _ _,RcNeAt.int_bool _ _ _⟩
  | int c=>cases(show y=.int c by simpa[IsW]using hb);obtain⟨t,rfl⟩:=rv;rw[deq,b2];exact⟨RcAt.int_int _ _ _ _,RcNeAt.int_int _ _ _ _⟩
  | str c=>cases(show y=.str c by simpa[IsW]using hb);obtain⟨t,rfl⟩:=rv;exact⟨RcAt.int_str _ _ _ _,RcNeAt.int_str _ _ _ _⟩
 | str d =>
  have ex:x=.str d:=by simpa[IsW]using ha
  subst ex
  obtain⟨t',rfl⟩:=ru
  cases b with
  | tup _=>simp[D.pureN]at pb
  | lst _=>simp[D.pureN]at pb
  | loc _=>simp[D.pureN]at pb
  | non=>cases(show y=.non by simpa[IsW]using hb);cases(show v=Value.none from rv);exact⟨RcAt.str_none _ _,RcNeAt.str_none _ _⟩
  | bl c=>cases(show y=.bl c by simpa[IsW]using hb);cases(show v=Value.bool c from rv);exact⟨RcAt.str_bool _ _ _,RcNeAt.str_bool _ _ _⟩
  | int c=>cases(show y=.int c by simpa[IsW]using hb);obtain⟨t,rfl⟩:=rv;exact⟨RcAt.str_int _ _ _ _,RcNeAt.str_int _ _ _ _⟩
  | str c =>
   cases(show y=.str c by simpa[IsW]using hb);obtain⟨t,rfl⟩:=rv
   have e:deq (.str d) (.str c)=(d==c):=by rw[deq];exact(Db d c).symm
   rw[e];exact⟨RcAt.str_str _ _ _ _,RcNeAt.str_str _ _ _ _⟩
theorem G7 (I:Inv X pins σ H s):∀(k:Nat) (A:Around) (a b:D) (x y:V) (u v:Value),A.units+k<cLine->D.pureN k a=true->D.pureN k b=true->IsW X.K H a x->IsW X.K H b y->RelV x u->RelV y v->RcAt A s u v (deq a b)/\RcNeAt A s u v (!deq a b):=by
 intro k
 induction k with
 | zero=>exact λA a b x y u v _ pa pb ha hb ru rv=>sv A a b x y u v pa pb ha hb ru rv
 | succ k ih =>
  intro A a b x y u v hu pa pb ha hb ru rv
  have hu0:A.units<cLine:=by lia
  have each:∀(as bs:List D) (xs ys:List V) (is js:List Value),as.all (D.pureN k)=true->bs.all (D.pureN k)=true->eg X.K H as xs->eg X.K H bs ys->ay xs is->ay ys js ->
    ∀j (h1:j<is.toArray.size) (h2:j<js.toArray.size),EqAt A.in1 s is.toArray[j] js.toArray[j] (deq (as.getD j .non) (bs.getD j .non)):=by
   intro as bs xs ys is js pas pbs has hbs hvx hvy j h1 h2
   have l1:as.length=is.length:=by rw[<-has.length,hvx.length]
   have l2:bs.length=js.length:=by rw[<-hbs.length,hvy.length]
   have j1:j<as.length:=by rw[l1];simpa using h1
   have j2:j<bs.length:=by rw[l2];simpa using h2
   obtain⟨p,e1,q1⟩:=has.get (AA j1)
   obtain⟨p',e1',q1'⟩:=hbs.get (AA j2)
   obtain⟨w,e2,q2⟩:=hvx.get e1
   obtain⟨w',e2',q2'⟩:=hvy.get e1'
   have g1:is.toArray[j]=w:=by
    have:is[j]? = some is.toArray[j]:=by simp[AA (show j<is.length by lia)]
    rw[this]at e2;exact AX e2
   have g2:js.toArray[j]=w':=by
    have:js[j]? = some js.toArray[j]:=by simp[AA (show j<js.length by lia)]
    rw[this]at e2';exact AX e2'
   rw[g1,g2,BD,BD,AA j1,AA j2]
   have pa:=AW.mp pas _ (List.getElem_mem j1)
   have pb:=AW.mp pbs _ (List.getElem_mem j2)
   exact xq I pa pb q1 q1' q2 q2' (ih A.in1 _ _ p p' w w' (by rw[in1_units];lia) pa pb q1 q1' q2 q2').1
  have flat0:∀d:D,D.pureN (k+1) d=true->(∀ds,d≠.tup ds)->(∀ds,d≠.lst ds)->D.pureN 0 d=true:=λd h h1 h2=>by
   cases d with
   | tup ds=>exact absurd rfl (h1 ds)
   | lst ds=>exact absurd rfl (h2 ds)
   | loc n=>simp[D.pureN]at h
   | _=>rfl
  cases a with
  | loc n=>simp[D.pureN]at pa
  | tup as =>
   have pas:as.all (D.pureN k)=true:=by simpa[D.pureN]using pa
   obtain⟨p,xs,rfl,hq,hds⟩:=iw ha
   cases(show u=Value.ref p from ru)
   obtain⟨its,hv,ht,hz⟩:=I.tuple hq
   have ht':s.heap.IsTuple p its.toArray:=ht
   cases b with
   | loc n=>simp[D.pureN]at pb
   | tup bs =>
    have pbs:bs.all (D.pureN k)=true:=by simpa[D.pureN]using pb
    obtain⟨p',xs',rfl,hq',hds'⟩:=iw hb
    cases(show v=Value.ref p' from rv)
    obtain⟨its',hv',ht2,hz'⟩:=I.tuple hq'
    ·skip
     have ea:=each as bs xs xs' its its' pas pbs hds hds' hv hv'
     have q:=RcAt.tuples (A:=A) ht' (show s.heap.IsTuple p' its'.toArray from ht2) hu0 ea
     have q':=RcNeAt.tuples (A:=A) ht' (show s.heap.IsTuple p' its'.toArray from ht2) hu0 ea
     have l1:as.length=its.length:=by rw[<-hds.length,hv.length]
     have l2:bs.length=its'.length:=by rw[<-hds'.length,hv'.length]
     have e:((List.range (min its.toArray.size its'.toArray.size)).all (λj=>deq (as.getD j .non) (bs.getD j .non))&&its.toArray.size==its'.toArray.size)=deq (.tup as) (.tup bs):=by
      rw[deq]
      simp![AC,<-l1,<-l2]
      by_cases hl:as.length=bs.length
      ·rw[gw as bs hl,<-hl];simp
      ·rw[j6 as bs hl];simp[hl]
     rw[e]at q q'
     exact⟨q,q'⟩
   | lst bs =>
    obtain⟨p',xs',rfl,hq',hds'⟩:∃a xs,y=.ref a/\LsL X.K H a xs/\eg X.K H bs xs:=by simpa[IsW]using hb
    cases(show v=Value.ref p' from rv)
    obtain⟨z,its',n',hv',_,hg⟩:=I.ls hq'
    exact⟨RcAt.tuple_list ht' ⟨_,hg,rfl,n',rfl⟩ hu0,RcNeAt.tuple_list ht' ⟨_,hg,rfl,n',rfl⟩ hu0⟩
   | non=>cases(show y=.non by simpa[IsW]using hb);cases(show v=Value.none from rv);exact⟨RcAt.tuple_none ht' hu0,RcNeAt.tuple_none ht' hu0⟩
   | bl c=>cases(show y=.bl c by simpa[IsW]using hb);cases(show v=Value.bool c from rv);exact⟨RcAt.tuple_bool _ ht' hu0,RcNeAt.tuple_bool _ ht' hu0⟩
   | int c=>cases(show y=.int c by simpa[IsW]using hb);obtain⟨t,rfl⟩:=rv;exact⟨RcAt.tuple_int _ _ ht' hu0,RcNeAt.tuple_int _ _ ht' hu0⟩
   | str c=>cases(show y=.str c by simpa[IsW]using hb);obtain⟨t,rfl⟩:=rv;exact⟨RcAt.tuple_str _ _ ht' hu0,RcNeAt.tuple_str _ _ ht' hu0⟩
  | lst as =>
   have pas:as.all (D.pureN k)=true:=by simpa[D.pureN]using pa
   obtain⟨p,xs,rfl,hq,hds⟩:∃a xs,x=.ref a/\LsL X.K H a xs/\eg X.K H as xs:=by simpa[IsW]using ha
   cases(show u=Value.ref p from ru)
   obtain⟨z,its,n,hv,_,hg⟩:=I.ls hq
   have hl':s.heap.IsList p its.toArray:=⟨_,hg,rfl,n,rfl⟩
   cases b with
   | loc n=>simp[D.pureN]at pb
   | lst bs =>
    have pbs:bs.all (D.pureN k)=true:=by simpa[D.pureN]using pb
    obtain⟨p',xs',rfl,hq',hds'⟩:∃a xs,y=.ref a/\LsL X.K H a xs/\eg X.K H bs xs:=by simpa[IsW]using hb
    cases(show v=Value.ref p' from rv)
    obtain⟨z',its',n',hv',_,hg'⟩:=I.ls hq'
    have hl2:s.heap.IsList p' its'.toArray:=⟨_,hg',rfl,n',rfl⟩
    ·skip
     have l1:as.length=its.length:=by rw[<-hds.length,hv.length]
     have l2:bs.length=its'.length:=by rw[<-hds'.length,hv'.length]
     by_cases hl:as.length=bs.length
     ·have ea:=each as bs xs xs' its its' pas pbs hds hds' hv hv'
      have ez:its.toArray.size=its'.toArray.size:=by simp![AC];lia
      have q:=RcAt.lists (A:=A) hl' hl2 ez hu0 ea
      have q':=RcNeAt.lists (A:=A) hl' hl2 ez hu0 ea
      have e:(List.range its.toArray.size).all (λj=>deq (as.getD j .non) (bs.getD j .non))=deq (.lst as) (.lst bs):=by
       rw[deq,gw as bs hl]
       simp![AC,<-l1]
      rw[e]at q q'
      exact⟨q,q'⟩
     ·rw[deq,j6 as bs hl]
      exact⟨RcAt.lists_lengths hl' hl2 (by simp![AC];simp;lia) hu0,RcNeAt.lists_lengths hl' hl2 (by simp![AC];simp;lia) hu0⟩
   | tup bs =>
    obtain⟨p',xs',rfl,hq',hds'⟩:=iw hb
    cases(show v=Value.ref p' from rv)
    obtain⟨its',hv',ht2,hz'⟩:=I.tuple hq'
    exact⟨RcAt.list_tuple hl' (show s.heap.IsTuple p' its'.toArray from ht2) hu0,RcNeAt.list_tuple hl' (show s.heap.IsTuple p' its'.toArray from ht2) hu0⟩
   | non=>cases(show y=.non by simpa[IsW]using hb);cases(show v=Value.none from rv);exact⟨RcAt.list_none hl' hu0,RcNeAt.list_none hl' hu0⟩
   | bl c=>cases(show y=.bl c by simpa[IsW]using hb);cases(show v=Value.bool c from rv);exact⟨RcAt.list_bool _ hl' hu0,RcNeAt.list_bool _ hl' hu0⟩
   | int c=>cases(show y=.int c by simpa[IsW]using hb);obtain⟨t,rfl⟩:=rv;exact⟨RcAt.list_int _ _ hl' hu0,RcNeAt.list_int _ _ hl' hu0⟩
   | str c=>cases(show y=.str c by simpa[IsW]using hb);obtain⟨t,rfl⟩:=rv;exact⟨RcAt.list_str _ _ hl' hu0,RcNeAt.list_str _ _ hl' hu0⟩
  | _ =>
   cases b with
   | loc n=>simp[D.pureN]at pb
   | tup bs =>
    obtain⟨p',xs',rfl,hq',hds'⟩:=iw hb
    cases(show v=Value.ref p' from rv)
    obtain⟨its',hv',ht2,hz'⟩:=I.tuple hq'
    have ht':s.heap.IsTuple p' its'.toArray:=ht2
    first
    | (cases(show x=.non by simpa[IsW]using ha);cases(show u=Value.none from ru);exact⟨RcAt.none_tuple ht' hu0,RcNeAt.none_tuple ht' hu0⟩)
    | (cases(show x=.bl _ by simpa[IsW]using ha);cases(show u=Value.bool _ from ru);exact⟨RcAt.bool_tuple _ ht' hu0,RcNeAt.bool_tuple _ ht' hu0⟩)
    | (cases(show x=.int _ by simpa[IsW]using ha);obtain⟨t,rfl⟩:=ru;exact⟨RcAt.int_tuple _ _ ht' hu0,RcNeAt.int_tuple _ _ ht' hu0⟩)
    | (cases(show x=.str _ by simpa[IsW]using ha);obtain⟨t,rfl⟩:=ru;exact⟨RcAt.str_tuple _ _ ht' hu0,RcNeAt.str_tuple _ _ ht' hu0⟩)
   | lst bs =>
    obtain⟨p',xs',rfl,hq',hds'⟩:∃a xs,y=.ref a/\LsL X.K H a xs/\eg X.K H bs xs:=by simpa[IsW]using hb
    cases(show v=Value.ref p' from rv)
    obtain⟨z',its',n',hv',_,hg'⟩:=I.ls hq'
    have hl':s.heap.IsList p' its'.toArray:=⟨_,hg',rfl,n',rfl⟩
    first
    | (cases(show x=.non by simpa[IsW]using ha);cases(show u=Value.none from ru);exact⟨RcAt.none_list hl' hu0,RcNeAt.none_list hl' hu0⟩)
    | (cases(show x=.bl _ by simpa[IsW]using ha);cases(show u=Value.bool _ from ru);exact⟨RcAt.bool_list _ hl' hu0,RcNeAt.bool_list _ hl' hu0⟩)
    | (cases(show x=.int _ by simpa[IsW]using ha);obtain⟨t,rfl⟩:=ru;exact⟨RcAt.int_list _ _ hl' hu0,RcNeAt.int_list _ _ hl' hu0⟩)
    | (cases(show x=.str _ by simpa[IsW]using ha);obtain⟨t,rfl⟩:=ru;exact⟨RcAt.str_list _ _ hl' hu0,RcNeAt.str_list _ _ hl' hu0⟩)
   | _=>exact sv A _ _ x y u v rfl rfl ha hb ru rv
end
open PySem.SeqAt (EqAt RcAt)
section
variable {X : Cx} {φ : Phi} {pins : List (Addr × Obj)} {σ : St} {H : Hp} {s : Shared}
theorem Eo (hu:X.A.units+8<cLine):OpR X (compareOp .Eq) (rOp X.K (cpD .eq)):=by
 intro pins s σ H x y v u Q I rx ry ⟨ι,a,b,μ,hS,ha,hb,h⟩
 unfold cpD at h
 simp only at h
 split at h
 ·rename_i hp
  exact(G7 I 8 X.A a b x y v u hu hp.1 hp.2 (IsW.ofD (IsD.pur hp.1 ha)) (IsW.ofD (IsD.pur hp.2 hb)) rx ry).1 _ _ _ _ ⟨.bl (deq a b),H,I,rfl,h.ok hS (by simp[IsD])⟩
 ·exact h.elim
end
open PySem.SeqAt (EqAt RcNeAt)
section
variable {X : Cx} {φ : Phi} {pins : List (Addr × Obj)} {σ : St} {H : Hp} {s : Shared}
theorem Ep (hu:X.A.units+8<cLine):OpR X (compareOp .NotEq) (rOp X.K (cpD .ne)):=by
 intro pins s σ H x y v u Q I rx ry ⟨ι,a,b,μ,hS,ha,hb,h⟩
 unfold cpD at h
 simp only at h
 split at h
 ·rename_i hp
  exact(G7 I 8 X.A a b x y v u hu hp.1 hp.2 (IsW.ofD (IsD.pur hp.1 ha)) (IsW.ofD (IsD.pur hp.2 hb)) rx ry).2 _ _ _ _ ⟨.bl (!deq a b),H,I,rfl,h.ok hS (by simp[IsD])⟩
 ·exact h.elim
end
end Lp
namespace LT
open PySem PySem.Spec PyProof.Rows HT
open PySem.SeqAt
open PySem.AutoSeq1 (wpAny_loadPart')
open PySem.MeetsSeq PySem.MeetsSeq2 PySem.MeetsSeq3
theorem Ln (A:Around) (s:Shared) (a:Int) (t:Tok) (c:Int) (u:Tok) (prog:Program) (w:World) (E:Value->Shared->Prop) (Q:Value->Shared->Prop) (h:Q (.bool (decide (a<=c))) s) :
  wpAny (model prog w) A (richCompare .LtE (.int a t) (.int c u)) Q E s :=
 (PyProof.Rows.le_int h:wpAny (model prog w) A (compareOp .LtE (.int a t) (.int c u)) Q E s)
theorem xr (l b:Addr) (items items2:Array Value) (n n2:Nat) (dd dd2:Option Addr) (sl sl2:Array (Option Value)) (ns ms:List Int) (ii:IntsAre items.toList ns) (jj:IntsAre items2.toList ms) :
  Meets (Builtin.«tuple.__le__» ⟨[.ref l,.ref b],[]⟩) (λ_ R s=>s.heap.get? l=some {cls:=.type "tuple",dict:=dd,data:=.seq items n,slots:=sl}/\s.heap.get? b=some {cls:=.type "tuple",dict:=dd2,data:=.seq items2 n2,slots:=sl2}/\R (.ok (.ret (.bool (!lexLt ms ns)))) s) :=
 .of_wp λprog w A R s h=>by
  obtain⟨hh0,g,d,tk0,os0⟩:=s;obtain⟨ql,hb,h⟩:=h
  have sub0:=DE
  have n1:ns.length=items.size:=by rw[<-ii.length,BX]
  have n2e:ms.length=items2.size:=by rw[<-jj.length,BX]
  wp_walk using BO ql,BO hb,EW _ (λrest b s'=>b.1=none/\s'=⟨hh0,g,d,tk0,os0⟩/\∃(us1 us2:List Value) (ms1 ms2:List Int),rest=us1.zip us2 /\
   IntsAre us1 ms1/\IntsAre us2 ms2/\ms1.length+items2.size=ms2.length+items.size/\R (.ok (.ret (.bool (!lexLt ms2 ms1)))) ⟨hh0,g,d,tk0,os0⟩) _
  case turn =>
   rintro⟨y,x⟩ rest b s' ⟨p0,rfl,us1,us2,ms1,ms2,pz,pv,pw,pl,fin0⟩
   cases pv with
   | nil=>rw[EM]at pz;cases pz
   | cons a t pv1 =>
    cases pw with
    | nil=>rw[ED]at pz;cases pz
    | cons c u pw1 =>
     rw[CJ]at pz
     injection pz with pyx pr
     injection pyx with py px
     subst py px
     rw[cu]at fin0
     simp![AV]at pl
     obtain⟨same,eq0,eqi⟩:=jy A.in1 ⟨hh0,g,d,tk0,os0⟩ a t c u
     refine AB (eq0 prog w _ _ ?_)
     cases same with
     | true =>
      rw[if_pos (eqi.mp rfl).symm]at fin0
      wp_walk
      exact⟨rfl,rfl,_,_,_,_,pr,pv1,pw1,by lia,fin0⟩
     | false =>
      have hne:¬c=a:=λq=>absurd (eqi.mpr q.symm) AR
      rw[if_neg hne]at fin0
      have ed:(!decide (c<a))=decide (a<=c):=by
       by_cases hc:c<a
       ·rw[decide_eq_true hc,decide_eq_false (by lia)];rfl
       ·rw[decide_eq_false hc,decide_eq_true (by lia)];rfl
      rw[ed]at fin0
      have low:=Ln A.in1 ⟨hh0,g,d,tk0,os0⟩ a t c u prog w
      wp_walk using low
      exact⟨_,rfl,by simpa using fin0⟩
  case fin =>
   rintro⟨c1,c2⟩ s' ⟨p0,rfl,us1,us2,ms1,ms2,pz,pv,pw,pl,fin0⟩
   simp only at p0
   subst p0
   have hv:(!lexLt ms2 ms1)=decide (items.size<=items2.size):=by
    cases pv with
    | nil =>
     cases pw with
     | nil =>
      simp![BP]at pl
      rw[dq,decide_eq_true (by lia)];rfl
     | cons c u hw =>
      simp![BP,AV]at pl
      rw[dh,decide_eq_true (by lia)];rfl
    | cons a t hv =>
     cases pw with
     | nil =>
      simp![BP,AV]at pl
      rw[dg,decide_eq_false (by lia)];rfl
     | cons c u hw =>
      rw[CJ]at pz
      cases pz
   rw[hv]at fin0
   wp_walk
   exact⟨_,rfl,by simpa[Builtin.Tuple.tupleCompareSizes]using fin0⟩
  case h =>
   exact⟨rfl,rfl,items.toList,items2.toList,ns,ms,rfl,ii,jj,by lia,h⟩
theorem Er {prog:Program} {w:World} {A:Around} {E:Value->Shared->Prop} {s:Shared} {l b:Addr} {items items2:Array Value} {ns ms:List Int} {Q:Value->Shared->Prop} (hl:IsTup s.heap l items) (hb:IsTup s.heap b items2) (hi:IntsAre items.toList ns) (hj:IntsAre items2.toList ms)
  (hu:A.units<cLine) (h:Q (.bool (!lexLt ms ns)) s):wpAny (model prog w) A (compareOp .LtE (.ref l) (.ref b)) Q E s:=by
 obtain⟨⟨_,dd,_,sl⟩,ho,rfl,n,rfl⟩:=id hl
 obtain⟨⟨_,dd2,_,sl2⟩,ho2,rfl,n2,rfl⟩:=id hb
 exact DK (op:=.LtE) ⟨_,ho,rfl⟩ ⟨_,ho2,rfl⟩ PySem.F.slot_tuple_le PySem.F.entry_tuple_le (PySem.F.args_tuple_le_2 _ _) (xr l b items items2 n n2 dd dd2 sl sl2 ns ms hi hj)
  ⟨ho,ho2,show Value.bool (!lexLt ms ns)≠Value.notImplemented/\Q (.bool (!lexLt ms ns)) s from⟨(λx=>nomatch x),h⟩⟩ hu
theorem Lo (A:Around) (s:Shared) (a:Int) (t:Tok) (c:Int) (u:Tok) (prog:Program) (w:World) (E:Value->Shared->Prop) (Q:Value->Shared->Prop) (h:Q (.bool (decide (c<=a))) s) :
  wpAny (model prog w) A (richCompare .GtE (.int a t) (.int c u)) Q E s :=
 (PyProof.Rows.ge_int h:wpAny (model prog w) A (compareOp .GtE (.int a t) (.int c u)) Q E s)
theorem xu (l b:Addr) (items items2:Array Value) (n n2:Nat) (dd dd2:Option Addr) (sl sl2:Array (Option Value)) (ns ms:List Int) (ii:IntsAre items.toList ns) (jj:IntsAre items2.toList ms) :
  Meets (Builtin.«tuple.__ge__» ⟨[.ref l,.ref b],[]⟩) (λ_ R s=>s.heap.get? l=some {cls:=.type "tuple",dict:=dd,data:=.seq items n,slots:=sl}/\s.heap.get? b=some {cls:=.type "tuple",dict:=dd2,data:=.seq items2 n2,slots:=sl2}/\R (.ok (.ret (.bool (!lexLt ns ms)))) s) :=
 .of_wp λprog w A R s h=>by
  obtain⟨hh0,g,d,tk0,os0⟩:=s;obtain⟨ql,hb,h⟩:=h
  have sub0:=DE
  have n1:ns.length=items.size:=by rw[<-ii.length,BX]
  have n2e:ms.length=items2.size:=by rw[<-jj.length,BX]
  wp_walk using BO ql,BO hb,EW _ (λrest b s'=>b.1=none/\s'=⟨hh0,g,d,tk0,os0⟩/\∃(us1 us2:List Value) (ms1 ms2:List Int),rest=us1.zip us2 /\
   IntsAre us1 ms1/\IntsAre us2 ms2/\ms1.length+items2.size=ms2.length+items.size/\R (.ok (.ret (.bool (!lexLt ms1 ms2)))) ⟨hh0,g,d,tk0,os0⟩) _
  case turn =>
   rintro⟨y,x⟩ rest b s' ⟨p0,rfl,us1,us2,ms1,ms2,pz,pv,pw,pl,fin0⟩
   cases pv with
   | nil=>rw[EM]at pz;cases pz
   | cons a t pv1 =>
    cases pw with
    | nil=>rw[ED]at pz;cases pz
    | cons c u pw1 =>
     rw[CJ]at pz
     injection pz with pyx pr
     injection pyx with py px
     subst py px
     rw[cu]at fin0
     simp![AV]at pl
     obtain⟨same,eq0,eqi⟩:=jy A.in1 ⟨hh0,g,d,tk0,os0⟩ a t c u
     refine AB (eq0 prog w _ _ ?_)
     cases same with
     | true =>
      rw[if_pos (eqi.mp rfl)]at fin0
      wp_walk
      exact⟨rfl,rfl,_,_,_,_,pr,pv1,pw1,by lia,fin0⟩
     | false =>
      have hne:¬a=c:=λq=>absurd (eqi.mpr q) AR
      rw[if_neg hne]at fin0
      have ed:(!decide (a<c))=decide (c<=a):=by
       by_cases hc:a<c
       ·rw[decide_eq_true hc,decide_eq_false (by lia)];rfl
       ·rw[decide_eq_false hc,decide_eq_true (by lia)];rfl
      rw[ed]at fin0
      have low:=Lo A.in1 ⟨hh0,g,d,tk0,os0⟩ a t c u prog w
      wp_walk using low
      exact⟨_,rfl,by simpa using fin0⟩
  case fin =>
   rintro⟨c1,c2⟩ s' ⟨p0,rfl,us1,us2,ms1,ms2,pz,pv,pw,pl,fin0⟩
   simp only at p0
   subst p0
   have hv:(!lexLt ms1 ms2)=decide (items2.size<=items.size):=by
    cases pv with
    | nil =>
     cases pw with
     | nil =>
      simp![BP]at pl
      rw[dq,decide_eq_true (by lia)];rfl
     | cons c u hw =>
      simp![BP,AV]at pl
      rw[dg,decide_eq_false (by lia)];rfl
    | cons a t hv =>
     cases pw with
     | nil =>
      simp![BP,AV]at pl
      rw[dh,decide_eq_true (by lia)];rfl
     | cons c u hw =>
      rw[CJ]at pz
      cases pz
   rw[hv]at fin0
   wp_walk
   exact⟨_,rfl,by simpa[Builtin.Tuple.tupleCompareSizes]using fin0⟩
  case h =>
   exact⟨rfl,rfl,items.toList,items2.toList,ns,ms,rfl,ii,jj,by lia,h⟩
theorem Es {prog:Program} {w:World} {A:Around} {E:Value->Shared->Prop} {s:Shared} {l b:Addr} {items items2:Array Value} {ns ms:List Int} {Q:Value->Shared->Prop} (hl:IsTup s.heap l items) (hb:IsTup s.heap b items2) (hi:IntsAre items.toList ns) (hj:IntsAre items2.toList ms)
  (hu:A.units<cLine) (h:Q (.bool (!lexLt ns ms)) s):wpAny (model prog w) A (compareOp .GtE (.ref l) (.ref b)) Q E s:=by
 obtain⟨⟨_,dd,_,sl⟩,ho,rfl,n,rfl⟩:=id hl
 obtain⟨⟨_,dd2,_,sl2⟩,ho2,rfl,n2,rfl⟩:=id hb
 exact DK (op:=.GtE) ⟨_,ho,rfl⟩ ⟨_,ho2,rfl⟩ PySem.F.slot_tuple_ge PySem.F.entry_tuple_ge (PySem.F.args_tuple_ge_2 _ _) (xu l b items items2 n n2 dd dd2 sl sl2 ns ms hi hj)
  ⟨ho,ho2,show Value.bool (!lexLt ns ms)≠Value.notImplemented/\Q (.bool (!lexLt ns ms)) s from⟨(λx=>nomatch x),h⟩⟩ hu
end LT
namespace L2
open PySem PySem.Spec PyProof.Rows
variable {X : Cx}
theorem Et (hu:X.A.units<cLine) {pins s σ H x y v u Q} (I:Inv X pins σ H s) (rx:RelV x v) (ry:RelV y u) (h:∃a b ns ms,x=.ref a/\y=.ref b/\SqT X.K H a (ns.map V.int)/\SqT X.K H b (ms.map V.int)/\Q (.bl (!HT.lexLt ms ns)) H) :
  wpAny (model X.prog X.w) X.A (compareOp .LtE v u) (EP X pins σ Q) X.xe s:=by
 obtain⟨c,d,ns,ms,rfl,rfl,hc,hd,q⟩:=h
 cases rx
 cases ry
 obtain⟨us,r1,p1,_⟩:=I.tuple hc
 obtain⟨us2,r2,p2,_⟩:=I.tuple hd
 exact LT.Er p1 p2 (intsAre_of r1) (intsAre_of r2) hu ⟨.bl (!HT.lexLt ms ns),H,I,rfl,q⟩
theorem Eu (hu:X.A.units<cLine) {pins s σ H x y v u Q} (I:Inv X pins σ H s) (rx:RelV x v) (ry:RelV y u) (h:∃a b ns ms,x=.ref a/\y=.ref b/\SqT X.K H a (ns.map V.int)/\SqT X.K H b (ms.map V.int)/\Q (.bl (!HT.lexLt ns ms)) H) :
  wpAny (model X.prog X.w) X.A (compareOp .GtE v u) (EP X pins σ Q) X.xe s:=by
 obtain⟨c,d,ns,ms,rfl,rfl,hc,hd,q⟩:=h
 cases rx
 cases ry
 obtain⟨us,r1,p1,_⟩:=I.tuple hc
 obtain⟨us2,r2,p2,_⟩:=I.tuple hd
 exact LT.Es p1 p2 (intsAre_of r1) (intsAre_of r2) hu ⟨.bl (!HT.lexLt ns ms),H,I,rfl,q⟩
end L2
namespace Lp
open PySem PySem.Spec PyProof.Rows L2
open PySem.SeqAt (EqAt RcAt)
def opOf:Cp->CmpOp
 | .eq=>.Eq
 | .ne=>.NotEq
 | .eqM=>.Eq
 | .neM=>.NotEq
 | .lt=>.Lt
 | .le=>.LtE
 | .gt=>.Gt
 | .ge=>.GtE
 | .is=>.Is
 | .isnot=>.IsNot
 | .in_=>.In
 | .notin=>.NotIn
section
variable {X : Cx} {φ : Phi} {pins : List (Addr × Obj)} {σ : St} {H : Hp} {s : Shared}
theorem ints_of {K:PySem.W.Frag} {ι:List Addr}:∀{ds:List D} {xs:List V} {ns:List Int},af K ι H ds xs->eh ds=some ns->xs=ns.map V.int
 | [],xs,ns,h,e=>by
  simp![eh,AT]at e
  subst e
  simpa[af]using h
 | d::ds,xs,ns,h,e=>by
  simp![af]at h
  obtain⟨v,r,rfl,q,t⟩:=h
  cases d with
  | int i =>
   simp![eh,FK]at e
   obtain⟨ms,e1,rfl⟩:=e
   cases bq q
   rw[ints_of t e1]
   rfl
  | _=>simp[eh]at e
theorem oq {K:PySem.W.Frag} {ι:List Addr}:∀{ds:List D} {xs:List V} {ns:List Bool},af K ι H ds xs->gj ds=some ns->xs=ns.map V.bl
 | [],xs,ns,h,e=>by
  simp![gj,AT]at e
  subst e
  simpa[af]using h
 | d::ds,xs,ns,h,e=>by
  simp![af]at h
  obtain⟨v,r,rfl,q,t⟩:=h
  cases d with
  | bl i =>
   simp![gj,FK]at e
   obtain⟨ms,e1,rfl⟩:=e
   cases my q
   rw[oq t e1]
   rfl
  | _=>simp[gj]at e
theorem nc {K:PySem.W.Frag} {ι:List Addr} {d:D} {v:V} (h:IsD K ι H d v) (hf:flat d=true):jg v=true:=by
 cases d with
 | tup _=>simp[flat]at hf
 | lst _=>simp[flat]at hf
 | loc _=>simp[flat]at hf
 | _=>have e:=h;simp![IsD]at e;subst e;rfl
theorem j7 {K:PySem.W.Frag} {ι:List Addr}:∀{ds:List D} {xs:List V},af K ι H ds xs->ds.all flat=true->xs.all jg=true
 | [],xs,h,_=>by
  have e:xs=[]:=by simpa[af]using h
  subst e
  rfl
 | d::ds,xs,h,hf=>by
  simp![af]at h
  obtain⟨v,r,rfl,q,t⟩:=h
  simp![BN,AS]at hf ⊢
  exact⟨nc q hf.1,j7 t hf.2⟩
theorem Ew {K:PySem.W.Frag} {ι:List Addr} {d e:D} {v w:V} (hd:IsD K ι H d v) (he:IsD K ι H e w) (fd:flat d=true) (fe:flat e=true):eqV v w=deq d e:=by
 have b2:∀(a b:Int),decide (a=b)=(a==b):=λa b=>(Db a b).symm
 have b3:∀(a b:Str),decide (a=b)=(a==b):=λa b=>(Db a b).symm
 cases d with
 | tup _=>simp[flat]at fd
 | lst _=>simp[flat]at fd
 | loc _=>simp[flat]at fd
 | _ =>
  cases e with
  | tup _=>simp[flat]at fe
  | lst _=>simp[flat]at fe
  | loc _=>simp[flat]at fe
  | _ =>
   simp![IsD]at hd he
   subst hd he
   simp![eqV,deq,b2,b3]
theorem sx {K:PySem.W.Frag} {ι:List Addr} {e:D} {w:V} (he:IsD K ι H e w) (fe:flat e=true):∀{ds:List D} {xs:List V},af K ι H ds xs->ds.all flat=true->inV w xs=ds.any λy=>deq y e
 | [],xs,h,_=>by
  have e:xs=[]:=by simpa[af]using h
  subst e
  rfl
 | d::ds,xs,h,hf=>by
  simp![af]at h
  obtain⟨v,r,rfl,q,t⟩:=h
  simp![BN,AS]at hf
  have ih:=sx he fe t hf.2
  unfold inV at ih ⊢
  rw[BV,BV,Ew q he hf.1 fe,ih]
theorem is_bool {u:Bool} {v:Bool} {Q:VK} (I:Inv X pins σ H s) (q:Q (.bl (u==v)) H):wpAny (model X.prog X.w) X.A (compareOp .Is (.bool u) (.bool v)) (EP X pins σ Q) X.xe s:=by
 cases u<;>cases v<;>exact AJ ⟨.bl _,H,I,rfl,q⟩
theorem isnot_bool {u:Bool} {v:Bool} {Q:VK} (I:Inv X pins σ H s) (q:Q (.bl (!(u==v))) H):wpAny (model X.prog X.w) X.A (compareOp .IsNot (.bool u) (.bool v)) (EP X pins σ Q) X.xe s:=by
 cases u<;>cases v<;>exact AJ ⟨.bl _,H,I,rfl,q⟩
theorem lp {v:Bool} {Q:VK} (I:Inv X pins σ H s) (q:Q (.bl false) H):wpAny (model X.prog X.w) X.A (compareOp .Is .none (.bool v)) (EP X pins σ Q) X.xe s:=by
 cases v<;>exact AJ ⟨.bl _,H,I,rfl,q⟩
theorem iz {v:Bool} {Q:VK} (I:Inv X pins σ H s) (q:Q (.bl true) H):wpAny (model X.prog X.w) X.A (compareOp .IsNot .none (.bool v)) (EP X pins σ Q) X.xe s:=by
 cases v<;>exact AJ ⟨.bl _,H,I,rfl,q⟩
def kD:Key->D
 | .inl i=>.int i
 | .inr x=>.str x
theorem sy {K:PySem.W.Frag} {ι:List Addr} {d:D} {x:V} (hk:yy d=true) (h:IsD K ι H d x):∃k,d=kD k/\x=kV k:=by
 cases d with
 | int i=>exact⟨.inl i,rfl,by simpa[IsD,kV]using h⟩
 | str i=>exact⟨.inr i,rfl,by simpa[IsD,kV]using h⟩
 | _=>simp[yy]at hk
theorem ng {K:PySem.W.Frag} {ι:List Addr} {d:D} {k:Key} (h:IsD K ι H d (kV k)):d=kD k:=by
 cases k with
 | inl i=>cases d<;>simp_all[IsD,kV,kD]
 | inr i=>cases d<;>simp_all[IsD,kV,kD]
theorem lq (a b:Key):deq (kD a) (kD b)=decide (a=b):=by
 cases a<;>cases b<;>simp[kD,deq]
def OR (K:PySem.W.Frag) (H:Hp):Option D->Option V->Prop
 | some d,some v=>IsD K [] H d v
 | none,none=>True
 | _,_=>False
theorem OR.isSome {K:PySem.W.Frag} {o:Option D} {p:Option V} (h:OR K H o p):p.isSome=o.isSome:=by
 cases o<;>cases p<;>first | rfl | exact h.elim
theorem j8 {K:PySem.W.Frag} {k:Key}:∀{kvs:List (D×D)} {xs:List (Key×V)},y4 K H kvs xs->OR K H (w6 (kD k) kvs) (oh xs k)
 | _,_,.nil=>True.intro
 | p::kvs,q::xs,.cons h t=>by
  obtain⟨d,e⟩:=p
  have hk:=ng h.1
  dsimp only at hk
  subst hk
  have ih:=j8 (k:=k) (kvs:=kvs) (xs:=xs) t
  by_cases z:q.1=k
  ·rw[g7 z,w6,lq,if_pos (by simpa using z)]
   exact h.2
  ·rw[g8 z,w6,lq,if_neg (by simpa using z)]
   exact ih
theorem td {K:PySem.W.Frag} {k:Key}:∀{kvs:List (D×D)} {xs:List (Key×V)},y4 K H kvs xs->(kvs.any λp=>deq p.1 (kD k))=xs.any λkv=>decide (kv.1=k)
 | _,_,.nil=>rfl
 | p::kvs,q::xs,.cons h t=>by
  obtain⟨d,e⟩:=p
  have hk:=ng h.1
  dsimp only at hk
  subst hk
  rw[BV,BV,td t,lq]
theorem ot {K:PySem.W.Frag} {k:Key} {d:D} {v:V} (hv:IsD K [] H d v):∀{kvs:List (D×D)} {xs:List (Key×V)},y4 K H kvs xs ->
  y4 K H (kvs.map λp=>if deq p.1 (kD k)=true then(p.1,d)else p) (xs.map λkv=>if kv.1=k then(kv.1,v)else kv)
 | _,_,.nil=>.nil
 | p::kvs,q::xs,.cons h t=>by
  obtain⟨e,w⟩:=p
  have hk:=ng h.1
  dsimp only at hk
  subst hk
  rw[AQ,AQ]
  refine .cons ?_ (ot hv t)
  by_cases z:q.1=k
  ·rw[if_pos z,lq,if_pos (by simpa using z)]
   exact⟨h.1,hv⟩
  ·rw[if_neg z,lq,if_neg (by simpa using z)]
   exact h
theorem i0 {α β:Type} {F:α->β->Prop}:∀{xs:List α} {ys:List β} {x:α} {y:β},Paired F xs ys->F x y->Paired F (xs++[x]) (ys++[y])
 | _,_,_,_,.nil,h=>.cons h .nil
 | _,_,_,_,.cons a t,h=>.cons a (i0 t h)
theorem xw {K:PySem.W.Frag} {k:Key} {d:D} {v:V} (hv:IsD K [] H d v) {kvs:List (D×D)} {xs:List (Key×V)} (h:y4 K H kvs xs):y4 K H (dput (kD k) d kvs) (putK xs k v):=by
 unfold dput putK
 rw[td h]
 split
 ·exact ot hv h
 ·refine i0 h ⟨?_,hv⟩
  cases k<;>simp[kD,kV,IsD]
theorem tf {K:PySem.W.Frag} {ι:List Addr} {μ:Sto} {o k:D} {x y:V} {kvs:List (D×D)} (hS:Sim K ι H μ) (ho:IsD K ι H o x) (hk:IsD K ι H k y) (h:dictAt μ o k=some kvs) :
  ∃p q xs,x=.ref p/\y=kV q/\k=kD q/\H p=some (.dK xs)/\y4 K H kvs xs:=by
 cases o with
 | loc n =>
  simp![dictAt]at h
  split at h
  ·rename_i kvs' em
   split at h
   ·rename_i hkey
    cases h
    obtain⟨p,rfl,hp⟩:∃p,x=.ref p/\ι[n]? = some p:=by simpa[IsD]using ho
    obtain⟨a',q',ob⟩:=hS.at em
    rw[hp]at q';cases q'
    obtain⟨xs,e1,e2⟩:=ob
    obtain⟨q,rfl,rfl⟩:=sy hkey hk
    exact⟨p,q,xs,rfl,rfl,rfl,e1,e2⟩
   ·cases h
  ·cases h
 | _=>simp[dictAt]at h
theorem tj (cp:Cp) (hu:X.A.units+8<cLine):OpR X (compareOp (opOf cp)) (rOp X.K (cpD cp)):=by
 have hu0:X.A.units<cLine:=by lia
 cases cp with
 | eq=>exact Eo hu
 | ne=>exact Ep hu
 | eqM =>
  intro pins s σ H x y v u Q I rx ry ⟨ι,a,b,μ,hS,ha,hb,h⟩
  simp![cpD]at h
  cases e1:au μ 8 a with
  | none=>simp![e1]at h;exact h.elim
  | some a1 =>
   cases e2:au μ 8 b with
   | none=>simp![e1,e2]at h;exact h.elim
   | some b1 =>
    simp![e1,e2]at h
    exact(G7 I 8 X.A a1 b1 x y v u hu (dk 8 _ _ e1) (dk 8 _ _ e2) (ll hS 8 _ _ _ e1 ha) (ll hS 8 _ _ _ e2 hb) rx ry).1 _ _ _ _ ⟨.bl (deq a1 b1),H,I,rfl,h.ok hS (by simp[IsD])⟩
 | neM =>
  intro pins s σ H x y v u Q I rx ry ⟨ι,a,b,μ,hS,ha,hb,h⟩
  simp![cpD]at h
  cases e1:au μ 8 a with
  | none=>simp![e1]at h;exact h.elim
  | some a1 =>
   cases e2:au μ 8 b with
   | none=>simp![e1,e2]at h;exact h.elim
   | some b1 =>
    simp![e1,e2]at h
    exact(G7 I 8 X.A a1 b1 x y v u hu (dk 8 _ _ e1) (dk 8 _ _ e2) (ll hS 8 _ _ _ e1 ha) (ll hS 8 _ _ _ e2 hb) rx ry).2 _ _ _ _ ⟨.bl (!deq a1 b1),H,I,rfl,h.ok hS (by simp[IsD])⟩
 | lt =>
  intro pins s σ H x y v u Q I rx ry ⟨ι,a,b,μ,hS,ha,hb,h⟩
  simp![cpD]at h
  split at h
  ·cases bq ha;cases bq hb
   exact Hl pins s σ H _ _ v u Q I rx ry ⟨_,_,rfl,rfl,h.ok hS (by simp[IsD])⟩
  ·obtain⟨p,xs,rfl,hq,hds⟩:=cz ha
   obtain⟨p',xs',rfl,hq',hds'⟩:=cz hb
   split at h
   ·rename_i ns ms e1 e2
    have:=ints_of hds e1
    subst this
    have:=ints_of hds' e2
    subst this
    refine Dt hu0 pins s σ H _ _ v u Q I rx ry ⟨p,p',ns,ms,rfl,rfl,hq,hq',?_⟩
    have el:∀(a b:List Int),HT.lexLt a b=Lp.lexLt a b:=by
     intro a
     induction a with
     | nil=>intro b;cases b<;>rfl
     | cons x r ih=>intro b;cases b with
      | nil=>rfl
      | cons y q=>rw[HT.cu,Lp.lexLt,ih]
    rw[el]
    exact h.ok hS (by simp[IsD])
   ·exact h.elim
  ·exact h.elim
 | le =>
  intro pins s σ H x y v u Q I rx ry ⟨ι,a,b,μ,hS,ha,hb,h⟩
  simp![cpD]at h
  split at h
  ·cases bq ha;cases bq hb
   exact Hm pins s σ H _ _ v u Q I rx ry ⟨_,_,rfl,rfl,h.ok hS (by simp[IsD])⟩
  ·obtain⟨p,xs,rfl,hq,hds⟩:=cz ha
   obtain⟨p',xs',rfl,hq',hds'⟩:=cz hb
   split at h
   ·rename_i ns ms e1 e2
    have:=ints_of hds e1
    subst this
    have:=ints_of hds' e2
    subst this
    refine Et hu0 I rx ry ⟨p,p',ns,ms,rfl,rfl,hq,hq',?_⟩
    have el:∀(a b:List Int),HT.lexLt a b=Lp.lexLt a b:=by
     intro a
     induction a with
     | nil=>intro b;cases b<;>rfl
     | cons x r ih=>intro b;cases b with
      | nil=>rfl
      | cons y q=>rw[HT.cu,Lp.lexLt,ih]
    rw[el]
    exact h.ok hS (by simp[IsD])
   ·exact h.elim
  ·exact h.elim
 | gt =>
  refine OpR.imp Hn λx y H Q ⟨ι,a,b,μ,hS,ha,hb,h⟩=>?_
  simp![cpD]at h
  split at h
  ·cases bq ha;cases bq hb
   exact⟨_,_,rfl,rfl,h.ok hS (by simp[IsD])⟩
  ·exact h.elim
 | ge =>
  intro pins s σ H x y v u Q I rx ry ⟨ι,a,b,μ,hS,ha,hb,h⟩
  simp![cpD]at h
  split at h
  ·cases bq ha;cases bq hb
   exact Ho pins s σ H _ _ v u Q I rx ry ⟨_,_,rfl,rfl,h.ok hS (by simp[IsD])⟩
  ·obtain⟨p,xs,rfl,hq,hds⟩:=cz ha
   obtain⟨p',xs',rfl,hq',hds'⟩:=cz hb
   split at h
   ·rename_i ns ms e1 e2
    have:=ints_of hds e1
    subst this
    have:=ints_of hds' e2
    subst this
    refine Eu hu0 I rx ry ⟨p,p',ns,ms,rfl,rfl,hq,hq',?_⟩
    have el:∀(a b:List Int),HT.lexLt a b=Lp.lexLt a b:=by
     intro a
     induction a with
     | nil=>intro b;cases b<;>rfl
     | cons x r ih=>intro b;cases b with
      | nil=>rfl
      | cons y q=>rw[HT.cu,Lp.lexLt,ih]
    rw[el]
    exact h.ok hS (by simp[IsD])
   ·exact h.elim
  ·exact h.elim
 | is =>
  intro pins s σ H x y v u Q I rx ry ⟨ι,a,b,μ,hS,ha,hb,h⟩
  simp![cpD]at h
  split at h
  ·refine Dk pins s σ H x y v u Q I rx ry ⟨by simpa[IsD]using hb,?_⟩
   cases a with
   | tup ds=>obtain⟨p,xs,rfl,_⟩:=cz ha;exact h.ok hS (by simp[IsD])
   | lst ds =>
         obtain⟨p,xs,rfl,_⟩:∃p xs,x=V.ref p/\FzL X.K H p xs/\af X.K ι H ds xs:=by simpa[IsD]using ha
         exact h.ok hS (by simp[IsD])
   | loc n =>
        obtain⟨p,rfl,_⟩:∃p,x=V.ref p/\ι[n]? = some p:=by simpa[IsD]using ha
        exact h.ok hS (by simp[IsD])
   | _=>have e:=ha;simp![IsD]at e;subst e;exact h.ok hS (by simp[IsD])
  ·cases my hb
   cases(show u=Value.bool _ from ry)
   split at h
   ·cases my ha
    cases(show v=Value.bool _ from rx)
    exact is_bool I (h.ok hS (by simp[IsD]))
   ·cases(show x=.non by simpa[IsD]using ha)
    cases(show v=Value.none from rx)
    exact lp I (h.ok hS (by simp[IsD]))
   ·exact h.elim
  ·exact h.elim
 | isnot =>
  intro pins s σ H x y v u Q I rx ry ⟨ι,a,b,μ,hS,ha,hb,h⟩
  simp![cpD]at h
  split at h
  ·refine A3 pins s σ H x y v u Q I rx ry ⟨by simpa[IsD]using hb,?_⟩
   cases a with
   | tup ds=>obtain⟨p,xs,rfl,_⟩:=cz ha;exact h.ok hS (by simp[IsD])
   | lst ds =>
         obtain⟨p,xs,rfl,_⟩:∃p xs,x=V.ref p/\FzL X.K H p xs/\af X.K ι H ds xs:=by simpa[IsD]using ha
         exact h.ok hS (by simp[IsD])
   | loc n =>
        obtain⟨p,rfl,_⟩:∃p,x=V.ref p/\ι[n]? = some p:=by simpa[IsD]using ha
        exact h.ok hS (by simp[IsD])
   | _=>have e:=ha;simp![IsD]at e;subst e;exact h.ok hS (by simp[IsD])
  ·cases my hb
   cases(show u=Value.bool _ from ry)
   split at h
   ·cases my ha
    cases(show v=Value.bool _ from rx)
    exact isnot_bool I (h.ok hS (by simp[IsD]))
   ·cases(show x=.non by simpa[IsD]using ha)
    cases(show v=Value.none from rx)
    exact iz I (h.ok hS (by simp[IsD]))
   ·exact h.elim
  ·exact h.elim
 | in_ =>
  intro pins s σ H x y v u Q I rx ry ⟨ι,a,b,μ,hS,ha,hb,h⟩
  simp![cpD]at h
  split at h
  ·rename_i ds e
   obtain⟨p,xs,rfl,hq,hds⟩:=jo hS hb e
   split at h
   ·rename_i hf
    refine rz pins s σ H _ _ v u Q I rx ry ⟨p,xs,rfl,hq.imp (·.sq) id,nc ha hf.1,j7 hds hf.2,?_⟩
    simp![CK,if_false]
    rw[sx ha hf.1 hds hf.2]
    exact h.ok hS (by simp[IsD])
   ·exact h.elim
  ·split at h
   ·rename_i kvs e
    obtain⟨p,q,xs,rfl,rfl,rfl,hp,hk⟩:=tf hS hb ha e
    cases(show u=Value.ref p from ry)
    refine Lb (by lia) I (Cs.k hp) rx λs' I'=>⟨.bl (oh xs q).isSome,H,I',rfl,?_⟩
    rw[(j8 hk).isSome]
    exact h.ok hS (by simp[IsD])
   ·exact h.elim
 | notin =>
  intro pins s σ H x y v u Q I rx ry ⟨ι,a,b,μ,hS,ha,hb,h⟩
  simp![cpD]at h
  split at h
  ·rename_i ds e
   obtain⟨p,xs,rfl,hq,hds⟩:=jo hS hb e
   split at h
   ·rename_i hf
    refine k7 pins s σ H _ _ v u Q I rx ry ⟨p,xs,rfl,hq.imp (·.sq) id,nc ha hf.1,j7 hds hf.2,?_⟩
    simp![if_true]
    rw[sx ha hf.1 hds hf.2]
    exact h.ok hS (by simp[IsD])
   ·exact h.elim
  ·split at h
   ·rename_i kvs e
    obtain⟨p,q,xs,rfl,rfl,rfl,hp,hk⟩:=tf hS hb ha e
    cases(show u=Value.ref p from ry)
    refine Be (by lia) I (Cs.k hp) rx λs' I'=>⟨.bl (!(oh xs q).isSome),H,I',rfl,?_⟩
    rw[(j8 hk).isSome]
    exact h.ok hS (by simp[IsD])
   ·exact h.elim
end
open PySem.SeqAt (EqAt RcAt)
section
variable {X : Cx} {φ : Phi} {pins : List (Addr × Obj)} {σ : St} {H : Hp} {s : Shared}
def PCh (X:Cx) (ops:List CmpOp) (es:List Expr) (t:V->TE):Prop :=
 ∀(pos:Pos) (pins:List (Addr×Obj)) (s:Shared) (σ:St) (H:Hp) (Q:VK) (x:V) (v:Value),Inv X pins σ H s->RelV x v->t x σ H Q ->
  wpAny (model X.prog X.w) X.A (compareChain pos v ops (evalEach es X.env)) (EP X pins σ Q) X.xe s
def PTh (X:Cx) (ops:List CmpOp) (es:List Expr) (t:V->TT):Prop :=
 ∀(pos:Pos) (pins:List (Addr×Obj)) (s:Shared) (σ:St) (H:Hp) (Q:Bool->Hp->Prop) (x:V) (v:Value),Inv X pins σ H s->RelV x v->t x σ H Q ->
  wpAny (model X.prog X.w) X.A (testChain pos v ops (evalEach es X.env)) (TP X pins σ Q) X.xe s
def tCh (K:PySem.W.Frag) (φ:Phi) (r:Cps):V->TE:=λx σv H Q=>∃ι σ μ d,Sim K ι H μ/\fm K ι H σ σv/\IsD K ι H d x/\cv K (RD K) ι H (evC φ r d σ μ) Q
def tTh (K:PySem.W.Frag) (φ:Phi) (r:Cps):V->TT:=λx σv H Q=>∃ι σ μ d,Sim K ι H μ/\fm K ι H σ σv/\IsD K ι H d x/\cv K RB ι H ((evC φ r d σ μ).bind λz μ=>J9 z μ) Q
theorem tm {op:Cp} {xe:Ex} {d:D} {σ:Sl} {μ:Sto}:evC φ (.cons op xe .nil) d σ μ=(evE φ xe σ μ).bind λy μ=>cpD op d y μ:=by
 simp![evC]
 cases evE φ xe σ μ with
 | ok y μ1 =>
  simp![Res.bp]
  cases cpD op d y μ1<;>rfl
 | exc _ _ _=>rfl
 | stuck=>rfl
theorem x5 {op op':Cp} {xe xe':Ex} {r:Cps} {d:D} {σ:Sl} {μ:Sto}:evC φ (.cons op xe (.cons op' xe' r)) d σ μ=(evE φ xe σ μ).bind λy μ=>(cpD op d y μ).bind λz μ=>match z with
  | .bl b=>if b=true then evC φ (.cons op' xe' r) y σ μ else .ok (.bl false) μ
  | _=>.stuck:=by
 rw[evC]
 all_goals rfl
theorem Bx {op:Cp} {e:Expr} {xe:Ex} (ho:OpR X (compareOp (opOf op)) (rOp X.K (cpD op))) (he:PE X e (tE X.K φ xe)):PCh X [opOf op] [e] (tCh X.K φ (.cons op xe .nil)):=by
 intro pos pins s σv H Q x v I rx ⟨ι,σ,μ,d,hS,hL,hd,h⟩
 rw[tm]at h
 obtain⟨y,μ1,e1,h⟩:=h.bind
 refine chain_last (thn (he pins s σv H (λw H1=>rOp X.K (cpD op) x w H1 Q) I ⟨ι,σ,μ,hS,hL,?_⟩) λu s1 ⟨w,H1,I1,r1,q1⟩=>ho pins s1 σv H1 x w v u Q I1 rx r1 q1)
 rw[e1]
 exact λι1 w H1 p1 x1 s1 d1=>⟨ι1,d,y,μ1,s1,IsD.mono p1 x1 _ _ hd,d1,h.mono p1 x1⟩
theorem By {op op':Cp} {e e':Expr} {es:List Expr} {ops:List CmpOp} {xe xe':Ex} {r:Cps} (ho:OpR X (compareOp (opOf op)) (rOp X.K (cpD op))) (he:PE X e (tE X.K φ xe)) (hr:PCh X (opOf op'::ops) (e'::es) (tCh X.K φ (.cons op' xe' r))) :
  PCh X (opOf op::opOf op'::ops) (e::e'::es) (tCh X.K φ (.cons op xe (.cons op' xe' r))):=by
 intro pos pins s σv H Q x v I rx ⟨ι,σ,μ,d,hS,hL,hd,h⟩
 rw[x5]at h
 obtain⟨y,μ1,e1,h⟩:=h.bind
 refine chain_link (thn (he pins s σv H (λw H1=>rOp X.K (cpD op) x w H1 (λz H2=>∃k,z=.bl k/\if k=true then tCh X.K φ (.cons op' xe' r) w σv H2 Q else Q (.bl false) H2)) I ⟨ι,σ,μ,hS,hL,?_⟩) λu s1 ⟨w,H1,I1,r1,q1⟩ =>
  thn (ho pins s1 σv H1 x w v u _ I1 rx r1 q1) λc s2 ⟨z,H2,I2,r2,k,ek,q2⟩=>?_)
 ·rw[e1]
  intro ι1 w H1 p1 x1 s1 d1
  obtain⟨z,μ2,e2,h⟩:=h.bind
  refine⟨ι1,d,y,μ1,s1,IsD.mono p1 x1 _ _ hd,d1,?_⟩
  rw[e2]
  intro ι2 z' H2 p2 x2 s2 d2
  cases z with
  | bl k =>
   refine⟨k,my d2,?_⟩
   cases k with
   | true=>exact⟨ι2,σ,μ2,y,s2,(hL.mono p1 x1).mono p2 x2,IsD.mono p2 x2 _ _ d1,(show cv _ _ _ _ (evC φ (.cons op' xe' r) y σ μ2) _ from h).mono (p1.trans p2) (x1.trans x2)⟩
   | false=>exact h ι2 (.bl false) H2 (p1.trans p2) (x1.trans x2) s2 (by simp[IsD])
  | _=>exact h.elim
 ·subst ek
  cases r2
  refine CM ?_
  cases k with
  | false=>exact ite_ff ⟨.bl false,H2,I2,rfl,q2⟩
  | true=>exact ite_tt (hr pos pins s2 σv H2 Q w u I2 r1 q2)
theorem Bz {op:Cp} {e:Expr} {xe:Ex} (ho:OpR X (compareOp (opOf op)) (rOp X.K (cpD op))) (he:PE X e (tE X.K φ xe)):PTh X [opOf op] [e] (tTh X.K φ (.cons op xe .nil)):=by
 intro pos pins s σv H Q x v I rx ⟨ι,σ,μ,d,hS,hL,hd,h⟩
 rw[tm,Res.bind_assoc]at h
 obtain⟨y,μ1,e1,h⟩:=h.bind
 refine test_last (thn (he pins s σv H (λw H1=>rOp X.K (cpD op) x w H1 (λz H2=>∃k,z=.bl k/\Q k H2)) I ⟨ι,σ,μ,hS,hL,?_⟩) λu s1 ⟨w,H1,I1,r1,q1⟩=>thn (ho pins s1 σv H1 x w v u _ I1 rx r1 q1) λc s2 ⟨z,H2,I2,r2,k,ek,q2⟩=>?_)
 ·rw[e1]
  intro ι1 w H1 p1 x1 s1 d1
  obtain⟨z,μ2,e2,h⟩:=h.bind
  refine⟨ι1,d,y,μ1,s1,IsD.mono p1 x1 _ _ hd,d1,?_⟩
  rw[e2]
  intro ι2 z' H2 p2 x2 s2 d2
  cases z with
  | bl k=>exact⟨k,my d2,h ι2 k H2 (p1.trans p2) (x1.trans x2) s2 rfl⟩
  | _=>exact h.elim
 ·subst ek
  cases r2
  exact CM ⟨H2,I2,q2⟩
theorem Jc {a:Expr} {xa:Ex} {ops:List CmpOp} {es:List Expr} {r:Cps} {pos:Pos} (ha:PE X a (tE X.K φ xa)) (hr:PCh X ops es (tCh X.K φ r)) (hm:lastMarks ops es=false):PE X (.Compare a ops es pos) (tE X.K φ (.cmp xa r)):=by
 intro pins s σv H Q I ⟨ι,σ,μ,hS,hL,h⟩
 simp![evE]at h
 obtain⟨d,μ1,e1,h⟩:=h.bind
 show wpAny _ _ (do compareChain pos (<-eval a X.env) ops (markedEach ops es (evalEach es X.env))) _ _ _
 rw[markedEach_of_false _ _ _ hm]
 refine AB (thn (ha pins s σv H (λx H1=>tCh X.K φ r x σv H1 Q) I ⟨ι,σ,μ,hS,hL,?_⟩) λv s1 ⟨x,H1,I1,r1,q1⟩=>hr pos pins s1 σv H1 Q x v I1 r1 q1)
 rw[e1]
 exact λι1 x H1 p1 x1 s1 d1=>⟨ι1,σ,μ1,d,s1,hL.mono p1 x1,d1,h.mono p1 x1⟩
theorem Ey {a:Expr} {xa:Ex} {ops:List CmpOp} {es:List Expr} {r:Cps} {pos:Pos} (ha:PE X a (tE X.K φ xa)) (hr:PTh X ops es (tTh X.K φ r)) (hm:lastMarks ops es=false):PT X (.Compare a ops es pos) (tT X.K φ (.cmp xa r)):=by
 intro pins s σv H Q I ⟨ι,σ,μ,hS,hL,h⟩
 simp![evE]at h
 rw[Res.bind_assoc]at h
 obtain⟨d,μ1,e1,h⟩:=h.bind
 show wpAny _ _ (do testChain pos (<-eval a X.env) ops (markedEach ops es (evalEach es X.env))) _ _ _
 rw[markedEach_of_false _ _ _ hm]
 refine AB (thn (ha pins s σv H (λx H1=>tTh X.K φ r x σv H1 Q) I ⟨ι,σ,μ,hS,hL,?_⟩) λv s1 ⟨x,H1,I1,r1,q1⟩=>hr pos pins s1 σv H1 Q x v I1 r1 q1)
 rw[e1]
 exact λι1 x H1 p1 x1 s1 d1=>⟨ι1,σ,μ1,d,s1,hL.mono p1 x1,d1,h.mono p1 x1⟩
theorem Ez {l:Expr} {xl:Ex} {tg:Expr} (hl:PE X l (tE X.K φ xl)):PI X tg l (tI X.K φ (.seq xl)):=by
 intro pins s σv H R I ⟨ι,σ,μ,hS,hL,h⟩
 simp![evI]at h
 cases e1:evE φ xl σ μ with
 | exc _ _ _=>rw[e1]at h;exact h.elim
 | stuck=>rw[e1]at h;exact h.elim
 | ok d μ1 =>
 rw[e1]at h
 simp![Res.bp]at h
 have hq:tE X.K φ xl σv H (λv H1=>∃ι1,ι <+: ι1/\Ext H H1/\Sim X.K ι1 H1 μ1/\IsD X.K ι1 H1 d v):=⟨ι,σ,μ,hS,hL,by rw[e1];exact λι1 v H1 p1 x1 s1 d1=>⟨ι1,p1,x1,s1,d1⟩⟩
 refine thn (hl pins s σv H _ I hq) λu s1 ⟨v,H1,I1,r1,ι1,p1,x1,S1,d1⟩=>?_
 -- a list,at a,whatever its items
 have lst:∀(a:Addr) (xs:List V) (ds:List D) (g:Gd),v=.ref a->LsL X.K H1 a xs->af X.K ι1 H1 ds xs->(∀ι2 H2 μ2,ι1 <+: ι2->Ext H1 H2->Sim X.K ι2 H2 μ2->gd g μ2->∃ys,LsL X.K H2 a ys/\af X.K ι2 H2 ds ys) ->
   (∀ι' H' J,ι <+: ι'->Ext H H'->Sim X.K ι' H' μ1->Walk X.K ι' H' J ds g->R J H')->wpAny (model X.prog X.w) X.A (pyIter u) (PIE X pins σv tg R) X.xe s1:=by
  intro a xs ds g ev hls hds stay hR
  subst ev
  cases(show u=Value.ref a from r1)
  obtain⟨its,rv,p,hz⟩:=I1.list hls.sq
  refine wpAny_pyIter_list p.isList ?_
  refine⟨s1.heap.objs.size,[s1.heap.objs.size],_,_,H1,rfl,I1.kept (t':=s1.toks) λb o e=>AE _ e,rf a _,⟨_,AM _ rfl,rfl,rfl⟩,λb hb=>?_,hR ι1 H1 _ p1 x1 S1 ?_⟩
  ·have e:b=s1.heap.objs.size:=by simpa using hb
   subst e
   exact I1.fpOk (AH _) (I1.hok.fresh (AH _))
  ·refine⟨by rw[<-hds.length];exact hz,λi ι2 H2 μ2 q1 q2 q3 q4 hi=>?_,λi ι2 H2 μ2 w H3 q1 q2 q3 q4 hi hy=>?_,λι2 H2 μ2 q1 q2 q3 q4=>?_⟩
   ·obtain⟨ys,y1,y2⟩:=stay ι2 H2 μ2 q1 q2 q3 q4
    obtain⟨w,e,_⟩:=y2.get (AA hi)
    exact⟨ys,w,y1.sq,e⟩
   ·obtain⟨ys,y1,y2⟩:=stay ι2 H2 μ2 q1 q2 q3 q4
    obtain⟨e,hy⟩:=hy
    subst e
    obtain⟨w',e',q'⟩:=y2.get (AA hi)
    have:=hy ys y1.sq
    rw[e']at this;cases this
    exact⟨.refl _,q3,_,AA hi,q'⟩
   ·obtain⟨ys,y1,y2⟩:=stay ι2 H2 μ2 q1 q2 q3 q4
    exact⟨ys,y1.sq,by rw[y2.length];exact AH _⟩
 cases d with
 | tup ds =>
  simp![bf]at h
  obtain⟨a,xs,rfl,hq,hds⟩:=cz d1
  cases(show u=Value.ref a from r1)
  obtain⟨its,rv,p,hz⟩:=I1.tuple hq
  refine CU (show s1.heap.IsTuple a its.toArray from p) ?_
  refine⟨s1.heap.objs.size,[s1.heap.objs.size],_,_,H1,rfl,I1.kept (t':=s1.toks) λb o e=>AE _ e,pg a _,⟨_,AM _ rfl,rfl,rfl⟩,λb hb=>?_,h ι1 H1 _ p1 x1 S1 ?_⟩
  ·have e:b=s1.heap.objs.size:=by simpa using hb
   subst e
   exact I1.fpOk (AH _) (I1.hok.fresh (AH _))
  ·refine⟨by rw[<-hds.length];exact hz,λi ι2 H2 μ2 q1 q2 q3 q4 hi=>?_,λi ι2 H2 μ2 w H3 q1 q2 q3 q4 hi hy=>?_,λι2 H2 μ2 q1 q2 q3 q4=>?_⟩
   ·obtain⟨w,e,_⟩:=hds.get (AA hi)
    exact⟨xs,w,hq.ext q2,e⟩
   ·obtain⟨e,hy⟩:=hy
    subst e
    obtain⟨w',e',q'⟩:=hds.get (AA hi)
    have:=hy xs (hq.ext q2)
    rw[e']at this;cases this
    exact⟨.refl _,q3,_,AA hi,IsD.mono q1 q2 _ _ q'⟩
   ·exact⟨xs,hq.ext q2,by rw[hds.length];exact AH _⟩
 | lst ds =>
  simp![bf]at h
  obtain⟨a,xs,rfl,hq,hds⟩:∃a xs,v=.ref a/\FzL X.K H1 a xs/\af X.K ι1 H1 ds xs:=by simpa[IsD]using d1
  exact lst a xs ds none rfl (.inr hq) hds (λι2 H2 μ2 q1 q2 q3 q4=>⟨xs,.inr (hq.ext q2),af.mono q1 q2 _ _ hds⟩) h
 | loc n =>
  obtain⟨a,rfl,hn⟩:∃a,v=.ref a/\ι1[n]? = some a:=by simpa[IsD]using d1
  have pre:∀{ι2:List Addr},ι1 <+: ι2->ι2[n]? = some a:=λhp=>by
   obtain⟨t,rfl⟩:=hp
   rw[AI (AF.mp hn).1];exact hn
  cases em:μ1[n]? with
  | none=>simp![bf,em]at h
  | some o =>
   simp![bf,em]at h
   cases o with
   | l ds =>
    simp only at h
    obtain⟨a',q',ho⟩:=S1.at em
    rw[hn]at q';cases q'
    obtain⟨xs,f1,f2⟩:=ho
    refine lst a xs ds (some (n,.l ds)) rfl (.inl f1) (af.mono (CA) (.refl _) _ _ f2) (λι2 H2 μ2 q1 q2 q3 q4=>?_) h
    obtain⟨a2,e2,o2⟩:=q3.at (show μ2[n]? = some (.l ds)from q4)
    rw[pre q1]at e2;cases e2
    obtain⟨ys,g1,g2⟩:=o2
    exact⟨ys,.inl g1,af.mono (CA) (.refl _) _ _ g2⟩
   | r ds =>
    simp only at h
    obtain⟨a',q',ho⟩:=S1.at em
    rw[hn]at q';cases q'
    obtain⟨xs,f1,f2⟩:=ho
    refine lst a xs ds (some (n,.r ds)) rfl (.inl f1) f2 (λι2 H2 μ2 q1 q2 q3 q4=>?_) h
    obtain⟨a2,e2,o2⟩:=q3.at (show μ2[n]? = some (.r ds)from q4)
    rw[pre q1]at e2;cases e2
    obtain⟨ys,g1,g2⟩:=o2
    exact⟨ys,.inl g1,g2⟩
   | d kvs=>simp only at h
   | dt kvs=>simp only at h
   | x _=>simp only at h
   | dead=>simp only at h
 | _=>simp![bf]at h
theorem qd {K:PySem.W.Frag} {ι:List Addr} {H:Hp} (lo:Int) (n:Nat) (hn:n<=sizeLine):Walk K ι H (Itr lo n) ((List.range n).map fun(k:Nat)=>D.int (lo+k)) none:=by
 refine⟨by simpa using hn,λi ι2 H2 μ2 q1 q2 q3 q4 hi=>by simpa[Itr]using hi,λi ι2 H2 μ2 w H3 q1 q2 q3 q4 hi hy=>?_,λι2 H2 μ2 q1 q2 q3 q4=>by simp[Itr]⟩
 obtain⟨e,hy⟩:=hy
 subst e
 have hi':i<n:=by simpa using hi
 exact⟨.refl _,q3,.int (lo+i),by simp[hi'],by simp[IsD,hy]⟩
theorem E1 {a:Expr} {xa:Ex} {tg:Expr} {p pos:Pos} (hg:Gl X "range") (hm:X.mg "range"=none) (ha:PE X a (tE X.K φ xa)) (hs:starEach [a] X.env=[(false,eval a X.env)]):PI X tg (.Call (.Name "range" p) [a] [] pos) (tI X.K φ (.rng xa)) :=
 PI.imp (rg hg hm (sh ha Bq hs) hs) λσv H R ⟨ι,σ,μ,hS,hL,h⟩=>by
  simp![evI]at h
  refine⟨ι,σ,μ,hS,hL,?_⟩
  simp![dj]
  cases e1:evE φ xa σ μ with
  | exc _ _ _=>rw[e1]at h;exact h.elim
  | stuck=>rw[e1]at h;exact h.elim
  | ok d μ1 =>
   rw[e1]at h
   simp![Res.bp]at h ⊢
   cases d with
   | int j =>
    simp only at h
    by_cases hj:-(lim:Int)<=j/\j<=lim
    ·rw[if_pos hj]at h
     rw[c6]at hj
     have h24:sizeLine=16777216:=EL
     rw[h24]at hj
     intro ι1 vs H1 p1 x1 s1 d1
     have e:vs=[.int j]:=by
      have q:af X.K ι1 H1 [.int j] vs:=d1
      simp![af]at q
      obtain⟨v,r,rfl,q1,rfl⟩:=q
      cases bq q1
      rfl
     refine⟨j,e,by lia,by lia,h ι1 H1 _ p1 x1 s1 ?_⟩
     have w:=qd (K:=X.K) (ι:=ι1) (H:=H1) 0 j.toNat (by lia)
     simpa using w
    ·rw[if_neg hj]at h
     exact h.elim
   | _=>exact h.elim
def lr (K:PySem.W.Frag) (f:List D->Sto->Res D):List V->Hp->VK->Prop:=λxs H Q=>∃ι ds μ,Sim K ι H μ/\af K ι H ds xs/\cv K (RD K) ι H (f ds μ) Q
theorem y9 {K:PySem.W.Frag} {ι:List Addr} {d:D} {xs:List V} (h:af K ι H [d] xs):∃v,xs=[v]/\IsD K ι H d v:=by
 simp![af]at h
 obtain⟨v,r,rfl,q,rfl⟩:=h
 exact⟨v,rfl,q⟩
theorem za {K:PySem.W.Frag} {ι:List Addr} {d e:D} {xs:List V} (h:af K ι H [d,e] xs):∃v w,xs=[v,w]/\IsD K ι H d v/\IsD K ι H e w:=by
 simp![af]at h
 obtain⟨v,r,rfl,q,w,r2,rfl,q2,rfl⟩:=h
 exact⟨v,w,rfl,q,q2⟩
theorem fv {K:PySem.W.Frag} {ι:List Addr} {ds:List D} {xs:List V} {μ:Sto} {f:D->Sto->Res D} {Q:VK} (hds:af K ι H ds xs) (h:cv K (RD K) ι H (iq f ds μ) Q) :
  ∃d v,xs=[v]/\IsD K ι H d v/\cv K (RD K) ι H (f d μ) Q:=by
 unfold iq at h
 split at h
 ·rename_i d
  obtain⟨v,rfl,hv⟩:=y9 hds
  exact⟨d,v,rfl,hv,h⟩
 ·exact h.elim
theorem nh {K:PySem.W.Frag} {ι:List Addr} {d:D} {v:V} {μ:Sto} {f:List D->Sto->Res D} {Q:VK} (hS:Sim K ι H μ) (hd:IsD K ι H d v) (h:cv K (RD K) ι H (seq1 f d μ) Q) :
  ∃a xs ds,v=.ref a/\(LsL K H a xs\/SqT K H a xs)/\af K ι H ds xs/\cv K (RD K) ι H (f ds μ) Q:=by
 unfold seq1 at h
 split at h
 ·rename_i ds e
  obtain⟨a,xs,rfl,hq,hxs⟩:=jo hS hd e
  exact⟨a,xs,ds,rfl,hq,hxs,h⟩
 ·exact h.elim
theorem B0 {K:PySem.W.Frag} {ι:List Addr} {d:D} {v:V} {μ:Sto} {f:List Int->Sto->Res D} {Q:VK} (hS:Sim K ι H μ) (hd:IsD K ι H d v) (h:cv K (RD K) ι H (Cu f d μ) Q) :
  ∃a ns,v=.ref a/\(LsL K H a (ns.map V.int)\/SqT K H a (ns.map V.int))/\cv K (RD K) ι H (f ns μ) Q:=by
 unfold Cu at h
 cases e:cy μ d with
 | none=>rw[e]at h;exact h.elim
 | some ds =>
  rw[e]at h
  simp![Option.bind_some]at h
  split at h
  ·rename_i ns e2
   obtain⟨a,xs,rfl,hq,hxs⟩:=jo hS hd e
   rw[ints_of hxs e2]at hq
   exact⟨a,ns,rfl,hq,h⟩
  ·exact h.elim
theorem x6 {K:PySem.W.Frag} {ι:List Addr} {d:D} {v:V} {μ:Sto} {f:List Bool->Sto->Res D} {Q:VK} (hS:Sim K ι H μ) (hd:IsD K ι H d v) (h:cv K (RD K) ι H (se f d μ) Q) :
  ∃a ns,v=.ref a/\(LsL K H a (ns.map V.bl)\/SqT K H a (ns.map V.bl))/\cv K (RD K) ι H (f ns μ) Q:=by
 unfold se at h
 cases e:cy μ d with
 | none=>rw[e]at h;exact h.elim
 | some ds =>
  rw[e]at h
  simp![Option.bind_some]at h
  split at h
  ·rename_i ns e2
   obtain⟨a,xs,rfl,hq,hxs⟩:=jo hS hd e
   rw[oq hxs e2]at hq
   exact⟨a,ns,rfl,hq,h⟩
  ·exact h.elim
theorem bt_len {m:Mk}:bx X (.builtin "len") (lr X.K (btD .len m)):=bx.imp k8 λxs H Q ⟨ι,ds,μ,hS,hds,h⟩=>by
 obtain⟨d,v,rfl,hv,h⟩:=fv hds h
 obtain⟨a,xs,es,rfl,hq,hxs,h⟩:=nh hS hv h
 exact⟨a,xs,rfl,hq.imp (·.sq) id,by rw[hxs.length];exact h.ok hS (by simp[IsD])⟩
theorem bt_tuple {m:Mk}:bx X (.type "tuple") (lr X.K (btD .tuple m)):=bx.imp j3 λxs H Q ⟨ι,ds,μ,hS,hds,h⟩=>by
 obtain⟨d,v,rfl,hv,h⟩:=fv hds h
 obtain⟨a,xs,es,rfl,hq,hxs,h⟩:=nh hS hv h
 refine⟨a,xs,rfl,?_⟩
 rcases hq with hq | hq
 ·exact .inl ⟨hq.sq,λl hl=>j5 hS hxs h hl⟩
 ·exact .inr ⟨hq,h.ok hS (tup_is hq hxs)⟩
theorem bt_list {m:Mk}:bx X (.type "list") (lr X.K (btD .list m)):=bx.imp (bx.fq k9) λxs H Q ⟨ι,ds,μ,hS,hds,h⟩=>by
 obtain⟨d,v,rfl,hv,h⟩:=fv hds h
 obtain⟨a,xs,es,rfl,hq,hxs,h⟩:=nh hS hv h
 exact⟨a,xs,rfl,hq.imp (·.sq) id,λl hl=>gs hS hxs h hl⟩
theorem bt_min {m:Mk} (hc:X.calm=true):bx X (.builtin "min") (lr X.K (btD .min m)):=bx.imp (rk hc) λxs H Q ⟨ι,ds,μ,hS,hds,h⟩=>by
 simp![btD,minD]at h
 split at h
 ·rename_i i j
  obtain⟨v,w,rfl,hv,hw⟩:=za hds
  cases bq hv
  cases bq hw
  exact⟨i,j,rfl,h.ok hS (by simp[IsD])⟩
 ·exact h.elim
theorem bt_max {m:Mk} (hc:X.calm=true):bx X (.builtin "max") (lr X.K (btD .max m)):=bx.imp (rj hc) λxs H Q ⟨ι,ds,μ,hS,hds,h⟩=>by
 simp![btD,maxD]at h
 split at h
 ·rename_i i j
  obtain⟨v,w,rfl,hv,hw⟩:=za hds
  cases bq hv
  cases bq hw
  exact⟨i,j,rfl,h.ok hS (by simp[IsD])⟩
 ·exact h.elim
theorem ou {A:Around} {E:Value->Shared->Prop} {a:Addr} {xs:List V} (I:Inv X pins σ H s) (hq:LsL X.K H a xs\/SqT X.K H a xs) (hh:A.handled=none) {Q:Value->Shared->Prop}
  (h:∀(it:Addr) (fp:List Addr) (its:List Value) St s2,ay xs its->Walks X.prog X.w A it fp [it] its.length (λi v=>its[i]? = some v) St->St 0 s2.heap->(∀b∈fp,b<s2.heap.objs.size) ->
   (∀h' tk,(∀b o,b∉[it]->s2.heap.get? b=some o->h'.get? b=some o)->Inv X pins σ H {s2 with heap:=h',toks:=tk})->Q (.ref it) s2) :
  wpAny (model X.prog X.w) A (pyIter (.ref a)) Q E s:=by
 have fin:∀(ob:Obj) (h':Heap) (tk:Nat),(∀b o,b∉[s.heap.objs.size]->(s.heap.push ob).get? b=some o->h'.get? b=some o)->Inv X pins σ H {s with heap:=h',toks:=tk}:=λob h' tk hk =>
  I.kept λb u e=>hk b u (by simp;exact AN (AG e)) (AE _ e)
 rcases hq with hq | hq
 ·obtain⟨z,its,n,hv,hl,hg⟩:=I.ls hq
  have hil:s.heap.IsList a its.toArray:=⟨_,hg,rfl,n,rfl⟩
  refine wpAny_pyIter_list hil ?_
  have hne:a≠s.heap.objs.size:=AN (AG hg)
  have W:=Walks.list (prog:=X.prog) (w:=X.w) (A:=A) hh s.heap.objs.size a hne its.toArray
  simp![AC,FS]at W
  refine h s.heap.objs.size _ its _ _ hv W ⟨⟨_,AM _ rfl,rfl,rfl⟩,hil.at λo e=>AE _ e⟩ (λb hb=>?_) (λh' tk hk=>fin _ h' tk hk)
  simp![AL,BI,or_false]at hb
  rw[EI]
  rcases hb with rfl | rfl
  ·exact FB _
  ·exact EO (AG hg)
 ·obtain⟨its,hv,ht,hz⟩:=I.tuple hq
  have hit:s.heap.IsTuple a its.toArray:=ht
  refine CU hit ?_
  obtain⟨o,ho,_⟩:=id hit
  have hne:a≠s.heap.objs.size:=AN (AG ho)
  have W:=Walks.tuple (prog:=X.prog) (w:=X.w) (A:=A) hh s.heap.objs.size a hne its.toArray
  simp![AC,FS]at W
  refine h s.heap.objs.size _ its _ _ hv W ⟨⟨_,AM _ rfl,rfl,rfl⟩,hit.at λo e=>AE _ e⟩ (λb hb=>?_) (λh' tk hk=>fin _ h' tk hk)
  simp![AL,BI,or_false]at hb
  rw[EI]
  rcases hb with rfl | rfl
  ·exact FB _
  ·exact EO (AG ho)
theorem lu (ns:List Int):∀k,k<=ns.length->preSum (λi=>ns.getD i 0) k=(ns.take k).sum
 | 0,_=>by simp[preSum]
 | k+1,h=>by
  rw[preSum,lu ns k (by lia),List.take_succ,List.sum_append,BD,AA (by lia)]
  simp
theorem bt_sum {m:Mk} (hc:X.calm=true):bx X (.builtin "sum") (lr X.K (btD .sum m)):=by
 intro pins s σ H xs us Q I r ⟨ι,ds,μ,hS,hds,h⟩
 obtain⟨d,v,rfl,hv,h⟩:=fv hds h
 obtain⟨a,ns,rfl,hq,h⟩:=B0 hS hv h
 obtain⟨u,rfl,ru⟩:=vals1 r
 cases(show u=Value.ref a from ru)
 refine call_sum_walkG (ou I hq (show X.A.in1.handled=none from I.ok.hd hc) λit fp its St s2 hvs W st hfp hI=>?_)
 have hl:ns.length=its.length:=by have:=hvs.length;simpa using this
 refine⟨it,fp,[it],its.length,_,St,λi=>ns.getD i 0,rfl,W,st,hfp,λi w e=>?_,λh' tk t' hk=>?_⟩
 ·have hi:i<ns.length:=by rw[hl];exact(AF.mp e).1
  obtain⟨u',e1,⟨t,e2⟩⟩:=hvs.get (i:=i) (x:=.int ns[i]) (by simp[AA hi])
  rw[e]at e1;cases e1
  exact⟨t,by rw[e2];simp[BD,AA hi]⟩
 ·refine⟨.int ns.sum,H,hI h' tk hk,⟨t',?_⟩,h.ok hS (by simp[IsD])⟩
  rw[<-hl,lu ns ns.length (AH _),List.take_length]
theorem any_range (bs:List Bool):(List.range bs.length).any (λi=>bs.getD i false)=bs.any id:=by
 induction bs with
 | nil=>rfl
 | cons b r ih=>rw[AV,FI,BV,List.any_map,BV];exact congrArg _ ih
theorem x8 {A:Around} {bs:List Bool} {its:List Value} (hvs:ay (bs.map V.bl) its):TruthOf X.prog X.w A (λi v=>its[i]? = some v) (λi=>bs.getD i false):=by
 intro i v s Q E e q
 have hl:bs.length=its.length:=by have:=hvs.length;simpa using this
 have hi:i<bs.length:=by rw[hl];exact(AF.mp e).1
 obtain⟨u',e1,e2⟩:=hvs.get (i:=i) (x:=.bl bs[i]) (by simp[AA hi])
 rw[e]at e1;cases e1
 cases(show v=Value.bool bs[i]from e2)
 refine CM ?_
 simpa[BD,AA hi]using q
theorem bt_any {m:Mk} (hc:X.calm=true):bx X (.builtin "any") (lr X.K (btD .any m)):=by
 intro pins s σ H xs us Q I r ⟨ι,ds,μ,hS,hds,h⟩
 obtain⟨d,v,rfl,hv,h⟩:=fv hds h
 obtain⟨a,bs,rfl,hq,h⟩:=x6 hS hv h
 obtain⟨u,rfl,ru⟩:=vals1 r
 cases(show u=Value.ref a from ru)
 refine call_any_walk (ou I hq (show X.A.in1.handled=none from I.ok.hd hc) λit fp its St s2 hvs W st hfp hI=>?_)
 have hl:bs.length=its.length:=by have:=hvs.length;simpa using this
 refine⟨it,fp,[it],its.length,_,St,λi=>bs.getD i false,rfl,W,st,x8 hvs,λh' tk hk=>?_⟩
 refine⟨.bl (bs.any id),H,hI h' tk hk,?_,h.ok hS (by simp[IsD])⟩
 rw[<-hl,any_range]
 rfl
end
theorem nj {prog:Program} {w:World} {A:Around} {E:Value->Shared->Prop} {s:Shared} {t sl:Addr} {items:Array Value} {vl vu:Value} {lo hi:Option Int} {Q:Value->Shared->Prop} (ht:IsTup s.heap t items) (hs:s.heap.IsSliceOf sl vl vu .none) (pl:IsPart vl lo) (pu:IsPart vu hi)
  (hw:HT.sIx items.size 0 lo=0/\HT.sIx items.size items.size hi=items.size) (h:Q (.ref t) s):wpAny (model prog w) A (getItem (.ref t) (.ref sl)) Q E s:=by
 obtain⟨os,hos,hcs,hds⟩:=id hs
 have hTs:s.TypeIs (.ref sl) "slice":=⟨os,hos,hcs⟩
 unfold getItem
 try with_reducible refine DD ?_
 first | refine AB (AJ ?_) | skip
 refine AB (wpAny_sequenceKey ht.typeIs (by decide) ?_)
 refine AB (BS (name:=Str.ofString "__getitem__") ht.typeIs BC
  (CP BC ht.typeIs entry_tuple_getitem ?_ (args_tuple_getitem _ _)))
 show wpAny _ _ (Builtin.Tuple.tupleItemsOf (.ref t)>>=_) _ _ s
 refine AB (tupleItemsOf_ ht ?_)
 refine AB (wpAny_typeOf hTs ?_)
 rw[if_pos (by decide)]
 refine AB (HT.d0 hs pl pu ?_)
 have hyes:(((HT.sIx items.size 0 lo:Nat):Int)==0&&(1:Int)==1&&(HT.sIx items.size items.size hi-HT.sIx items.size 0 lo)==items.size)=true:=by
  rw[hw.1,hw.2];simp
 show wpAny _ _ (if(((HT.sIx items.size 0 lo:Nat):Int)==0&&(1:Int)==1&&(HT.sIx items.size items.size hi-HT.sIx items.size 0 lo)==items.size)=true then _ else _) _ _ s
 rw[if_pos hyes]
 refine AB ?_
 unfold Builtin.Tuple.tupleIsExact
 refine AB (wpAny_typeOf ht.typeIs (AJ ?_))
 rw[if_pos (by decide)]
 exact AB (wpAny_rule (AJ ⟨_,rfl,AJ h⟩))
section
variable {X : Cx} {φ : Phi} {pins : List (Addr × Obj)} {σ : St} {H : Hp} {s : Shared}
theorem Jd {m:Mk}:SlR X (λx lo hi H Q=>∃ι d μ,Sim X.K ι H μ/\IsD X.K ι H d x/\cv X.K (RD X.K) ι H (slD m d lo hi μ) Q):=by
 intro pins s σ H x v vl vu lo hi sl Q I rx hs pl pu ⟨ι,d,μ,hS,hd,h⟩
 unfold slD at h
 split at h
 ·rename_i ds
  obtain⟨a,xs,rfl,hq,hxs⟩:=cz hd
  by_cases hw:HT.sIx xs.length 0 lo=0/\HT.sIx xs.length xs.length hi=xs.length
  ·cases(show v=Value.ref a from rx)
   obtain⟨its,r,ht,hz⟩:=I.tuple hq
   have hlen:its.toArray.size=xs.length:=by rw[AC];exact r.length.symm
   refine⟨"tuple",_,BC.lookup,ht.typeIs,nj ht hs pl pu (by rw[hlen];exact hw) ⟨.ref a,H,I,rfl,h.ok hS ?_⟩⟩
   have e1:∀n d o,Lp.sIx n d o=HT.sIx n d o:=λn d o=>by cases o<;>rfl
   have ec:cut ds lo hi=ds:=by
    unfold cut
    rw[e1,e1,<-hxs.length,hw.1,hw.2]
    simp[hxs.length]
   rw[ec]
   exact hd
  ·exact Ds pins s σ H _ v vl vu lo hi sl Q I rx hs pl pu ⟨a,xs,rfl,hq,hw,λp hp=>j5 hS (y8 hxs lo hi) h hp⟩
 ·split at h
  ·rename_i es
   obtain⟨a,xs,rfl,ha,hxs⟩:=gu hS hd es
   exact SlR.fq Ba pins s σ H _ v vl vu lo hi sl Q I rx hs pl pu ⟨a,xs,rfl,ha.sq,λp hp=>gs hS (y8 hxs lo hi) h hp⟩
  ·exact h.elim
theorem PO.imp {e:Option Expr} {t t':TO} (h:PO X e t) (i:∀σ H Q,t' σ H Q->t σ H Q):PO X e t':=by
 intro pins s σ H Q I q
 exact h pins s σ H Q I (i _ _ _ q)
theorem Lq:PO X none (tEo X.K φ .no):=PO.imp A6 λσv H Q ⟨ι,σ,μ,hS,hL,h⟩=>by
 simp![evO]at h
 exact h.ok hS rfl
theorem Ls {e:Expr} {x:Ex} (he:PE X e (tE X.K φ x)):PO X (some e) (tEo X.K φ (.so x)):=PO.imp (A7 he) λσv H Q ⟨ι,σ,μ,hS,hL,h⟩=>by
 simp![evO]at h
 obtain⟨d,μ1,e1,h⟩:=h.bind
 refine⟨ι,σ,μ,hS,hL,?_⟩
 rw[e1]
 intro ι1 v H1 p1 x1 s1 d1
 cases d with
 | int i=>exact⟨i,bq d1,h ι1 (some i) H1 p1 x1 s1 rfl⟩
 | _=>exact h.elim
theorem Lu {e:Expr} {lo hi:Option Expr} {x:Ex} {xl xh:ExO} {m:Mk} {p2 pos:Pos} (he:PE X e (tE X.K φ x)) (hl:PO X lo (tEo X.K φ xl)) (hh:PO X hi (tEo X.K φ xh)):PE X (.Subscript e (.Slice lo hi none p2) pos) (tE X.K φ (.sl m x xl xh)) :=
 PE.imp (wb Jd he hl hh) λσv H Q ⟨ι,σ,μ,hS,hL,h⟩=>by
  simp![evE]at h
  obtain⟨d,μ1,e1,h⟩:=h.bind
  refine⟨ι,σ,μ,hS,hL,?_⟩
  rw[e1]
  intro ι1 v H1 p1 x1 s1 d1
  obtain⟨l,μ2,e2,h⟩:=h.bind
  refine⟨ι1,σ,μ1,s1,hL.mono p1 x1,?_⟩
  rw[e2]
  intro ι2 l' H2 p2 x2 s2 d2
  cases d2
  obtain⟨u,μ3,e3,h⟩:=h.bind
  refine⟨ι2,σ,μ2,s2,(hL.mono p1 x1).mono p2 x2,?_⟩
  rw[e3]
  intro ι3 u' H3 p3 x3 s3 d3
  cases d3
  exact⟨ι3,d,μ3,s3,IsD.mono p3 x3 _ _ (IsD.mono p2 x2 _ _ d1),h.mono ((p1.trans p2).trans p3) ((x1.trans x2).trans x3)⟩
theorem zb {K:PySem.W.Frag} {ι:List Addr} {μ:Sto} {n:Nat} {v:V} {ob:O} {xs:List D} (hS:Sim K ι H μ) (hd:IsD K ι H (.loc n) v) (e:μ[n]? = some ob) (hi:d5 ob=some xs) :
  ∃a vs,v=.ref a/\ι[n]? = some a/\H a=some (.lst vs)/\af K ι H xs vs/\(∀ds,ob=.l ds->af K [] H xs vs):=by
 obtain⟨a,rfl,ha⟩:∃a,v=.ref a/\ι[n]? = some a:=by simpa[IsD]using hd
 obtain⟨a',ea,ho⟩:=hS.at e
 rw[ha]at ea;cases ea
 cases ob with
 | l ds =>
  cases hi
  obtain⟨vs,e1,e2⟩:=ho
  exact⟨a,vs,rfl,ha,e1,af.mono (CA) (.refl _) _ _ e2,λ_ _=>e2⟩
 | r ds =>
  cases hi
  obtain⟨vs,e1,e2⟩:=ho
  exact⟨a,vs,rfl,ha,e1,e2,λ_ z=>by cases z⟩
 | d _=>cases hi
 | dt _=>cases hi
 | x _=>cases hi
 | dead=>cases hi
theorem gk {K:PySem.W.Frag} {ι:List Addr} {μ:Sto} {n:Nat} {ob:O} {ys:List D} {vs ws:List V} {d:D} {v:V} {a:Addr} {Q:VK} (hS:Sim K ι H μ) (ha:ι[n]? = some a) (hH:H a=some (.lst vs))
  (hw:af K ι H ys ws) (hw0:∀ds,ob=.l ds->af K [] H ys ws) (hd:IsD K ι H d v) (h:cv K (RD K) ι H (putL n ob ys d μ) Q):Q v (upd H a (.lst ws)):=by
 cases ob with
 | l ds =>
  exact h ι v _ (AD _) (.lst hH) (hS.put ha (.lst hH) ⟨ws,av,af.mono (AD _) (.lst hH) _ _ (hw0 ds rfl)⟩) (IsD.mono (AD _) (.lst hH) _ _ hd)
 | r ds =>
  exact h ι v _ (AD _) (.lst hH) (hS.put ha (.lst hH) ⟨ws,av,af.mono (AD _) (.lst hH) _ _ hw⟩) (IsD.mono (AD _) (.lst hH) _ _ hd)
 | d _=>exact h.elim
 | dt _=>exact h.elim
 | x _=>exact h.elim
 | dead=>exact h.elim
theorem lx {K:PySem.W.Frag} {ι:List Addr} {ob:O} {d:D} {v:V} (hf:fits ob d=true) (hd:IsD K ι H d v):∀ds,ob=.l ds->IsD K [] H d v:=λds e=>by
 subst e
 exact IsD.pur hf hd
def rMt (K:PySem.W.Frag) (mt:Mt):V->List V->Hp->VK->Prop:=λx vs H Q=>∃ι d ds μ,Sim K ι H μ/\IsD K ι H d x/\af K ι H ds vs/\cv K (RD K) ι H (mtD mt d ds μ) Q
theorem B1 {mt:Mt} (hne:mt≠.count/\mt≠.countL/\mt≠.get) {x:V} {vs:List V} {Q:VK} (h:rMt X.K mt x vs H Q):∃ι n ob xs ds μ a ws,Sim X.K ι H μ/\af X.K ι H ds vs/\x=.ref a/\ι[n]? = some a/\H a=some (.lst ws)/\af X.K ι H xs ws /\
  (∀es,ob=.l es->af X.K [] H xs ws)/\cv X.K (RD X.K) ι H (mtL mt n ob xs ds μ) Q:=by
 obtain⟨ι,d,ds,μ,hS,hd,hds,h⟩:=h
 have e0:mtD mt d ds μ=p9 mt d ds μ:=by
  cases mt<;>first | exact absurd rfl hne.1 | exact absurd rfl hne.2.1 | exact absurd rfl hne.2.2 | rfl
 rw[e0]at h
 cases d with
 | loc n =>
  simp![p9]at h
  cases em:μ[n]? with
  | none=>rw[em]at h;exact h.elim
  | some ob =>
   rw[em]at h
   simp only at h
   cases ei:d5 ob with
   | none=>rw[ei]at h;exact h.elim
   | some xs =>
    rw[ei]at h
    obtain⟨a,ws,ex,ha,hH,h1,h2⟩:=zb hS hd em ei
    exact⟨ι,n,ob,xs,ds,μ,a,ws,hS,hds,ex,ha,hH,h1,h2,h⟩
 | _=>exact h.elim
theorem x9:MtR X "list.append" (rMt X.K .append):=MtR.imp r0 λx vs H Q h0=>by
 obtain⟨ι,n,ob,xs,ds,μ,a,ws,hS,hds,rfl,ha,hH,h1,h2,h⟩:=B1 (by decide) h0
 clear h0
 simp![mtL]at h
 obtain⟨d,v,rfl,hv,h⟩:=fv hds h
 split at h
 ·rename_i hf
  rw[c6]at hf
  refine⟨a,ws,v,rfl,rfl,hH,by rw[h1.length];exact hf.2,gk hS ha hH (h1.append (.one hv)) (λes e=>(h2 es e).append (.one (lx hf.1 hv es e))) (by simp[IsD]) h⟩
 ·exact h.elim
theorem Je:MtR X "list.pop" (rMt X.K .pop):=by
 intro pins s σ H x vs v us Q I rx rv h0
 obtain⟨ι,n,ob,xs,ds,μ,a,ws,hS,hds,rfl,ha,hH,h1,h2,h⟩:=B1 (by decide) h0
 clear h0
 simp![mtL]at h
 split at h
 ·have e:vs=[]:=by simpa[af]using hds
  subst e
  split at h
  ·rename_i d ed
   have hl:xs[xs.length-1]? = some d:=by rw[<-List.getLast?_eq_getElem?];exact ed
   obtain⟨w,ew,hw⟩:=h1.get hl
   refine D1 pins s σ H _ _ v us Q I rx rv ⟨a,ws,w,rfl,rfl,hH,by rw[h1.length];exact ew,gk hS ha hH h1.dropLast (λes e=>(h2 es e).dropLast) hw h⟩
  ·exact h.elim
 ·rename_i i
  obtain⟨w0,rfl,hw0⟩:=y9 hds
  cases bq hw0
  split at h
  ·rename_i hi
   rw[c6]at hi
   have h24:sizeLine=16777216:=EL
   rw[h24]at hi
   split at h
   ·rename_i d ed
    obtain⟨w,ew,hw⟩:=h1.get ed
    have hlt:i.toNat<xs.length:=(AF.mp ed).1
    refine wc pins s σ H _ _ v us Q I rx rv ⟨a,ws,i,i.toNat,w,rfl,rfl,hH,by lia,by lia,?_,ew,gk hS ha hH (h1.eraseIdx _) (λes e=>(h2 es e).eraseIdx _) hw h⟩
    rw[h1.length]
    exact PySem.StrLaws.seqIndex_nonneg hi.1 (by lia)
   ·exact h.elim
  ·exact h.elim
 ·exact h.elim
theorem ya:MtR X "list.extend" (rMt X.K .extend):=by
 intro pins s σ H x vs v us Q I rx rv h0
 obtain⟨ι,n,ob,xs,ds,μ,a,ws,hS,hds,rfl,ha,hH,h1,h2,h⟩:=B1 (by decide) h0
 clear h0
 simp![mtL]at h
 obtain⟨d,w0,rfl,hv,h⟩:=fv hds h
 split at h
 ·rename_i ys ey
  split at h
  ·rename_i hf
   rw[c6]at hf
   obtain⟨b,zs,rfl,hb,hzs⟩:=gu hS hv ey
   cases(show v=Value.ref a from rx)
   obtain⟨u,rfl,ru⟩:=rv.one
   cases(show u=Value.ref b from ru)
   obtain⟨z,its,n1,r,hl,e⟩:=I.lstM hH
   obtain⟨z2,its2,n2,r2,hl2,e2⟩:=I.ls hb
   have l1:=h1.length
   have l2:=hzs.length
   have hsz:its.toArray.size+its2.toArray.size<=sizeLine:=by rw[AC,AC];lia
   have hlong:¬(!its.toArray.isEmpty&&Builtin.List.listTooLong (its.toArray.size+its2.toArray.size))=true:=by
    rw[og hsz,Bool.and_false]
    exact AR
   refine EE F.slot_list_extend ⟨_,e,rfl⟩ F.entry_list_extend (F.args_list_extend_2 _ _)
    (AutoSeq1.list_extend_list_list_0 a its.toArray n1 b its2.toArray n2 hlong (by rw[AC];lia) (by lia)) ⟨e,e2,?_⟩
   refine⟨.non,_,I.lset (its':=its++its2) hH e (by simp) (r.append r2) ?_,rfl,gk hS ha hH (h1.append hzs) (λes ee=>(h2 es ee).append ?_) (by simp[IsD]) h⟩
   ·rw[BH]
    lia
   ·subst ee
    exact af.pur (by simpa[fits]using hf.1) hzs
  ·exact h.elim
 ·exact h.elim
end
theorem IsD.belowN {K:PySem.W.Frag} {ι ι':List Addr} {H:Hp} (hp:ι <+: ι'):∀(k:Nat) (d:D) (v:V),D.belowN ι.length k d=true->IsD K ι' H d v->IsD K ι H d v:=by
 have list:∀(k:Nat),(∀(d:D) (v:V),D.belowN ι.length k d=true->IsD K ι' H d v->IsD K ι H d v) ->
   ∀(ds:List D) (xs:List V),ds.all (D.belowN ι.length k)=true->af K ι' H ds xs->af K ι H ds xs:=by
  intro k ih ds
  induction ds with
  | nil=>intro xs _ h;simpa[af]using h
  | cons d ds ihd =>
   intro xs hp h
   simp![af]at h ⊢
   simp![BN,AS]at hp
   obtain⟨v,r,e,q,t⟩:=h
   exact⟨v,r,e,ih d v hp.1 q,ihd r hp.2 t⟩
 have loc:∀(n:Nat) (v:V),n<ι.length->IsD K ι' H (.loc n) v->IsD K ι H (.loc n) v:=λn v hn h=>by
  simp![IsD]at h ⊢
  obtain⟨a,e,q⟩:=h
  obtain⟨t,rfl⟩:=hp
  rw[AI hn]at q
  exact⟨a,e,q⟩
 intro k
 induction k with
 | zero =>
  intro d v hb h
  cases d with
  | loc n=>exact loc n v (by simpa[D.belowN]using hb) h
  | tup ds=>simp[D.belowN]at hb
  | lst ds=>simp[D.belowN]at hb
  | _=>simpa[IsD]using h
 | succ k ih =>
  intro d v hb h
  cases d with
  | tup ds =>
   simp![D.belowN]at hb
   simp![IsD]at h ⊢
   obtain⟨a,xs,e,q,r⟩:=h
   exact⟨a,xs,e,q,list k ih ds xs hb r⟩
  | lst ds =>
   simp![D.belowN]at hb
   simp![IsD]at h ⊢
   obtain⟨a,xs,e,q,r⟩:=h
   exact⟨a,xs,e,q,list k ih ds xs hb r⟩
  | loc n=>exact loc n v (by simpa[D.belowN]using hb) h
  | _=>simpa[IsD]using h
theorem af.belowN {K:PySem.W.Frag} {ι ι':List Addr} {H:Hp} (hp:ι <+: ι') {k:Nat}:∀(ds:List D) (xs:List V),ds.all (D.belowN ι.length k)=true->af K ι' H ds xs->af K ι H ds xs
 | [],xs,_,h=>by simpa[af]using h
 | d::ds,xs,hb,h=>by
  simp![af]at h ⊢
  simp![BN,AS]at hb
  obtain⟨v,r,e,q,t⟩:=h
  exact⟨v,r,e,IsD.belowN hp k d v hb.1 q,af.belowN hp ds r hb.2 t⟩
theorem Sim.cut {K:PySem.W.Frag} {ι ι':List Addr} {H:Hp} {μ:Sto} (h:Sim K ι' H μ) (hp:ι <+: ι') (hc:(μ.take ι.length).all (dr ι.length)=true):Sim K ι H (μ.take ι.length):=by
 have hl:ι.length<=μ.length:=by rw[<-h.len];exact hp.length_le
 refine⟨by rw[DR];lia,hp.sublist.nodup h.nd,λn a o e1 e2=>?_⟩
 have hn:n<ι.length:=(AF.mp e1).1
 have e1':ι'[n]? = some a:=by
  obtain⟨t,rfl⟩:=hp
  rw[AI hn];exact e1
 have e2':μ[n]? = some o:=by
  rw[EU hn]at e2;exact e2
 have q:=h.obj n a o e1' e2'
 have c:dr ι.length o=true:=AW.mp hc o (DT e2)
 cases o with
 | l ds=>exact q
 | r ds =>
  obtain⟨xs,e,r⟩:=q
  exact⟨xs,e,af.belowN hp ds xs c r⟩
 | d kvs=>exact q
 | dt kvs=>exact q
 | x c=>exact q
 | dead=>exact q
theorem tq {K:PySem.W.Frag} {ι:List Addr} {H:Hp} {μ:Sto} {keep:Bool} {r:Res D} {Q:VK} (hS:Sim K ι H μ) (h:cv K (RD K) ι H (iu keep μ.length r) Q):cv K (RD K) ι H r Q:=by
 cases r with
 | exc c ds μ'=>exact h
 | stuck=>exact h
 | ok d μ' =>
  cases keep with
  | true=>simpa[iu]using h
  | false =>
   simp![iu,CK,if_false]at h
   split at h
   ·rename_i hc
    rw[<-hS.len]at hc h
    exact λι' v H' p e s q=>h ι v H' (AD _) e (s.cut p hc.2) (IsD.belowN p 8 d v hc.1 q)
   ·exact h.elim
def spD (K:PySem.W.Frag) (φ:Phi) (f:Nat):Sp:=λvs H Q _=>∃ι ds μ,Sim K ι H μ/\af K ι H ds vs/\cv K (RD K) ι H (φ f ds μ) Q
def Callee (P:Program) (w:World) (K:PySem.W.Frag) (mg:Str->Option Value) (base:Heap) (A:Around) (φ:Phi) (f:Nat) (x:Str):Prop :=
 ∃(k:Nat) (fa:Addr) (fd:FuncData) (ps:List Str),FnOk P w K mg base CX0 k fa fd ps (spD K φ f)/\Room k A/\mg x=some (.ref fa)/\PySem.W.keepIn K (.ref fa)=true/\Binds K fd ps []
section
variable {X : Cx} {φ : Phi} {x : Str} {p pos : Pos} {e : Expr} {es : List Expr} {xs : Exs} {f : Nat} {keep : Bool}
theorem s_call (C:Callee X.prog X.w X.K X.mg X.base X.A φ f x) (hg:Gl X x) (ha:PA X (e::es) (tEs X.K φ xs)) (hdb:(x==("__debug__":Str))=false)
  (he:starEach (e::es) X.env=(false,eval e X.env)::starEach es X.env) (hpl:(backTo pos (starEach es X.env)).any (·.1)=false):PE X (.Call (.Name x p) (e::es) [] pos) (tE X.K φ (.call keep f xs)):=by
 obtain⟨k,fa,fd,ps,F,hr,hm,hk,hb⟩:=C
 refine PE.imp (A4 F hr hg hm hk hb .nil Hy ha hdb he hpl) λσv H Q ⟨ι,σ,μ,hS,hL,h⟩=>?_
 simp![evE]at h
 obtain⟨ds,μ1,e1,h⟩:=h.bind
 refine⟨ι,σ,μ,hS,hL,?_⟩
 rw[e1]
 intro ι1 vs H1 p1 x1 s1 d1
 exact⟨ι1,ds,μ1,s1,by rw[BY];exact d1,tq s1 (h.mono p1 x1)⟩
end
theorem B2 {P:Program} {w:World} {K:PySem.W.Frag} {mg:Str->Option Value} {base:Heap} {x qual:Str} {st:Stmt} {fa:Addr} {fd:FuncData} {N ps:List Str} {n f:Nat} {T:List Df} {df:Df} (F:Fun K x qual st fa fd) (S:FnScope N ps (ag st))
  (hd:T[f]? = some df) (hnp:df.np=ps.length) (hnn:df.nn=N.length)
  (hb:∀(cdv:Value) (A:Around) (outer:List Env) (s:Shared) (H:Hp) (E:XK),Room n (A.deeper (envOfC qual (ag st) s.heap.objs.size fa cdv)) ->
   PSs (mj CX0 P w K mg base N qual (ag st) fa cdv A outer s H E).nox (cj st) (tSs K (ao T n) df.body)):FnOk P w K mg base CX0 (n+1) fa fd ps (spD K (ao T (n+1)) f):=by
 have len:∀{vs:List V} {H:Hp} {ds:List D} {ι:List Addr} {μ:Sto} {Q:VK},af K ι H ds vs->cv K (RD K) ι H (ao T (n+1) f ds μ) Q->ds.length=df.np:=λ{vs H ds ι μ Q} hds h=>by
  simp![ao,hd,y3]at h
  split at h
  ·assumption
  ·exact h.elim
 refine F.ok S (λvs H Q E ⟨ι,ds,μ,hS,hds,h⟩=>?_) λcdv A outer s H vs Q E hr ⟨ι,ds,μ,hS,hds,h⟩=>⟨_,hb cdv A outer s H E hr,?_⟩
 ·rw[hds.length,len hds h,hnp]
 ·have hl:=len hds h
  refine⟨ι,ds.map some++List.replicate (df.nn-df.np) none,μ,hS,λi d e=>?_,?_,?_⟩
  ·by_cases hi:i<ds.length
   ·rw[AI (by simpa using hi),AY]at e
    cases ed:ds[i]? with
    | none=>rw[ed]at e;cases e
    | some d' =>
     rw[ed]at e
     simp![DY,AT]at e
     subst e
     obtain⟨v,ev,hv⟩:=hds.get ed
     refine⟨v,?_,hv⟩
     unfold L2.start
     rw[AI (by rw[AZ,hds.length];exact hi),AY,ev]
     rfl
   ·rw[BL (by simpa using hi),BR]at e
    split at e<;>cases e
  ·unfold L2.start
   simp![BH,AZ,DO,hds.length]
   lia
  ·simp![ao,hd,y3,if_pos hl]at h
   cases er:du (ao T n) df.body (ds.map some++List.replicate (df.nn-df.np) none) μ with
   | exc c es μ'=>rw[er]at h;exact h.elim
   | stuck=>rw[er]at h;exact h.elim
   | ok fl μ' =>
    rw[er]at h
    simp![Res.bp]at h
    cases fl with
    | nx σ'=>exact λι' σv H' p e s' l z=>h ι' .non H' p e s' (by simp[IsD])
    | rt d=>exact λι' v H' p e s' q=>h ι' v H' p e s' q
    | bk σ'=>exact h.elim
    | ct σ'=>exact h.elim
theorem B3 {P:Program} {w:World} {K:PySem.W.Frag} {mg:Str->Option Value} {base:Heap} {fa:Addr} {fd:FuncData} {ps:List Str} {f:Nat} {T:List Df}:FnOk P w K mg base CX0 0 fa fd ps (spD K (ao T 0) f) :=
 ⟨λvs H Q E ⟨ι,ds,μ,hS,hds,h⟩=>h.elim,λA outer s H args us vs Q E hr he hb hv ⟨ι,ds,μ,hS,hds,h⟩=>h.elim⟩
structure Ent where
 id:Nat
 name:Str
 st:Stmt
 N:List Str
 ps:List Str
 df:Df
structure ModOf (K:PySem.W.Frag) (mg:Str->Option Value) (e:Ent):Prop where
 ex:∃(fa:Addr) (fd:FuncData),mg e.name=some (.ref fa)/\Fun K e.name e.name e.st fa fd/\∀us:List Value,us.length=e.ps.length->bindArgs fd ⟨us,[]⟩=pure (e.ps.zip us)
theorem eo {K:PySem.W.Frag} {h:Heap} {mg:Str->Option Value} {e:Ent} {f:Addr} {oc:Value} {od an:Option Addr} {sl:Array (Option Value)} {kV dc pm cd ct:Value} (X:K.In h) (G:h.Ns mainGlobals mg) (a:PySem.W.nsIn K mainGlobals e.name=some (some (.ref f)))
  (l:K.lookup f=some ⟨oc,od,.func (PySem.W.fnOf e.name e.name (ik e.st) (cj e.st) (ag e.st) .none kV dc pm an cd ct),sl⟩) (c:PySem.W.codeIn K cd e.name=true) (k:PySem.W.keepIn K (.ref f)=true)
  (hb:∀(kV doc pm:Value) (an:Option Addr) (cdv ct:Value) (us:List Value),us.length=e.ps.length->bindArgs (PySem.W.fnOf e.name e.name (ik e.st) (cj e.st) (ag e.st) .none kV doc pm an cdv ct) ⟨us,[]⟩=pure (e.ps.zip us)):ModOf K mg e :=
 ⟨f,_,Da X G a,D4 l c k,hb kV dc pm an cd ct⟩
def yb (K:PySem.W.Frag):Sp:=λvs H Q _=>∃(a:Addr) (ns:List Int),vs=[.ref a]/\FzL K H a (ns.map V.int)/\ns.length<=63/\∀H',Q (.bl true) H'
theorem yc {l:PySem.W.OpenLaw} {n:Nat} {q:Program} {loose:List Str} {XP:(Str->Option Value)->Heap->Prop} {YP:World->Heap->Prop} {d:DefRec} {K:Params->PySem.W.Frag} (hr:Room n callerA) (hn:l.most=some 63) (hdf:d.params.defaults=[])
  (hY:∀(w:World) (h:Heap),YP w h->(K w.params).In h)
  (F:∀(w:World) (mg:Str->Option Value) (fa:Addr) (h:Heap),(K w.params).In h->h.Ns mainGlobals mg->mg d.name=some (.ref fa) ->
   ∃fd:FuncData,(∀(s:Shared) (u:Value),BindsTo s fd ⟨[u],[]⟩ [("script",u)])/\∀base:Heap,(K w.params).In base->base.Ns mainGlobals mg->FnOk l.prog w (K w.params) mg base CX0 n fa fd ["script"] (yb (K w.params))) :
  PySem.W.WalkO q loose XP YP l.row.toRowW d [] (λf vs=>PySem.call f vs) :=
 L2.Bf (n:=63) (k:=n) (x:="script") (CX:=λ_=>CX0) (sp:=λw=>yb (K w.params)) hn (by decide) hdf hr hY F (λ_ _ a ns hl _ hS=>⟨a,ns,rfl,hS,hl,λ_=>rfl⟩) λ_ _ _ _ _ z=>z
def Exs.len:Exs->Nat
 | .nil=>0
 | .cons _ r=>r.len+1
theorem h7 {φ:Phi}:∀{xs:Exs} {σ:Sl} {μ:Sto} {ds:List D} {μ':Sto},dj φ xs σ μ=.ok ds μ'->ds.length=xs.len
 | .nil,σ,μ,ds,μ',h=>by
  simp![dj]at h
  cases h;rfl
 | .cons e r,σ,μ,ds,μ',h=>by
  simp![dj]at h
  cases e1:evE φ e σ μ with
  | exc _ _ _=>rw[e1]at h;cases h
  | stuck=>rw[e1]at h;cases h
  | ok d μ1 =>
   rw[e1]at h
   simp![Res.bp]at h
   cases e2:dj φ r σ μ1 with
   | exc _ _ _=>rw[e2]at h;cases h
   | stuck=>rw[e2]at h;cases h
   | ok es μ2 =>
    rw[e2]at h
    cases h
    simp[Exs.len,h7 e2]
def tu (sc scope:Scope) (N Nb:List Str) (cap:List Nat) (nl:Nat):Bool :=
 decide (scope.kind=.function)&&scope.names.all (λy=>decide (y.2≠.cell)&&decide (scope.names.lookup y.1=some y.2)
  && (!decide (y.2=.free) || decide (sc.names.lookup y.1=some .cell) || decide (sc.names.lookup y.1=some .free)))
 && decide Nb.Nodup&&decide (Nb.length=cap.length+nl)
 && (List.range cap.length).all (λj=>match cap[j]?,Nb[j]? with
  | some i,some x=>decide (N[i]? = some x)&&scope.names.any λy=>decide (y.1=x)&&decide (y.2=.free)
  | _,_=>false)
theorem lookup_mem {l:List (Str×NameKind)} {n:Str} {k:NameKind} (h:l.lookup n=some k):(n,k)∈l:=by
 induction l with
 | nil=>cases h
 | cons a r ih =>
  obtain⟨m,j⟩:=a
  rw[CQ]at h
  cases hb:n==m with
  | true =>
   rw[hb]at h
   cases h
   have:n=m:=by simpa using hb
   subst this
   exact BF
  | false =>
   rw[hb]at h
   exact AO _ (ih h)
theorem i7 {scope:Scope} {env:Env} {n:Str} {k:NameKind} (h:(n,k)∈(relabel scope env).names):(n,k)∈scope.names\/(k=.cell/\(n,NameKind.free)∈scope.names):=by
 have h2:(n,k)∈scope.names.map (fun(n,k)=>if(k==NameKind.free&&env.scope.kind==.function&&env.kindOf n==some .cell)then(n,NameKind.cell)else(n,k)):=h
 obtain⟨⟨m,j⟩,hm,e⟩:=FL.mp h2
 dsimp only at e
 split at e
 ·rename_i hc
  cases e
  simp![AS,beq_iff_eq]at hc
  obtain⟨⟨rfl,_⟩,_⟩:=hc
  exact .inr ⟨rfl,hm⟩
 ·cases e
  exact .inl hm
theorem qe {sc scope:Scope} {N Nb:List Str} {cap:List Nat} {nl:Nat} (h:tu sc scope N Nb cap nl=true):CompScope sc scope N Nb cap nl:=by
 simp![tu,AS,AW,decide_eq_true_eq,Bool.or_eq_true,Bool.not_eq_true',decide_eq_false_iff_not]at h
 obtain⟨⟨⟨⟨h1,h2⟩,h3⟩,h4⟩,h5⟩:=h
 refine⟨h1,λy hy=>(h2 y hy).1.1,λy hy=>(h2 y hy).1.2,λn hn=>?_,λn hn=>?_,h3,h4,λj i e=>?_⟩
 ·rcases(h2 (n,.free) hn).2 with(z | z) | z
  ·exact absurd rfl z
  ·exact .inl z
  ·exact .inr z
 ·rcases hn with hn | hn
  ·rcases i7 (lookup_mem hn)with z | z
   ·exact absurd rfl (h2 _ z).1.1
   ·exact z.2
  ·rcases i7 (lookup_mem hn)with z | z
   ·exact z
   ·exact z.2
 ·have hj:j<cap.length:=(AF.mp e).1
  have q:=h5 j (List.mem_range.mpr hj)
  rw[e]at q
  cases ex:Nb[j]? with
  | none=>rw[ex]at q;simp at q
  | some x =>
   rw[ex]at q
   simp![AS,decide_eq_true_eq,List.any_eq_true]at q
   obtain⟨q1,⟨y,k⟩,hy,e1,e2⟩:=q
   dsimp only at e1 e2
   subst e1;subst e2
   exact⟨y,rfl,q1,hy⟩
def ndB (l:List Str):Bool:=decide l.Nodup
theorem ow {l:List Str} (h:ndB l=true):l.Nodup:=of_decide_eq_true h
section
variable {X : Cx} {φ : Phi} {a b c e : Expr} {es : List Expr} {xa xb xc xe : Ex} {xs : Exs} {pos : Pos}
theorem aa (i:Nat) {x:Str} (hN:X.N[i]? = some x:=by rfl) (hv:Vis X.env.scope x:=by first | exact Or.inl rfl | exact Or.inr (Or.inl rfl) | exact Or.inr (Or.inr rfl)) (hd:(x==("__debug__":Str))=false:=by decide)
  (hcd:(x==("__classdict__":Str))=false:=by decide):PE X (.Name x pos) (tE X.K φ (.var i)):=Ii hN hv hd hcd
theorem E2 (i:Nat) {x:Str} (hN:X.N[i]? = some x:=by rfl) (hv:Vis X.env.scope x:=by first | exact Or.inl rfl | exact Or.inr (Or.inl rfl) | exact Or.inr (Or.inr rfl)) (hd:(x==("__debug__":Str))=false:=by decide)
  (hcd:(x==("__classdict__":Str))=false:=by decide):PE X (.Name x pos) (tE X.K φ (.frz i)):=Ja hN hv hd hcd
theorem ah {i:Int} {j:Nat}:PE X (.Constant (.int i) j pos) (tE X.K φ (.cst (.int i))):=Ij
theorem G8 {i:Bool} {j:Nat}:PE X (.Constant (.bool i) j pos) (tE X.K φ (.cst (.bl i))):=Lk
theorem E3 {j:Nat}:PE X (.Constant .none j pos) (tE X.K φ (.cst .non)):=Ik
theorem j9 {i:Str} {j:Nat}:PE X (.Constant (.str i) j pos) (tE X.K φ (.cst (.str i))):=Il
theorem aw:PA X [] (tEs X.K φ .nil):=Bq
theorem ae (ha:PE X a (tE X.K φ xa)) (hb:PA X es (tEs X.K φ xs)) (hs:starEach (a::es) X.env=(false,eval a X.env)::starEach es X.env:=by rfl):PA X (a::es) (tEs X.K φ (.cons xa xs)):=sh ha hb hs
theorem ai {op:Operator} {m:Mk} (ha:PE X a (tE X.K φ xa)) (hb:PE X b (tE X.K φ xb)):PE X (.BinOp a op b pos) (tE X.K φ (.bin op m xa xb)):=Im En ha hb
theorem B4 (ha:PE X a (tE X.K φ xa)):PE X (.UnaryOp .USub a pos) (tE X.K φ (.neg xa)):=Iq ha
theorem Jf (ha:PE X a (tE X.K φ xa)):PE X (.UnaryOp .Not a pos) (tE X.K φ (.not xa)):=Ec ha
theorem B5 {k:Nat} (h:PA X es (tEs X.K φ xs)) (hl:xs.len<=1000:=by decide):PE X (.Tuple es k pos) (tE X.K φ (.tup xs)):=Io h λσ μ ds μ' e=>by
 rw[h7 e];exact DC (il hl)
theorem jh {m:Mk} (h:PA X es (tEs X.K φ xs)) (hl:xs.len<=1000:=by decide):PE X (.List es pos) (tE X.K φ (.lst m xs)):=I0 h λσ μ ds μ' e=>by
 rw[h7 e];exact DC (il hl)
theorem tv (ha:PE X a (tE X.K φ xa)) (hb:PE X b (tE X.K φ xb)) (hs:mr b:=by intro _ _;rfl):PE X (.Subscript a b pos) (tE X.K φ (.ix xa xb)):=Ll Jb ha hb hs
theorem Lv:PO X none (tEo X.K φ .no):=Lq
theorem Lw (he:PE X e (tE X.K φ xe)):PO X (some e) (tEo X.K φ (.so xe)):=Ls he
theorem Lx {lo hi:Option Expr} {xl xh:ExO} {m:Mk} {p2:Pos} (he:PE X e (tE X.K φ xe)) (hl:PO X lo (tEo X.K φ xl)) (hh:PO X hi (tEo X.K φ xh)):PE X (.Subscript e (.Slice lo hi none p2) pos) (tE X.K φ (.sl m xe xl xh)):=Lu he hl hh
theorem Jg (hu:X.A.units+64<cLine) (op:Cp) (he:PE X e (tE X.K φ xe)):PCh X [opOf op] [e] (tCh X.K φ (.cons op xe .nil)):=Bx (tj op (by lia)) he
theorem Ly (hu:X.A.units+64<cLine) (op:Cp) {op':Cp} {e':Expr} {ops:List CmpOp} {xe':Ex} {r:Cps} (he:PE X e (tE X.K φ xe)) (hr:PCh X (opOf op'::ops) (e'::es) (tCh X.K φ (.cons op' xe' r))) :
  PCh X (opOf op::opOf op'::ops) (e::e'::es) (tCh X.K φ (.cons op xe (.cons op' xe' r))):=By (tj op (by lia)) he hr
theorem cf (hu:X.A.units+64<cLine) (op:Cp) (he:PE X e (tE X.K φ xe)):PTh X [opOf op] [e] (tTh X.K φ (.cons op xe .nil)):=Bz (tj op (by lia)) he
theorem Jh {ops:List CmpOp} {r:Cps} (ha:PE X a (tE X.K φ xa)) (hr:PCh X ops es (tCh X.K φ r)) (hm:lastMarks ops es=false:=by rfl):PE X (.Compare a ops es pos) (tE X.K φ (.cmp xa r)):=Jc ha hr hm
theorem ba {ops:List CmpOp} {r:Cps} (ha:PE X a (tE X.K φ xa)) (hr:PTh X ops es (tTh X.K φ r)) (hm:lastMarks ops es=false:=by rfl):PT X (.Compare a ops es pos) (tT X.K φ (.cmp xa r)):=Ey ha hr hm
theorem nk (ha:PE X a (tE X.K φ xa)) (he:∀whole,isTrue a X.env whole=(do let v <-whole;standAt a.pos;holding [v] (truthy v)):=by intro _;rfl):PT X a (tT X.K φ xa):=Br ha he
theorem i8 (ha:PT X a (tT X.K φ xa)):PW X (.BoolOp .And [a] pos) (tT X.K φ xa):=Ax ha
theorem zc (ha:PT X a (tT X.K φ xa)):PW X (.BoolOp .Or [a] pos) (tT X.K φ xa):=C7 ha
theorem jq {rest:List Expr} (ha:PT X a (tT X.K φ xa)) (hb:PW X (.BoolOp .And (b::rest) pos) (tT X.K φ xb)):PW X (.BoolOp .And (a::b::rest) pos) (tT X.K φ (.and xa xb)):=Ed ha hb
theorem E4 {rest:List Expr} (ha:PT X a (tT X.K φ xa)) (hb:PW X (.BoolOp .Or (b::rest) pos) (tT X.K φ xb)):PW X (.BoolOp .Or (a::b::rest) pos) (tT X.K φ (.or xa xb)):=Ir ha hb
theorem B6 {t:TT} (h:PW X a t):PT X a t:=h.pt
theorem c7 {x:Str} {p:Pos} {f:Nat} {keep:Bool} (C:Callee X.prog X.w X.K X.mg X.base X.A φ f x) (ha:PA X (e::es) (tEs X.K φ xs)) (hg:Gl X x:=by rfl) (hdb:(x==("__debug__":Str))=false:=by decide)
  (he:starEach (e::es) X.env=(false,eval e X.env)::starEach es X.env:=by rfl) (hpl:(backTo pos (starEach es X.env)).any (·.1)=false:=by rfl):PE X (.Call (.Name x p) (e::es) [] pos) (tE X.K φ (.call keep f xs)):=s_call C hg ha hdb he hpl
theorem fw {r:List V->Hp->VK->Prop} {b:Bt} {m:Mk} {es:List Expr} (h:PE X e (tCB (lr X.K (btD b m)) (tEs X.K φ xs))):PE X e (tE X.K φ (.blt b m xs)) :=
 PE.imp h λσv H Q ⟨ι,σ,μ,hS,hL,h⟩=>by
  simp![evE]at h
  obtain⟨ds,μ1,e1,h⟩:=h.bind
  refine⟨ι,σ,μ,hS,hL,?_⟩
  rw[e1]
  exact λι1 vs H1 p1 x1 s1 d1=>⟨ι1,ds,μ1,s1,d1,h.mono p1 x1⟩
theorem i9 {m:Mk} {p:Pos} (hm:X.mg "len"=none) (ha:PA X (e::es) (tEs X.K φ xs)) (hg:Gl X "len":=by rfl) (he:starEach (e::es) X.env=(false,eval e X.env)::starEach es X.env:=by rfl) (hpl:(backTo pos (starEach es X.env)).any (·.1)=false:=by rfl) :
  PE X (.Call (.Name "len" p) (e::es) [] pos) (tE X.K φ (.blt .len m xs)):=fw (r:=λ_ _ _=>True) (es:=es) (dn bt_len hg hm PySem.boot_len ha (by decide) (by decide) he hpl)
theorem ja {m:Mk} {p:Pos} (hm:X.mg "tuple"=none) (ha:PA X (e::es) (tEs X.K φ xs)) (hg:Gl X "tuple":=by rfl) (he:starEach (e::es) X.env=(false,eval e X.env)::starEach es X.env:=by rfl) (hpl:(backTo pos (starEach es X.env)).any (·.1)=false:=by rfl) :
  PE X (.Call (.Name "tuple" p) (e::es) [] pos) (tE X.K φ (.blt .tuple m xs)):=fw (r:=λ_ _ _=>True) (es:=es) (kz bt_tuple hg hm (by first | exact PyProof.Rows.boot_tuple | decide +kernel) ha (by decide) (by decide) he hpl)
theorem yd {m:Mk} {p:Pos} (hm:X.mg "list"=none) (ha:PA X (e::es) (tEs X.K φ xs)) (hg:Gl X "list":=by rfl) (he:starEach (e::es) X.env=(false,eval e X.env)::starEach es X.env:=by rfl) (hpl:(backTo pos (starEach es X.env)).any (·.1)=false:=by rfl) :
  PE X (.Call (.Name "list" p) (e::es) [] pos) (tE X.K φ (.blt .list m xs)):=fw (r:=λ_ _ _=>True) (es:=es) (kz bt_list hg hm (by first | exact PyProof.Rows.boot_list | decide +kernel) ha (by decide) (by decide) he hpl)
theorem B7 {m:Mk} {p:Pos} (hm:X.mg "min"=none) (ha:PA X (e::es) (tEs X.K φ xs)) (hc:X.calm=true:=by rfl) (hg:Gl X "min":=by rfl) (he:starEach (e::es) X.env=(false,eval e X.env)::starEach es X.env:=by rfl) (hpl:(backTo pos (starEach es X.env)).any (·.1)=false:=by rfl) :
  PE X (.Call (.Name "min" p) (e::es) [] pos) (tE X.K φ (.blt .min m xs)):=fw (r:=λ_ _ _=>True) (es:=es) (dn (bt_min hc) hg hm (by first | exact PyProof.Rows.boot_min | decide +kernel) ha (by decide) (by decide) he hpl)
theorem B8 {m:Mk} {p:Pos} (hm:X.mg "max"=none) (ha:PA X (e::es) (tEs X.K φ xs)) (hc:X.calm=true:=by rfl) (hg:Gl X "max":=by rfl) (he:starEach (e::es) X.env=(false,eval e X.env)::starEach es X.env:=by rfl) (hpl:(backTo pos (starEach es X.env)).any (·.1)=false:=by rfl) :
  PE X (.Call (.Name "max" p) (e::es) [] pos) (tE X.K φ (.blt .max m xs)):=fw (r:=λ_ _ _=>True) (es:=es) (dn (bt_max hc) hg hm (by first | exact PyProof.Rows.boot_max | decide +kernel) ha (by decide) (by decide) he hpl)
theorem tw {m:Mk} {p:Pos} (hm:X.mg "sum"=none) (ha:PA X (e::es) (tEs X.K φ xs)) (hc:X.calm=true:=by rfl) (hg:Gl X "sum":=by rfl) (he:starEach (e::es) X.env=(false,eval e X.env)::starEach es X.env:=by rfl) (hpl:(backTo pos (starEach es X.env)).any (·.1)=false:=by rfl) :
  PE X (.Call (.Name "sum" p) (e::es) [] pos) (tE X.K φ (.blt .sum m xs)):=fw (r:=λ_ _ _=>True) (es:=es) (dn (bt_sum hc) hg hm (by first | exact PyProof.Rows.boot_sum | decide +kernel) ha (by decide) (by decide) he hpl)
theorem B9 {m:Mk} {p:Pos} (hm:X.mg "any"=none) (ha:PA X (e::es) (tEs X.K φ xs)) (hc:X.calm=true:=by rfl) (hg:Gl X "any":=by rfl) (he:starEach (e::es) X.env=(false,eval e X.env)::starEach es X.env:=by rfl) (hpl:(backTo pos (starEach es X.env)).any (·.1)=false:=by rfl) :
  PE X (.Call (.Name "any" p) (e::es) [] pos) (tE X.K φ (.blt .any m xs)):=fw (r:=λ_ _ _=>True) (es:=es) (dn (bt_any hc) hg hm (by first | exact PyProof.Rows.boot_any | decide +kernel) ha (by decide) (by decide) he hpl)
theorem tx {tg:Expr} (hl:PE X e (tE X.K φ xe)):PI X tg e (tI X.K φ (.seq xe)):=Ez hl
theorem E5 {tg:Expr} {p:Pos} (hm:X.mg "range"=none) (ha:PE X a (tE X.K φ xa)) (hg:Gl X "range":=by rfl) (hs:starEach [a] X.env=[(false,eval a X.env)]:=by rfl):PI X tg (.Call (.Name "range" p) [a] [] pos) (tI X.K φ (.rng xa)):=E1 hg hm ha hs
theorem ka (i:Nat) {y:Str} (hi:X.N[i]? = some y:=by rfl) (hN:ndB X.N=true:=by first | rfl | kernel_rfl) (hx:Loc X.env.scope y:=by first | exact Or.inl rfl | exact Or.inr rfl) (hf:X.fn y=true\/X.env.scope.names.lookup y=some .local:=by first | exact Or.inl rfl | exact Or.inr rfl) :
  PG X (.Name y pos) (tG X.K (.one i)):=Eg (ow hN) hi hx hf
theorem E6:PGs X [] (tGs X.K []):=Eh
theorem ua (i:Nat) {is:List Nat} {y:Str} (h2:PGs X es (tGs X.K is)) (hi:X.N[i]? = some y:=by rfl) (hN:ndB X.N=true:=by first | rfl | kernel_rfl) (hx:Loc X.env.scope y:=by first | exact Or.inl rfl | exact Or.inr rfl) (hf:X.fn y=true\/X.env.scope.names.lookup y=some .local:=by first | exact Or.inl rfl | exact Or.inr rfl)
  (hs:(assignEach (.Name y pos::es) X.env).map (·.2)=assign (.Name y pos) X.env::(assignEach es X.env).map (·.2):=by rfl):PGs X (.Name y pos::es) (tGs X.K (i::is)):=Bs (rd (ow hN) hi hx hf) h2 hs
theorem E7 {is:List Nat} {k:Nat} (h:PGs X es (tGs X.K is)) (hc:X.calm=true:=by rfl) (hn:(assignEach es X.env).length=is.length:=by rfl) (hst:(assignEach es X.env).findIdx? (·.1)=none:=by rfl):PG X (.Tuple es k pos) (tG X.K (.many is)):=Iw hc h hn hst
theorem Ca:PTs X [] (tTs X.K φ .nil):=El
theorem E8 (Nb:List Str) {target iter:Expr} {ifs:List Expr} {scope:Scope} {cap:List Nat} {nl:Nat} {m:Mk} {tg:Tg} {it:It} {cs:Exs} {elt:Ex} (hi:PI X target iter (tI X.K φ it))
  (B:xk X scope Nb target ifs e (tG X.K tg) (tTs X.K φ cs) (tE X.K φ elt)) (S:tu X.env.scope scope X.N Nb cap nl=true:=by first | rfl | kernel_rfl) (hc:X.calm=true:=by rfl) (hf:∀x,foldedSetIterable iter X.env x=pure x:=by intro _;rfl) (hs:∀j∈slots tg,cap.length<=j:=by decide) :
  PE X (.ListComp e [⟨target,iter,ifs,0⟩] scope pos) (tE X.K φ (.comp m cap nl tg it cs elt)):=Em (qe S) hc hi B hf hs
theorem cg:PSs X [] (tSs X.K φ .nil):=Iu
theorem ax {s:Stmt} {ss:List Stmt} {x:Sm} {xss:Sms} (h1:PS X s (tS X.K φ x)) (h2:PSs X ss (tSs X.K φ xss)):PSs X (s::ss) (tSs X.K φ (.cons x xss)):=Ee h1 h2
theorem E9 (he:PE X e (tE X.K φ xe)) (hs:swapsWith e none pos.line X.env=pure false:=by rfl):PS X (.Expr e pos) (tS X.K φ (.ex xe)):=Ef he hs
theorem dm (he:PE X e (tE X.K φ xe)):PS X (.Return (some e) pos) (tS X.K φ (.ret xe)):=Iv he
theorem kb {x y:List Stmt} {xx xy:Sms} (hc:PT X c (tT X.K φ xc)) (ha:PSs X x (tSs X.K φ xx)) (hb:PSs X y (tSs X.K φ xy)):PS X (.If c x y pos) (tS X.K φ (.ite xc xx xy)):=Lm hc ha hb
theorem bj (i:Nat) {y:Str} {pos':Pos} (he:PE X e (tE X.K φ xe)) (hi:X.N[i]? = some y:=by rfl) (hN:ndB X.N=true:=by first | rfl | kernel_rfl) (hx:Loc X.env.scope y:=by first | exact Or.inl rfl | exact Or.inr rfl) (hf:X.fn y=true\/X.env.scope.names.lookup y=some .local:=by first | exact Or.inl rfl | exact Or.inr rfl)
  (hs:swapsWith e (some (.Name y pos')) pos.line X.env=pure false:=by rfl):PS X (.Assign [.Name y pos'] e pos) (tS X.K φ (.set i xe)):=Iy (ow hN) hi hx hf he hs
theorem ye {tg it:Expr} {body:List Stmt} {xt:Tg} {xi:It} {xb:Sms} (hi:PI X tg it (tI X.K φ xi)) (hg:PG X tg (tG X.K xt)) (hb:PSs X body (tSs X.K φ xb)) (hp:PassesOwn (model X.prog X.w) X.A X.env X.xe:=by exact PassesOwn.never) (hc:X.calm=true:=by rfl)
  (hs:∀x,foldedSetIterable it X.env x=pure x:=by intro _;rfl):PS X (.For tg it body [] pos) (tS X.K φ (.loop xt xi xb)):=Iz hp hc hi hg hb hs
end
structure Ma (X:Cx) (o:Expr) (nm:Str) (e:Expr) (es:List Expr) (apos cpos:Pos):Prop where
 b:attributeBase o nm X.env (eval o X.env)=eval o X.env
 f:((backTo cpos (starEach (e::es) X.env)).all (λx=>!x.1)&&(backToKw cpos (keywordEach [] X.env)).all (λx=>x.1.isSome)&&decide ((e::es).length+([]:List Keyword).length+(if([]:List Keyword).isEmpty then 0 else 1)<30))=true
 l:(apos.endLine==cpos.line)=true
 s:starEach (e::es) X.env=(false,eval e X.env)::starEach es X.env
 p:(backTo cpos (starEach es X.env)).any (·.1)=false
section
variable {X : Cx} {φ : Phi} {o e : Expr} {es : List Expr} {xo : Ex} {xs : Exs} {apos cpos : Pos} {T id : String} {name : Str} {mt : Mt}
theorem ub (hT:∀(ι:List Addr) (H:Hp) (μ:Sto) (d:D) (x:V),Sim X.K ι H μ->IsD X.K ι H d x->ir mt d μ=true->tyV X.K T x H) (h:PE X e (tBM X.K T (rMt X.K mt) (tE X.K φ xo) (tEs X.K φ xs))):PE X e (tE X.K φ (.meth mt xo xs)) :=
 PE.imp h λσv H Q ⟨ι,σ,μ,hS,hL,h⟩=>by
  simp![evE]at h
  obtain⟨d,μ1,e1,h⟩:=h.bind
  refine⟨ι,σ,μ,hS,hL,?_⟩
  rw[e1]
  intro ι1 x H1 p1 x1 s1 d1
  split at h
  ·rename_i hm
   refine⟨hT ι1 H1 μ1 d x s1 d1 hm,ι1,σ,μ1,s1,hL.mono p1 x1,?_⟩
   obtain⟨ds,μ2,e2,h⟩:=h.bind
   rw[e2]
   exact λι2 vs H2 p2 x2 s2 d2=>⟨ι2,d,ds,μ2,s2,IsD.mono p2 x2 _ _ d1,d2,h.mono (p1.trans p2) (x1.trans x2)⟩
  ·exact h.elim
theorem gx (hmt:∀d μ,ir mt d μ=(listOf μ d).isSome) (ι:List Addr) (H:Hp) (μ:Sto) (d:D) (x:V) (hS:Sim X.K ι H μ) (hd:IsD X.K ι H d x) (hm:ir mt d μ=true):tyV X.K "list" x H:=by
 rw[hmt]at hm
 obtain⟨ds,e⟩:=ET.mp hm
 obtain⟨a,xs,rfl,hls,_⟩:=gu hS hd e
 exact .inl ⟨rfl,_,hls.sq⟩
theorem yf (ho:PE X o (tE X.K φ xo)) (ha:PA X (e::es) (tEs X.K φ xs)) (h5:Ma X o "pop" e es apos cpos:=by exact⟨rfl,rfl,rfl,rfl,rfl⟩):PE X (.Call (.Attribute o "pop" apos) (e::es) [] cpos) (tE X.K φ (.meth .pop xo xs)) :=
 ub (gx λ_ _=>rfl) (Bb ER FN F.type_list_pop Je ho ha h5.b h5.f h5.l h5.s h5.p)
theorem f9 (ho:PE X o (tE X.K φ xo)) (ha:PA X (e::es) (tEs X.K φ xs)) (h5:Ma X o "append" e es apos cpos:=by exact⟨rfl,rfl,rfl,rfl,rfl⟩):PE X (.Call (.Attribute o "append" apos) (e::es) [] cpos) (tE X.K φ (.meth .append xo xs)) :=
 ub (gx λ_ _=>rfl) (Bb ER F.slot_list_append F.type_list_append x9 ho ha h5.b h5.f h5.l h5.s h5.p)
theorem nq (ho:PE X o (tE X.K φ xo)) (ha:PA X (e::es) (tEs X.K φ xs)) (h5:Ma X o "extend" e es apos cpos:=by exact⟨rfl,rfl,rfl,rfl,rfl⟩):PE X (.Call (.Attribute o "extend" apos) (e::es) [] cpos) (tE X.K φ (.meth .extend xo xs)) :=
 ub (gx λ_ _=>rfl) (Bb ER F.slot_list_extend F.type_list_extend ya ho ha h5.b h5.f h5.l h5.s h5.p)
end
section
variable {X : Cx} {φ : Phi} {a : Expr} {xa : Ex} {p p2 pos pos2 : Pos} {m : Mk}
theorem Fb (hu:X.A.units+64<cLine):G0 X (Ka X.K):=by
 intro pins s σ H o i v ov iv u Q I ro ri rv ⟨ι,a,b,d,μ,hS,ha,hb,hd,h⟩
 cases a with
 | loc n =>
  simp![qr]at h
  cases em:μ[n]? with
  | none=>rw[em]at h;exact h.elim
  | some ob =>
   rw[em]at h
   obtain⟨q,rfl,hq⟩:∃q,o=.ref q/\ι[n]? = some q:=by simpa[IsD]using ha
   obtain⟨q',eq',hob⟩:=hS.at em
   rw[hq]at eq';cases eq'
   have lst:∀(ob:O) (xs:List D),d5 ob=some xs->μ[n]? = some ob->OIs X.K ι H q ob->cv X.K (λ_ _ _ (_:Unit)=>True) ι H (match some xs,b with
     | some xs,.int i=>match ixN xs.length i with
      | some j=>if fits ob d=true then(putL n ob (xs.set j d) .non μ).bind λ_ μ=>.ok () μ else .stuck
      | none=>.stuck
     | _,_=>.stuck) (λ_ H'=>Q H')->wpAny (model X.prog X.w) X.A (setItem ov iv u) (λ_ s'=>∃H',Inv X pins σ H' s'/\Q H') X.xe s:=by
    intro ob xs ei em ho h
    cases b with
    | int k =>
     simp only at h
     split at h
     ·rename_i j ej
      split at h
      ·rename_i hf
       obtain⟨a',vs,ea,hι,hH,h1,h2⟩:=zb hS ha em ei
       cases ea
       cases bq hb
       refine set_list pins s σ H _ _ v ov iv u Q I ro ri rv ⟨_,vs,k,j,rfl,rfl,hH,by rw[h1.length];exact ej,?_⟩
       have h':cv X.K (RD X.K) ι H (putL n ob (xs.set j d) .non μ) λ_ H'=>Q H':=by
        cases ob with
        | l _=>exact λι' v' H' p e s' _=>h ι' () H' p e s' trivial
        | r _=>exact λι' v' H' p e s' _=>h ι' () H' p e s' trivial
        | d _=>exact h.elim
        | dt _=>exact h.elim
        | x _=>exact h.elim
        | dead=>exact h.elim
       exact gk (v:=.non) hS hι hH (h1.set hd j) (λes e=>(h2 es e).set (lx hf hd es e) j) (by simp[IsD]) h'
      ·exact h.elim
     ·exact h.elim
    | _=>exact h.elim
   cases ob with
   | l xs=>exact lst (.l xs) xs rfl em hob h
   | r xs=>exact lst (.r xs) xs rfl em hob h
   | d kvs =>
    simp only at h
    split at h
    ·rename_i hc
     obtain⟨hk,hv,hl⟩:=hc
     obtain⟨xs,hH,hkv⟩:=hob
     obtain⟨k,rfl,rfl⟩:=sy hk hb
     cases(show ov=Value.ref q from ro)
     have hlen:xs.length=kvs.length:=(DS hkv).symm
     refine r8 (by lia) I (G2.k (k:=k) (v:=v) hH (by rw[hlen,<-c6];exact hl)) ri rv λs' I'=>⟨_,I',?_⟩
     exact h ι () _ (AD _) (.dK hH) (hS.put hq (.dK hH) ⟨_,av,Paired.mapP (xw (IsD.pur hv hd) hkv) λp r z=>⟨IsD.mono (AD _) (.dK hH) _ _ z.1,IsD.mono (AD _) (.dK hH) _ _ z.2⟩⟩) trivial
    ·exact h.elim
   | dt kvs=>simp![d5]at h;exact h.elim
   | x _=>simp![d5]at h;exact h.elim
   | dead=>simp![d5]at h;exact h.elim
 | _=>exact h.elim
theorem jb (hu:X.A.units+64<cLine) {o i e:Expr} {xo xi x:Ex} {tp:Pos} (ho:PE X o (tE X.K φ xo)) (hi:PE X i (tE X.K φ xi)) (he:PE X e (tE X.K φ x))
  (ha:∀v,assign (.Subscript o i tp) X.env v=(do
   let ov <-holding [v] (eval o X.env)
   let iv <-holding [v,ov] (eval i X.env)
   standAt tp
   holding [v,ov,iv] (setItem ov iv v)
   release [v,ov,iv] []):=by intro _;rfl) (hs:swapsWithSole [.Subscript o i tp] e pos.line X.env=pure false:=by rfl) (hw:swappedStores [.Subscript o i tp] e X.env=pure none:=by rfl)
  (h1:(assignEach [.Subscript o i tp] X.env).map (·.2)=[assign (.Subscript o i tp) X.env]:=by rfl):PS X (.Assign [.Subscript o i tp] e pos) (tS X.K φ (.setx xo xi x)):=Ei (Fb hu) ho hi he ha hs hw h1
end
def SI (b:Bool) (h:Heap) (it l:Addr) (i:Nat):Prop:=match b with
 | true=>h.IsListIter it l i
 | false=>h.IsTupleIter it l i
def SQ (b:Bool) (h:Heap) (l:Addr) (xs:Array Value):Prop:=match b with
 | true=>h.IsList l xs
 | false=>h.IsTuple l xs
def Lz:Bool->String
 | true=>"list_iterator"
 | false=>"tuple_iterator"
theorem SI.keep {b:Bool} {h h':Heap} {it l:Addr} {i:Nat} (x:SI b h it l i) (e:∀o,h.get? it=some o->h'.get? it=some o):SI b h' it l i:=by
 cases b
 ·exact Heap.IsTupleIter.at x e
 ·exact Heap.IsListIter.at x e
theorem SI.but {b:Bool} {h h':Heap} {it l c:Addr} {i:Nat} (x:SI b h it l i) (e:Heap.ExtBut c h h') (n:it≠c):SI b h' it l i:=x.keep λo q=>e it o n q
theorem SI.obj {b:Bool} {h:Heap} {it l:Addr} {i:Nat} (x:SI b h it l i):∃o,h.get? it=some o/\o.cls=.type (Lz b)/\o.data=.fields #[.ref l,.int i 0]:=by
 cases b<;>exact x
section
variable {prog : Program} {w : World} {A : Around} {E : Value -> Shared -> Prop} {s : Shared}
theorem Cb {b:Bool} {it l:Addr} {i:Nat} {xs:Array Value} {x:Value} {Q:Value->Shared->Prop} (hit:SI b s.heap it l i) (hl:SQ b s.heap l xs) (hx:xs[i]? = some x)
  (hQ:∀h',SI b h' it l (i+1)->Heap.SameBut it s.heap h'->Q x {s with heap:=h'}):wpAny (model prog w) A (Builtin.SmallTypes.nextOf (.ref it)) Q E s:=by
 cases b
 ·obtain⟨o,ho,hc,hd⟩:=hit.obj
  obtain⟨ol,hol,_,nl,hdl⟩:=hl
  have ht:s.TypeIs (.ref it) "tuple_iterator":=⟨o,ho,hc⟩
  unfold Builtin.SmallTypes.nextOf
  refine AB (BS (name:=Str.ofString "__next__") ht CL (CP CL ht EA ?_ (Ev _)))
  show wpAny _ _ (field (.ref it) 0>>=_) _ _ s
  refine AB (BZ ho hd (x:=.ref l) rfl ?_)
  show wpAny _ _ (if(Value.ref l==Value.none)=true then _ else _) _ _ s
  rw[if_neg (show ¬((Value.ref l==Value.none)=true)from AR)]
  show wpAny _ _ (field (.ref it) 1>>=_) _ _ s
  refine AB (BZ ho hd (x:=.int i 0) rfl ?_)
  show wpAny _ _ (seqItems? (.ref l)>>=_) _ _ s
  refine AB (wpAny_seqItems hol hdl ?_)
  simp![DM,hx]
  refine AB (wpAny_setField ho hd (by simp) (AJ ⟨x,rfl,AJ (hQ _ ?_ (FW ..))⟩))
  exact⟨_,FO _ ho (Obj.isFreed_of_fields (Obj.data_mapFields hd _)),(Obj.cls_mapFields ..).trans hc,by rw[Obj.data_mapFields hd];simp[rawInt]⟩
 ·exact wpAny_nextOf_list_item hit hl hx hQ
theorem Fc {b:Bool} {it l:Addr} {i:Nat} {xs:Array Value} {Q:Value->Shared->Prop} (hh:A.handled=none) (hit:SI b s.heap it l i) (hl:SQ b s.heap l xs) (hx:xs[i]? = none)
  (hE:∀h' e,Heap.ExtBut it s.heap h'->(∃o,h'.get? e=some o/\o.cls=.type "StopIteration")->E (.ref e) {s with heap:=h'}):wpAny (model prog w) A (Builtin.SmallTypes.nextOf (.ref it)) Q E s:=by
 cases b
 ·obtain⟨o,ho,hc,hd⟩:=hit.obj
  obtain⟨ol,hol,_,nl,hdl⟩:=hl
  have ht:s.TypeIs (.ref it) "tuple_iterator":=⟨o,ho,hc⟩
  unfold Builtin.SmallTypes.nextOf
  refine AB (BS (name:=Str.ofString "__next__") ht CL (CP CL ht EA ?_ (Ev _)))
  show wpAny _ _ (field (.ref it) 0>>=_) _ _ s
  refine AB (BZ ho hd (x:=.ref l) rfl ?_)
  show wpAny _ _ (if(Value.ref l==Value.none)=true then _ else _) _ _ s
  rw[if_neg (show ¬((Value.ref l==Value.none)=true)from AR)]
  show wpAny _ _ (field (.ref it) 1>>=_) _ _ s
  refine AB (BZ ho hd (x:=.int i 0) rfl ?_)
  show wpAny _ _ (seqItems? (.ref l)>>=_) _ _ s
  refine AB (wpAny_seqItems hol hdl ?_)
  simp![DM,hx]
  refine AB (wpAny_rule (AB (wpAny_setField ho hd (by simp) ?_)))
  show wpAny _ _ (newExc (.type "StopIteration") []>>=_) _ _ _
  refine AB ?_
  simp![newExc,newTuple]
  refine AB (CD ?_ (by size_fits))
  refine AB (m:=firstArgMember _ _) (wpAny_of_eq (a:=Value.none) (by first | rfl | (simp![firstArgMember];rfl)) ?_)
  refine CD ?_ (by size_fits)
  simp![raiseNew]
  refine AB (wpAny_handled ?_)
  first | rw[show A.in1.handled=none from hh] | rw[hh]
  refine AB (AJ (wpAny_throw ?_))
  exact hE _ _ (((FW ..).extBut.push _).push _) ⟨_,AM _ rfl,rfl⟩
 ·exact wpAny_nextOf_list_end hh hit hl hx hE
variable {b1 b2 : Bool} {z TI TO i1 i2 l1 l2 : Addr} {k1 k2 : Nat} {xs ys : Array Value} {x y a b : Value}
end
section
variable {X : Cx} {pins : List (Addr × Obj)} {σ : St} {H : Hp} {s : Shared} {φ : Phi}
theorem uc {h':Heap} {t':Nat} {ch:List Addr} (I:Inv X pins σ H s) (k:∀b o,b∉ch->s.heap.get? b=some o->h'.get? b=some o) (hf:∀b∈ch,qp X pins H b):Inv X pins σ H {s with heap:=h',toks:=t'}:=by
 have nit:∀b u,H b=some u->b∉ch:=λb u e z=>by rw[(hf b z).1]at e;cases e
 refine I.step (g':=s.gens) (d':=s.drawn) (ch:=ch) (λb hb=>⟨(hf b hb).2.2.2.1,(hf b hb).2.1,(hf b hb).2.2.2.2.1,(hf b hb).2.2.2.2.2⟩) (λb o _ _ hc e _=>k b o hc e) (λb o _ _ hc e _=>⟨o.slots,k b o hc e⟩) (λ_ _ _ _ n=>n)
  (λb o hc e=>⟨o,k b o hc e⟩) (λ_ _ e=>e) (λ_ _ _ e=>e) (λb ps e=>⟨#[],by rw[e];simp⟩) (λm hm=>?_) (λb u e=>?_) I.bare
 ·obtain⟨o,es,ep,ho,r⟩:=hm
  exact⟨o,es,ep,k _ o (λz=>(hf _ z).2.1 rfl) ho,r⟩
 ·refine(I.hok b u e).stay (λc v hc q=>k c v ?_ q) (λ_ q=>q) λ_ _ q=>q
  rcases hc with z | z
  ·rw[z];exact nit b u e
  ·exact nit c _ z
def Sq (b:Bool) (K:PySem.W.Frag) (H:Hp) (a:Addr) (xs:List V):Prop:=match b with
 | true=>SqL K H a xs
 | false=>SqT K H a xs
theorem Sq.vals {b:Bool} {a:Addr} {xs:List V} (h:Sq b X.K H a xs) (I:Inv X pins σ H s):∃its:List Value,ay xs its/\SQ b s.heap a its.toArray/\xs.length<=sizeLine:=by
 cases b
 ·obtain⟨its,rv,p,hz⟩:=I.tuple h
  exact⟨its,rv,p,hz⟩
 ·obtain⟨its,rv,p,hz⟩:=I.list h
  exact⟨its,rv,p.isList,hz⟩
theorem Sq.inj {b:Bool} {a:Addr} {xs ys:List V} (h:Sq b X.K H a xs) (I:Inv X pins σ H s) (h':Sq b X.K H a ys):ys=xs:=by
 cases b
 ·exact I.tuple_inj h' h
 ·exact I.list_inj h' h
theorem Cc {K:PySem.W.Frag} {ι:List Addr} {H:Hp} {μ:Sto} {d:D} {v:V} {ds:List D} {g:Gd} (S:Sim K ι H μ) (hd:IsD K ι H d v) (hw:bf μ d=some (ds,g)) :
  ∃b a xs,v=.ref a/\Sq b K H a xs/\af K ι H ds xs/\∀ι2 H2 μ2,ι <+: ι2->Ext H H2->Sim K ι2 H2 μ2->gd g μ2->∃ys,Sq b K H2 a ys/\af K ι2 H2 ds ys:=by
 cases d with
 | tup es =>
  simp![bf,AT,EV]at hw
  obtain⟨rfl,rfl⟩:=hw
  obtain⟨a,xs,rfl,hq,hds⟩:=cz hd
  exact⟨false,a,xs,rfl,hq,hds,λι2 H2 μ2 q1 q2 q3 q4=>⟨xs,hq.ext q2,af.mono q1 q2 _ _ hds⟩⟩
 | lst es =>
  simp![bf,AT,EV]at hw
  obtain⟨rfl,rfl⟩:=hw
  obtain⟨a,xs,rfl,hq,hds⟩:∃a xs,v=.ref a/\FzL K H a xs/\af K ι H es xs:=by simpa[IsD]using hd
  exact⟨true,a,xs,rfl,hq.sq,hds,λι2 H2 μ2 q1 q2 q3 q4=>⟨xs,(hq.ext q2).sq,af.mono q1 q2 _ _ hds⟩⟩
 | loc n =>
  obtain⟨a,rfl,hn⟩:∃a,v=.ref a/\ι[n]? = some a:=by simpa[IsD]using hd
  have pre:∀{ι2:List Addr},ι <+: ι2->ι2[n]? = some a:=λhp=>by
   obtain⟨t,rfl⟩:=hp
   rw[AI (AF.mp hn).1];exact hn
  cases em:μ[n]? with
  | none=>simp[bf,em]at hw
  | some o =>
   cases o with
   | l es =>
    simp![bf,em,AT,EV]at hw
    obtain⟨rfl,rfl⟩:=hw
    obtain⟨a',q',ho⟩:=S.at em
    rw[hn]at q';cases q'
    obtain⟨xs,f1,f2⟩:=ho
    refine⟨true,a,xs,rfl,(show LsL K H a xs from .inl f1).sq,af.mono (CA) (.refl _) _ _ f2,λι2 H2 μ2 q1 q2 q3 q4=>?_⟩
    obtain⟨a2,e2,o2⟩:=q3.at (show μ2[n]? = some (.l es)from q4)
    rw[pre q1]at e2;cases e2
    obtain⟨ys,g1,g2⟩:=o2
    exact⟨ys,(show LsL K H2 a ys from .inl g1).sq,af.mono (CA) (.refl _) _ _ g2⟩
   | r es =>
    simp![bf,em,AT,EV]at hw
    obtain⟨rfl,rfl⟩:=hw
    obtain⟨a',q',ho⟩:=S.at em
    rw[hn]at q';cases q'
    obtain⟨xs,f1,f2⟩:=ho
    refine⟨true,a,xs,rfl,(show LsL K H a xs from .inl f1).sq,f2,λι2 H2 μ2 q1 q2 q3 q4=>?_⟩
    obtain⟨a2,e2,o2⟩:=q3.at (show μ2[n]? = some (.r es)from q4)
    rw[pre q1]at e2;cases e2
    obtain⟨ys,g1,g2⟩:=o2
    exact⟨ys,(show LsL K H2 a ys from .inl g1).sq,g2⟩
   | d kvs=>simp[bf,em]at hw
   | dt kvs=>simp[bf,em]at hw
   | x _=>simp[bf,em]at hw
   | dead=>simp[bf,em]at hw
 | _=>simp[bf]at hw
end
open AutoSeq1 (wpAny_loadPart')
theorem Cd (l:Addr) (items:Array Value) (n:Nat) (dct:Option Addr) (sl:Array (Option Value)) :
  Meets (Builtin.«enumerate.__new__» ⟨[.type "enumerate",.ref l],[]⟩) (λ_ R s=>s.heap.get? l=some {cls:=.type "tuple",dict:=dct,data:=.seq items n,slots:=sl} /\
   R (.ok (.ret (.ref (s.heap.push {cls:=.type "tuple_iterator",data:=.fields #[.ref l,.int 0 0]}).objs.size)))
    {s with heap:=(s.heap.push {cls:=.type "tuple_iterator",data:=.fields #[.ref l,.int 0 0]}).push {cls:=.type "enumerate",data:=.fields #[.none,.bool false,.ref s.heap.objs.size,rawInt 0,.none,.none]}}) :=
 .of_wp λprog w A R s h=>by
  obtain⟨hp,g,d,tk,os⟩:=s;obtain⟨hl,h⟩:=h
  have hsub:=sub_enumerate
  have hL:Heap.IsTuple (Shared.heap ⟨hp,g,d,tk,os⟩) l items:=⟨_,hl,rfl,n,rfl⟩
  wp_walk using BO hl
  refine wpAny_stack_any λst=>AJ ?_
  split
  ·rename_i c _ _ _ _ _
   cases(c==Value.type "enumerate")
   ·wp_walk using BO hl,CU hL
    exact⟨_,rfl,h⟩
   ·wp_walk using BO hl,CU hL
    exact⟨_,rfl,h⟩
  ·wp_walk using BO hl,CU hL
   exact⟨_,rfl,h⟩
section
variable {prog : Program} {w : World} {A : Around} {E : Value -> Shared -> Prop} {s : Shared} {b : Bool}
theorem Ce {l:Addr} {items:Array Value} {Q:Value->Shared->Prop} (hL:SQ b s.heap l items)
  (h:∀h',IsEnum h' (s.heap.objs.size+1) s.heap.objs.size 0 .none->SI b h' s.heap.objs.size l 0->(∀b o,s.heap.get? b=some o->h'.get? b=some o)->Q (.ref (s.heap.objs.size+1)) {s with heap:=h'}) :
  wpAny (model prog w) A (call (.type "enumerate") [.ref l]) Q E s:=by
 cases b
 ·obtain⟨⟨c,dct,dt,sl⟩,hl,hc,n,hd⟩:=hL
  replace hc:c=.type "tuple":=hc
  replace hd:dt=.seq items n:=hd
  subst hc hd
  refine callType_new F.called_enumerate (by decide) (F.typeCall_enumerate_1 _) (F.newCall_enumerate_1 _) (λobj=>F.args_object_init_2 obj _) F.entry_enumerate_new (Cd l items n dct sl) ⟨hl,?_⟩
  have hz:(s.heap.push {cls:=.type "tuple_iterator",data:=.fields #[.ref l,.int 0 0]}).objs.size=s.heap.objs.size+1:=EI ..
  show _/\_
  rw[hz]
  have he:IsEnum ((s.heap.push {cls:=.type "tuple_iterator",data:=.fields #[.ref l,.int 0 0]}).push
    {cls:=.type "enumerate",data:=.fields #[.none,.bool false,.ref s.heap.objs.size,rawInt 0,.none,.none]}) (s.heap.objs.size+1) s.heap.objs.size 0 .none:=by
   have:=AM (s.heap.push {cls:=.type "tuple_iterator",data:=.fields #[.ref l,.int 0 0]})
    (o:={cls:=.type "enumerate",data:=.fields #[.none,.bool false,.ref s.heap.objs.size,rawInt 0,.none,.none]}) rfl
   rw[hz]at this;exact this
  exact⟨⟨_,he,rfl⟩,h _ he ⟨_,AE _ (AM _ rfl),rfl,rfl⟩ λb o x=>AE _ (AE _ x)⟩
 ·exact call_enumerate_list hL λh' a1 a2 _ a3=>h h' a1 a2 a3
theorem Cf {e it l:Addr} {i:Nat} {items:Array Value} {x old:Value} {Q:Option Value->Shared->Prop}
  (he:IsEnum s.heap e it i old) (hit:SI b s.heap it l i) (hl:SQ b s.heap l items) (hx:items[i]? = some x) (hne:e≠it)
  (hQ:∀h',IsEnumOut h' e it ((i:Int)+1) x s.heap.objs.size->SI b h' it l (i+1)->h'.get? s.heap.objs.size=some {cls:=.type "tuple",data:=.seq #[.int i s.toks,x]} ->
   (∀b o,b≠e->b≠it->s.heap.get? b=some o->h'.get? b=some o)->Q (some (.ref s.heap.objs.size)) {s with heap:=h',toks:=s.toks+1}) :
  wpAny (model prog w) A (pyNext (.ref e)) Q E s:=by
 have hT:s.TypeIs (.ref e) "enumerate":=⟨_,he,rfl⟩
 unfold pyNext
 refine AB (wpAny_attempt (BS (name:=Str.ofString "__next__") hT Do (CP Do hT F.entry_enumerate_next ?_ (F.args_enumerate_next_1 _))))
 obtain⟨hp,g,d,tk,os⟩:=s
 show wpAny _ _ (field (.ref e) 2>>=_) _ _ _
 refine AB (BZ he rfl (x:=.ref it) rfl ?_)
 refine AB (Cb hit hl hx λh₁ hit₁ hs₁=>?_)
 replace hs₁:Heap.SameBut it hp h₁:=hs₁
 have he₁:IsEnum h₁ e it i old:=(hs₁.2 e hne).trans he
 show wpAny _ _ (field (.ref e) 3>>=_) _ _ ⟨h₁,g,d,tk,os⟩
 refine AB (BZ he₁ rfl (x:=rawInt i) rfl ?_)
 show wpAny _ _ (field (.ref e) 4>>=_) _ _ ⟨h₁,g,d,tk,os⟩
 refine AB (BZ he₁ rfl (x:=.none) rfl ?_)
 show wpAny _ _ (mkInt i>>=_) _ _ ⟨h₁,g,d,tk,os⟩
 refine AB (wpAny_mkInt ?_)
 show wpAny _ _ (setField (.ref e) 3 (rawInt ((i:Int)+1))>>=_) _ _ ⟨h₁,g,d,tk+1,os⟩
 refine AB (CV he₁ (by simp) λh₂ he₂ hs₂=>?_)
 replace hs₂:Heap.SameBut e h₁ h₂:=hs₂
 replace he₂:IsEnum h₂ e it ((i:Int)+1) old:=he₂
 show wpAny _ _ (setField (.ref e) 4 .none>>=_) _ _ ⟨h₂,g,d,tk+1,os⟩
 refine AB (CV he₂ (by simp) λh₃ he₃ hs₃=>?_)
 replace hs₃:Heap.SameBut e h₂ h₃:=hs₃
 replace he₃:IsEnum h₃ e it ((i:Int)+1) old:=he₃
 show wpAny _ _ (newTuple [.int i tk,x]>>=_) _ _ ⟨h₃,g,d,tk+1,os⟩
 refine AB (wpAny_newTuple ?_)
 have he₄:IsEnum (h₃.push {cls:=.type "tuple",data:=.seq #[.int i tk,x]}) e it ((i:Int)+1) old:=AE _ he₃
 generalize hh₄:h₃.push {cls:=.type "tuple",data:=.seq #[.int i tk,x]}=h₄ at he₄
 have hsz:h₃.objs.size=hp.objs.size:=by rw[hs₃.1,hs₂.1,hs₁.1]
 have hel:e<hp.objs.size:=AG he
 have ht₄:h₄.get? hp.objs.size=some {cls:=.type "tuple",data:=.seq #[.int i tk,x]}:=by rw[<-hh₄,<-hsz];exact AM _ rfl
 have hk₄:∀b o,b≠e->b≠it->hp.get? b=some o->h₄.get? b=some o:=λb o hbe hbi hb=>by
  rw[<-hh₄];exact AE _ (hs₃.extBut b o hbe (hs₂.extBut b o hbe (hs₁.extBut b o hbi hb)))
 have hit₄:SI b h₄ it l (i+1):=by
  rw[<-hh₄];exact((hit₁.but hs₂.extBut (Ne.symm hne)).but hs₃.extBut (Ne.symm hne)).keep λo ho=>AE _ ho
 show wpAny _ _ (Builtin.SmallTypes.ownedTupleIsFree (.ref e)>>=_) _ _ ⟨h₄,g,d,tk+1,os⟩
 rw[hsz]
 clear hh₄ he₃ hs₃ he₂ hs₂ he₁ hs₁ hit₁ hsz h₃ h₂ h₁
 refine AB ?_
 unfold Builtin.SmallTypes.ownedTupleIsFree
 refine AB (BZ he₄ rfl (x:=.none) rfl (AJ ?_))
 simp![if_true]
 refine AB (wpAny_rule ?_)
 refine AB (BZ he₄ rfl (x:=old) rfl ?_)
 refine AB (CV he₄ (by simp) λh₅ he₅ hs₅=>?_)
 replace hs₅:Heap.SameBut e h₄ h₅:=hs₅
 replace he₅:IsEnum h₅ e it ((i:Int)+1) x:=he₅
 show wpAny _ _ (Builtin.SmallTypes.ownedTupleHandOut (.ref e) (.ref hp.objs.size)>>=_) _ _ ⟨h₅,g,d,tk+1,os⟩
 refine AB ?_
 unfold Builtin.SmallTypes.ownedTupleHandOut
 refine AB (CV he₅ (by simp) λh₆ he₆ hs₆=>?_)
 replace hs₆:Heap.SameBut e h₅ h₆:=hs₆
 replace he₆:IsEnumOut h₆ e it ((i:Int)+1) x hp.objs.size:=he₆
 refine CV he₆ (by simp) λh₇ he₇ hs₇=>?_
 replace hs₇:Heap.SameBut e h₆ h₇:=hs₇
 replace he₇:IsEnumOut h₇ e it ((i:Int)+1) x hp.objs.size:=he₇
 refine AB (wpAny_letGo (AJ ⟨_,rfl,AJ (hQ h₇ he₇ ?_ ?_ ?_)⟩))
 ·exact((hit₄.but hs₅.extBut (Ne.symm hne)).but hs₆.extBut (Ne.symm hne)).but hs₇.extBut (Ne.symm hne)
 ·exact hs₇.extBut _ _ (FE hel) (hs₆.extBut _ _ (FE hel) (hs₅.extBut _ _ (FE hel) ht₄))
 ·exact λb o hbe hbi hb=>hs₇.extBut b o hbe (hs₆.extBut b o hbe (hs₅.extBut b o hbe (hk₄ b o hbe hbi hb)))
theorem Fd {e it l:Addr} {i:Nat} {items:Array Value} {old:Value} {Q:Option Value->Shared->Prop} (hh:A.handled=none)
  (he:IsEnum s.heap e it i old) (hit:SI b s.heap it l i) (hl:SQ b s.heap l items) (hx:items[i]? = none)
  (hQ:∀h',Heap.ExtBut it s.heap h'->Q none {s with heap:=h'}):wpAny (model prog w) A (pyNext (.ref e)) Q E s:=by
 have hT:s.TypeIs (.ref e) "enumerate":=⟨_,he,rfl⟩
 unfold pyNext
 refine AB (wpAny_attempt (BS (name:=Str.ofString "__next__") hT Do (CP Do hT F.entry_enumerate_next ?_ (F.args_enumerate_next_1 _))))
 show wpAny _ _ (field (.ref e) 2>>=_) _ _ _
 refine AB (BZ he rfl (x:=.ref it) rfl ?_)
 refine AB (Fc hh hit hl hx λh' x he' hx'=>?_)
 obtain⟨o,ho,hc⟩:=hx'
 refine AB (wpAny_isInstance (T:="StopIteration") (b:=true) ⟨o,ho,hc⟩ isSubtype_stop ?_)
 exact AJ (hQ _ he')
end
section
variable {X : Cx} {pins : List (Addr × Obj)} {σ : St} {H : Hp} {s : Shared} {φ : Phi}
def Ite (K:PySem.W.Frag) (b:Bool) (a:Addr):L2.It :=
 ⟨λi H=>∃xs x,Sq b K H a xs/\xs[i]? = some x,
 λi H v H'=>∃p x,v=.ref p/\H p=none/\H'=upd H p (.tup [.int i,x])/\∀xs,Sq b K H a xs->xs[i]? = some x,
 λi H=>∃xs,Sq b K H a xs/\xs.length<=i⟩
theorem ud {P:Program} {w:World} {K:PySem.W.Frag} {elts:List Expr} {k:Nat} {tp:Pos} {b:Bool} {e it a:Addr} (hne:e≠it) :
  Turn P w K (.Tuple elts k tp) (Ite K b a) [e,it] e (λi h=>(∃old,IsEnum h e it i old)/\SI b h it a i) where
 mem:=by simp
 obj:=λi h ⟨⟨old,he⟩,s1⟩ c hc=>by
  simp![AL,BI,or_false]at hc
  rcases hc with rfl | rfl
  ·exact⟨_,he,λv e=>by cases e⟩
  ·obtain⟨o,e,_,d⟩:=s1.obj
   exact⟨o,e,λv q=>by rw[d]at q;cases q⟩
 keep:=λi h h' ⟨⟨old,he⟩,s1⟩ k=>⟨⟨old,k e (by simp) _ he⟩,s1.keep λo q=>k it (by simp) o q⟩
 item:=by
  intro X hP hw hK hc i pins s σ H E I hf ⟨⟨old,he⟩,s1⟩ hg
  subst hP hw hK
  obtain⟨xs,x,q1,ex⟩:=hg
  obtain⟨is1,rv1,p1,_⟩:=q1.vals I
  obtain⟨u1,hu1,ru1⟩:=rv1.get ex
  refine Cf he s1 p1 (x:=u1) (by simpa using hu1) hne λh' c1 c2 c3 kk=>⟨_,rfl,wpAny_letOwnedTupleGo_enum c1 λh'' z'' sb=>?_⟩
  have fr:H s.heap.objs.size=none:=I.hok.fresh (AH _)
  have lt:∀c∈[e,it],c≠s.heap.objs.size:=by
   intro c hc
   simp![AL,BI,or_false]at hc
   rcases hc with rfl | rfl
   ·exact AN (AG he)
   ·obtain⟨o,q,_⟩:=s1.obj;exact AN (AG q)
  have I1:Inv X pins σ (upd H s.heap.objs.size (.tup [.int i,x])) {s with heap:=s.heap.push {cls:=.type "tuple",data:=.seq #[.int i s.toks,u1]},toks:=s.toks+1} :=
   I.laid (λb u e=>AE _ e) (AH _) ⟨by show 2<=sizeLine;rw[EL];decide,[.int i s.toks,u1],.cons ⟨s.toks,rfl⟩ (.cons ru1 .nil),⟨_,AM _ rfl,rfl,rfl,_,rfl⟩⟩
  have hf':∀c∈[e,it],qp X pins (upd H s.heap.objs.size (.tup [.int i,x])) c:=λc hc=>by
   obtain⟨f0,f⟩:=hf c hc
   exact⟨by rw[aj (lt c hc)];exact f0,f⟩
  have up:∀c o,c≠e->h'.get? c=some o->h''.get? c=some o:=λc o n q=>sb.extBut _ _ n q
  have I2:=uc (s:={s with heap:=s.heap.push {cls:=.type "tuple",data:=.seq #[.int i s.toks,u1]},toks:=s.toks+1}) (h':=h'') (t':=s.toks+1) (ch:=[e,it]) I1 (λc o hc q=>by
   simp![AL,BI,or_false,not_or]at hc
   rcases Heap.get?_push_cases q with⟨rfl,rfl⟩ | q
   ·exact up _ _ hc.1 c3
   ·exact up _ _ hc.1 (kk c o hc.1 hc.2 q)) hf'
  refine⟨.ref s.heap.objs.size,_,I2,rfl,⟨_,x,rfl,fr,rfl,λzs hz'=>by rw[q1.inj I hz'];exact ex⟩,⟨⟨u1,?_⟩,c2.keep λo q=>up _ o (Ne.symm hne) q⟩,λc hc=>(hf' c hc).1⟩
  exact z''
 done:=by
  intro X hP hw hK hc i pins s σ H E I hf ⟨⟨old,he⟩,s1⟩ hg
  subst hP hw hK
  obtain⟨xs,q1,en⟩:=hg
  obtain⟨is1,rv1,p1,_⟩:=q1.vals I
  have l1:=rv1.length
  refine Fd (I.ok.hd hc) he s1 p1 (by simp;lia) λh' kk=>⟨rfl,uc I (h':=h') (t':=s.toks) (ch:=[e,it]) (λc o hc q=>?_) hf⟩
  simp![AL,BI,or_false,not_or]at hc
  exact kk c o hc.2 q
 self:=λ_ _ _ _ _ st h=>wpAny_pyIter_enum st.1.choose_spec h
theorem Cg {a:Expr} {xa:Ex} {elts:List Expr} {k:Nat} {tp:Pos} {p pos:Pos} (hg:Gl X "enumerate") (hm:X.mg "enumerate"=none) (ha:PE X a (tE X.K φ xa)) (hs:starEach [a] X.env=[(false,eval a X.env)]) :
  PI X (.Tuple elts k tp) (.Call (.Name "enumerate" p) [a] [] pos) (tI X.K φ (.enum xa)):=by
 intro pins s σv H R I ⟨ι,σ,μ,hS,hL,h⟩
 simp![evI]at h
 cases e1:evE φ xa σ μ with
 | exc _ _ _=>rw[e1]at h;exact h.elim
 | stuck=>rw[e1]at h;exact h.elim
 | ok d μ2 =>
 rw[e1]at h
 simp![Res.bp]at h
 have hq:tEs X.K φ (.cons xa .nil) σv H (λvs H1=>∃ι1,ι <+: ι1/\Ext H H1/\Sim X.K ι1 H1 μ2/\af X.K ι1 H1 [d] vs):=⟨ι,σ,μ,hS,hL,by
  simp![dj,e1,Res.bp]
  exact λι1 v H1 p1 x1 s1 d1=>⟨ι1,p1,x1,s1,d1⟩⟩
 refine Call_ (ko I hg hm PyProof.Rows.boot_enumerate (DA (thn (sh ha Bq hs pos pins s σv H _ I hq) λus s1 ⟨vs,H1,I1,r1,ι1,p1,x1,S1,d1⟩=>?_) hs rfl))
 simp![af]at d1
 obtain⟨v1,_,rfl,q1,rfl⟩:=d1
 cases r1 with
 | cons ra rr =>
 cases rr
 cases ew:bf μ2 d with
 | none=>simp![ew]at h
 | some wg =>
 obtain⟨ds,g⟩:=wg
 simp![ew]at h
 obtain⟨b1,a1,xs,rfl,sq1,ds1,st1⟩:=Cc S1 q1 ew
 cases ra
 obtain⟨i1,rv1,p1',z1⟩:=sq1.vals I1
 refine Ce p1' λh' c1 c2 kk=>?_
 refine wpAny_pyIter_enum c1 ?_
 have I2:Inv X pins σv H1 {s1 with heap:=h'}:=I1.kept (t':=s1.toks) kk
 refine⟨_,[s1.heap.objs.size+1,s1.heap.objs.size],_,_,H1,rfl,I2,ud (b:=b1) (a:=a1) (Nat.succ_ne_self _),⟨⟨_,c1⟩,c2⟩,λc hc=>?_,h ι1 H1 _ p1 x1 S1 ?_⟩
 ·have hc':s1.heap.objs.size<=c:=by
   simp![AL,BI,or_false]at hc
   rcases hc with rfl | rfl<;>first | exact AH _ | exact Nat.le_add_right _ _
  exact I1.fpOk hc' (I1.hok.fresh hc')
 ·have hlen:(((List.range ds.length).zip ds).map fun(p:Nat×D)=>D.tup [.int p.1,p.2]).length=ds.length:=by simp
  have n1:=ds1.length
  refine⟨by rw[hlen];lia,λi ι2 H2 μ3 q1 q2 q3 q4 hi=>?_,λi ι2 H2 μ3 w H3 q1 q2 q3 q4 hi hy=>?_,λι2 H2 μ3 q1 q2 q3 q4=>?_⟩
  ·rw[hlen]at hi
   obtain⟨xs',y1,y2⟩:=st1 ι2 H2 μ3 q1 q2 q3 q4
   obtain⟨v,ev,_⟩:=y2.get (AA hi)
   exact⟨xs',v,y1,ev⟩
  ·rw[hlen]at hi
   obtain⟨xs',y1,y2⟩:=st1 ι2 H2 μ3 q1 q2 q3 q4
   obtain⟨v,ev,hv⟩:=y2.get (AA hi)
   obtain⟨p,x,rfl,hp,rfl,f1⟩:=hy
   have e1':=f1 _ y1
   rw[ev]at e1';cases e1'
   have X1:Ext H2 (upd H2 p (.tup [.int i,v])):=Ext.new hp
   refine⟨X1,q3.new hp,.tup [.int i,ds[i]],by simp[EK,hi],tup_is (xs:=[.int i,v]) (.inl ?_) ?_⟩
   ·exact .inl av
   ·simp![af]
    exact⟨.int i,_,rfl,by simp[IsD],v,_,rfl,IsD.mono (AD _) X1 _ _ hv,rfl⟩
  ·obtain⟨xs',y1,y2⟩:=st1 ι2 H2 μ3 q1 q2 q3 q4
   have m1:=y2.length
   rw[hlen]
   exact⟨xs',y1,by lia⟩
theorem Ci {a:Expr} {xa:Ex} {elts:List Expr} {k:Nat} {tp:Pos} {p pos:Pos} (hm:X.mg "enumerate"=none) (ha:PE X a (tE X.K φ xa)) (hg:Gl X "enumerate":=by rfl) (hs:starEach [a] X.env=[(false,eval a X.env)]:=by rfl) :
  PI X (.Tuple elts k tp) (.Call (.Name "enumerate" p) [a] [] pos) (tI X.K φ (.enum xa)):=Cg hg hm ha hs
end
end Lp
namespace Lp.Sets
open PySem PySem.W PyProof.Rows PySem.Calls
def intOf:Value->Int
 | .int n _=>n
 | _=>0
theorem ints_of:∀{vs:List Value} {ns:List Int},IntsAre vs ns->ns=vs.map intOf/\∀v∈vs,∃n t,v=.int n t
 | _,_,.nil=>⟨rfl,λv h=>by simp at h⟩
 | _,_,.cons n t r=>by
  obtain⟨e,h⟩:=ints_of r
  refine⟨by rw[AQ,<-e];rfl,λv hv=>?_⟩
  rcases AL.mp hv with rfl | hv
  ·exact⟨n,t,rfl⟩
  ·exact h v hv
end Lp.Sets
namespace Lp
open PySem PySem.Spec PyProof.Rows L2
namespace Sets
theorem vals_ints:∀{ns:List Int} {us:List Value},ay (ns.map V.int) us->IntsAre us ns
 | [],[],_=>.nil
 | n::r,u::us,h=>by
  cases h with
  | cons h1 h2 =>
   obtain⟨t,rfl⟩:=h1
   exact .cons n t (vals_ints h2)
 | [],u::us,h=>by cases h
 | n::r,[],h=>by cases h
end Sets
theorem Cw {α:Type} {Q:α->Prop}:∀(j:Nat) e,([]:List α)[j]? = some e->Q e:=λj e h=>by simp at h
theorem c8 {α:Type} {Q:α->Prop} {a:α} {l:List α} (h:Q a) (t:∀(j:Nat) e,l[j]? = some e->Q e):∀(j:Nat) e,(a::l)[j]? = some e->Q e
 | 0,_,z=>by
  have z':some a=some _:=z
  cases z'
  exact h
 | j+1,_,z=>t j _ z
theorem PS.nox {X:Cx} {st:Stmt} {t:TS} (h:PS X.nox st t):PS X st t:=λpins s σ H D I hw=>BK (h pins s σ H D (I.wish _) hw) (λ_ _ q=>q.unwish) λ_ _ z=>False.elim z
theorem PA.nox {X:Cx} {es:List Expr} {t:TA} (h:PA X.nox es t):PA X es t:=λpos pins s σ H Q I hw=>BK (h pos pins s σ H Q (I.wish _) hw) (λ_ _ ⟨vs,H',I',r,q⟩=>⟨vs,H',I'.unwish,r,q⟩) λ_ _ z=>False.elim z
abbrev XN (K:PySem.W.Frag) (c:Str) (cls:Value):Prop:=PySem.W.nsIn K mainGlobals c=some (some cls)
theorem ue {K:PySem.W.Frag} {c:Str} {a b:Value} (h:XN K c a) (g:XN K c b):a=b:=AX (AX (Eq.trans (Eq.symm h) g))
abbrev EXK:=Value->Hp->Prop
def kc (K:PySem.W.Frag) (ι:List Addr) (H:Hp) (d:D) (μ':Sto) (Q:VK) (EX:EXK):Prop:=match xg d with
 | some (.inl d')=>∀ι' v H',ι <+: ι'->Ext H H'->Sim K ι' H' μ'->IsD K ι' H' d' v->Q v H'
 | some (.inr c)=>∀ι' cls H',ι <+: ι'->Ext H H'->Sim K ι' H' μ'->XN K c cls->EX cls H'
 | none=>False
def Cj (K:PySem.W.Frag) (ι:List Addr) (H:Hp) (r:Res D) (Q:VK) (EX:EXK):Prop:=match r with
 | .ok d μ'=>kc K ι H d μ' Q EX
 | .exc _ _ _=>False
 | .stuck=>False
def jc (K:PySem.W.Frag) (ι:List Addr) (H:Hp) (r:Res Fl) (E:Ends) (EX:EXK):Prop:=match r with
 | .ok (.nx σ') μ'=>∀ι' σv H',ι <+: ι'->Ext H H'->Sim K ι' H' μ'->fm K ι' H' σ' σv->σ'.length=σv.length->E.nx σv H'
 | .ok (.rt d) μ'=>kc K ι H d μ' E.rt EX
 | .ok (.bk _) _=>False
 | .ok (.ct _) _=>False
 | .exc _ _ _=>False
 | .stuck=>False
section
variable {K : PySem.W.Frag} {ι ι' : List Addr} {H H' : Hp} {EX : EXK} {E : Ends} {Q : VK}
theorem kc.mono {d:D} {μ:Sto} (h:kc K ι H d μ Q EX) (hp:ι <+: ι') (he:Ext H H'):kc K ι' H' d μ Q EX:=by
 revert h
 unfold kc
 cases xg d with
 | none=>exact λh=>h
 | some r=>cases r with
  | inl d'=>exact λh ι2 v H2 p e=>h ι2 v H2 (hp.trans p) (he.trans e)
  | inr c=>exact λh ι2 v H2 p e=>h ι2 v H2 (hp.trans p) (he.trans e)
theorem jc.mono {r:Res Fl} (h:jc K ι H r E EX) (hp:ι <+: ι') (he:Ext H H'):jc K ι' H' r E EX:=by
 cases r with
 | ok f μ=>cases f with
  | nx σ=>exact λι2 v H2 p e=>h ι2 v H2 (hp.trans p) (he.trans e)
  | rt d=>exact kc.mono (Q:=E.rt) h hp he
  | bk _=>exact h
  | ct _=>exact h
 | exc _ _ _=>exact h
 | stuck=>exact h
theorem jc.bind {α:Type} {x:Res α} {f:α->Sto->Res Fl} (h:jc K ι H (x.bind f) E EX):∃d μ1,x=.ok d μ1/\jc K ι H (f d μ1) E EX:=by
 cases x with
 | ok d μ=>exact⟨d,μ,rfl,h⟩
 | exc _ _ _=>exact h.elim
 | stuck=>exact h.elim
theorem jr {μ μ2:Sto} {r:Res D} {o:Option Str} (hS:Sim K ι H μ) (e:lg μ.length r=.ok o μ2)
  (h:match o with
   | none=>∀(v:V) ι' H',ι <+: ι'->Ext H H'->Sim K ι' H' μ2->Q v H'
   | some c=>∀ι' cls H',ι <+: ι'->Ext H H'->Sim K ι' H' μ2->XN K c cls->EX cls H'):Cj K ι H r Q EX:=by
 cases r with
 | exc _ _ _=>cases e
 | stuck=>cases e
 | ok d μ' =>
  show kc K ι H d μ' Q EX
  unfold kc
  simp![lg]at e
  split at e
  ·rename_i hc
   rw[<-hS.len]at hc e
   cases ed:xg d with
   | none=>rw[ed]at e;cases e
   | some r =>
    rw[ed]at e
    cases r with
    | inl d' =>
     cases e
     exact λι' v H' p x s q=>h v ι H' (AD _) x (s.cut p hc)
    | inr c =>
     cases e
     exact λι' cls H' p x s q=>h ι cls H' (AD _) x (s.cut p hc) q
  ·cases e
end
def tR1 (K:PySem.W.Frag) (φ:Phi) (EX:EXK) (x:Sm):TS:=λE σv H=>∃ι σ μ,Sim K ι H μ/\fm K ι H σ σv/\σ.length=σv.length/\jc K ι H (evS φ x σ μ) E EX
def tR (K:PySem.W.Frag) (φ:Phi) (EX:EXK) (x:Sms):TS:=λE σv H=>∃ι σ μ,Sim K ι H μ/\fm K ι H σ σv/\σ.length=σv.length/\jc K ι H (du φ x σ μ) E EX
def spX (K:PySem.W.Frag) (φ:Phi) (f:Nat):Sp:=λvs H Q E=>∃ι ds μ,Sim K ι H μ/\af K ι H ds vs/\Cj K ι H (φ f ds μ) Q λcls H'=>E cls none H'
def gb (P:Program) (w:World) (K:PySem.W.Frag) (mg:Str->Option Value) (base:Heap) (A:Around) (φ:Phi) (f:Nat) (x:Str):Prop :=
 ∃(k:Nat) (fa:Addr) (fd:FuncData) (ps:List Str),FnOk P w K mg base (CX1 P w) k fa fd ps (spX K φ f)/\Room k A/\mg x=some (.ref fa)/\PySem.W.keepIn K (.ref fa)=true/\Binds K fd ps []
def xall:List Str:=["LampError","BadBook","BadTicks","NoDeed","NoRest","BadRow"]
structure XC (K:PySem.W.Frag) (ad:Str->Addr) (c:Str):Prop where
 at_:XAt K (ad c)
 ex:PySem.W.excIn K (ad c) wq wo=true
 sub:PySem.W.subIn K (.ref (ad c)) (.ref (ad "LampError"))=some true
 val:PySem.W.kitOne K (.ref (ad c)) (.type "ValueError")=some true
 kit:∀d∈xall,PySem.W.kitOne K (.ref (ad c)) (.ref (ad d))=some (qq c d)
structure XF (K:PySem.W.Frag) (mg:Str->Option Value):Prop where
 of:∃ad:Str->Addr,(∀c∈xall,XN K c (.ref (ad c))/\mg c=some (.ref (ad c)))/\PySem.W.excIn K (ad "LampError") wq wo=true/\∀c∈xcls,XC K ad c
theorem gm {c:Str} (h:c∈xcls):c∈xall:=by
 simp![xcls,xall,AL,BI,or_false]at h ⊢
 rcases h with rfl | rfl | rfl | rfl<;>simp
section
variable {X : Cx} {φ : Phi} {e : Expr} {es : List Expr} {x : Ex} {xes : Exs} {pos cpos epos np p : Pos} {s : Stmt} {ss : List Stmt} {xs : Sm} {xss : Sms} {EX : EXK}
theorem qf:PSs X [] (tR X.K φ EX .nil) :=
 PSs.imp rb λE σv H ⟨ι,σ,μ,hS,hL,hl,h⟩=>by
  simp![du]at h
  exact h ι σv H (AD _) (.refl _) hS hL hl
theorem gn (h1:PS X s (tR1 X.K φ EX xs)) (h2:PSs X ss (tR X.K φ EX xss)):PSs X (s::ss) (tR X.K φ EX (.cons xs xss)) :=
 PSs.imp (n9 h1 h2) λE σv H ⟨ι,σ,μ,hS,hL,hl,h⟩=>by
  simp![du]at h
  refine⟨ι,σ,μ,hS,hL,hl,?_⟩
  obtain⟨f,μ1,e1,h⟩:=h.bind
  rw[e1]
  cases f with
  | nx σ'=>exact λι1 σ1 H1 p1 x1 s1 l1 z1=>⟨ι1,σ',μ1,s1,l1,z1,(show jc _ _ _ (du φ xss σ' μ1) _ _ from h).mono p1 x1⟩
  | rt d=>exact h
  | bk σ'=>exact h
  | ct σ'=>exact h
theorem Ji (h1:PS X.nox s (tS X.K φ xs)):PS X s (tR1 X.K φ EX (.pl xs)) :=
 PS.imp (PS.nox h1) λE σv H ⟨ι,σ,μ,hS,hL,hl,h⟩=>by
  simp![evS]at h
  refine⟨ι,σ,μ,hS,hL,hl,?_⟩
  obtain⟨f,μ1,e1,h⟩:=h.bind
  rw[e1]
  cases f with
  | nx σ'=>exact h
  | rt d=>exact h.elim
  | bk σ'=>exact h.elim
  | ct σ'=>exact h.elim
theorem Jj (he:PE X.nox e (tE X.K φ x)):PS X (.Return (some e) pos) (tR1 X.K φ EX (.ret (.tup (.cons (.cst (.bl true)) (.cons x .nil))))) :=
 PS.imp (yt (PE.nox he)) λE σv H ⟨ι,σ,μ,hS,hL,hl,h⟩=>by
  simp![evS,evE,dj,Res.bp,Res.bind_assoc]at h
  obtain⟨d,μ1,e1,h⟩:=h.bind
  refine⟨ι,σ,μ,hS,hL,?_⟩
  rw[e1]
  exact h
theorem Kb {c:Expr} {xc:Ex} {a b:List Stmt} {xa xb:Sms} (hc:PT X.nox c (tT X.K φ xc)) (ha:PSs X a (tR X.K φ EX xa)) (hb:PSs X b (tR X.K φ EX xb)):PS X (.If c a b pos) (tR1 X.K φ EX (.ite xc xa xb)) :=
 PS.imp (Dc (PT.nox hc) ha hb) λE σv H ⟨ι,σ,μ,hS,hL,hl,h⟩=>by
  simp![evS]at h
  obtain⟨d,μ1,e1,h⟩:=h.bind
  refine⟨ι,σ,μ,hS,hL,?_⟩
  rw[e1]
  cases d with
  | bl k =>
   intro ι1 x H1 p1 x1 s1 d1
   cases d1
   cases k with
   | true=>exact⟨ι1,σ,μ1,s1,hL.mono p1 x1,hl,(show jc _ _ _ (du φ xa σ μ1) _ _ from h).mono p1 x1⟩
   | false=>exact⟨ι1,σ,μ1,s1,hL.mono p1 x1,hl,(show jc _ _ _ (du φ xb σ μ1) _ _ from h).mono p1 x1⟩
  | _=>exact h.elim
theorem uf {c:Str} (xf:XF X.K X.mg) (W:mw X EX) (ha:PA X.nox (e::es) (tEs X.K φ xes)) (hcx:c∈xcls:=by decide) (hx:X.ex=[]:=by rfl) (hc:X.calm=true:=by rfl) (hg:Gl X c:=by rfl) (hln:xes.len<=1000:=by decide)
  (hdb:(c==("__debug__":Str))=false:=by decide) (he:starEach (e::es) X.env=(false,eval e X.env)::starEach es X.env:=by rfl) (hpl:(backTo cpos (starEach es X.env)).any (·.1)=false:=by rfl) :
  PS X (.Raise (some (.Call (.Name c np) (e::es) [] cpos)) none pos) (tR1 X.K φ EX (.raise c xes)):=by
 obtain⟨ad,h1,h2,h3⟩:=xf.of
 refine PS.imp (wt W hx hc (h3 c hcx).ex hg (h1 c (gm hcx)).2 (PA.nox ha) hdb he hpl) λD σv H ⟨ι,σ,μ,hS,hL,hl,h⟩=>?_
 simp![evS]at h
 obtain⟨ds,μ1,e1,h⟩:=h.bind
 refine⟨ι,σ,μ,hS,hL,?_⟩
 have hlen:=h7 e1
 rw[e1]
 exact λι1 vs H1 p1 x1 s1 d1=>⟨by rw[d1.length,hlen];exact DC (il hln),h ι1 (.ref (ad c)) H1 p1 x1 s1 (h1 c (gm hcx)).1⟩
theorem Ck {f:Nat} {y:Str} (W:mw X EX) (C:gb X.prog X.w X.K X.mg X.base X.A φ f y) (ha:PA X.nox (e::es) (tEs X.K φ xes)) (hx:X.ex=[]:=by rfl) (hg:Gl X y:=by rfl) (hdb:(y==("__debug__":Str))=false:=by decide)
  (he:starEach (e::es) X.env=(false,eval e X.env)::starEach es X.env:=by rfl) (hpl:(backTo cpos (starEach es X.env)).any (·.1)=false:=by rfl) (hs:swapsWith (.Call (.Name y p) (e::es) [] cpos) none pos.line X.env=pure false:=by rfl) :
  PS X (.Expr (.Call (.Name y p) (e::es) [] cpos) pos) (tR1 X.K φ EX (.callx f xes)):=by
 obtain⟨k,fa,fd,ps,F,hr,hm,hk,hb⟩:=C
 refine PS.imp (wu W hx F hr hg hm hk hb ha hdb he hpl hs) λD σv H ⟨ι,σ,μ,hS,hL,hl,h⟩=>?_
 simp![evS]at h
 obtain⟨ds,μ1,e1,h⟩:=h.bind
 obtain⟨o,μ2,e2,h⟩:=h.bind
 refine⟨ι,σ,μ,hS,hL,?_⟩
 rw[e1]
 intro ι1 vs H1 p1 x1 s1 d1
 refine⟨ι1,ds,μ1,s1,d1,jr s1 e2 ?_⟩
 cases o with
 | none=>exact λv ι2 H2 p2 x2 s2=>h ι2 σv H2 (p1.trans p2) (x1.trans x2) s2 ((hL.mono p1 x1).mono p2 x2) hl
 | some c=>exact λι2 cls H2 p2 x2 s2 hc=>h ι2 cls H2 (p1.trans p2) (x1.trans x2) s2 hc
theorem Fe {f ei:Nat} {y n:Str} {yp hp:Pos} {b0:Stmt} {body:List Stmt} (xf:XF X.K X.mg) (C:gb X.prog X.w X.K X.mg X.base X.A φ f y) (ha:PA X.nox (e::es) (tEs X.K φ xes)) (hbody:∀ev,PSs (X.mark ev) (b0::body) (tSs X.K φ xss))
  (hN:ndB X.N=true:=by rfl) (hni:X.N[ei]? = some n:=by rfl) (hkn:X.env.scope.names.lookup n=some .local:=by rfl) (hst:X.stack=X.env::X.outer:=by rfl) (hfr:X.env.frame=some X.env.locals:=by rfl) (hg:Gl X y:=by rfl) (hgL:Gl X "LampError":=by rfl) (hdb:(y==("__debug__":Str))=false:=by decide)
  (he:starEach (e::es) X.env=(false,eval e X.env)::starEach es X.env:=by rfl) (hpl:(backTo cpos (starEach es X.env)).any (·.1)=false:=by rfl) (hs:swapsWith (.Call (.Name y p) (e::es) [] cpos) none epos.line X.env=pure false:=by rfl) :
  PS X (.Try [.Expr (.Call (.Name y p) (e::es) [] cpos) epos] [.ExceptHandler (some (.Name "LampError" yp)) (some n) (b0::body) hp] [] [] pos) (tS X.K φ (.tryc f xes ei xss)):=by
 obtain⟨k,fa,fd,ps,F,hr,hm,hk,hb⟩:=C
 obtain⟨ad,h1,h2,h3⟩:=xf.of
 refine PS.imp (Bi hst hfr F hr hg hm hk hb ha hgL (h1 "LampError" (by simp[xall])).2 (ow hN) hni hkn hbody hdb he hpl hs) λD σv H ⟨ι,σ,μ,hS,hL,hl,h⟩=>?_
 simp![evS]at h
 obtain⟨ds,μ1,e1,h⟩:=h.bind
 obtain⟨o,μ2,e2,h⟩:=h.bind
 refine⟨ι,σ,μ,hS,hL,?_⟩
 rw[e1]
 intro ι1 vs H1 p1 x1 s1 d1
 refine⟨ι1,ds,μ1,s1,d1,jr s1 e2 ?_⟩
 cases o with
 | none=>exact λv ι2 H2 p2 x2 s2=>h ι2 σv H2 (p1.trans p2) (x1.trans x2) s2 ((hL.mono p1 x1).mono p2 x2) hl
 | some c =>
  intro ι2 cls H2 p2 x2 s2 hc
  simp![G6]at h
  split at h
  ·rename_i hcx
   have hmem:c∈xcls:=FT.mp hcx
   have ec:cls=.ref (ad c):=ue hc (h1 c (gm hmem)).1
   refine⟨⟨ad c,ec,(h3 c hmem).ex,h2,(h3 c hmem).sub⟩,λe he=>?_⟩
   have pp:ι2 <+: ι2++[e]:=⟨[e],rfl⟩
   have hl2:fm X.K (ι2++[e]) (upd H2 e (G4 e cls)) σ σv:=(((hL.mono p1 x1).mono p2 x2).mono pp (.new he))
   refine⟨ι2++[e],σ.set ei (some (.loc μ2.length)),μ2++[.x c],s2.push (o:=.x c) he ⟨cls,hc,av⟩,hl2.set hl ?_,by simp[hl],?_⟩
   ·simp![IsD]
    exact⟨e,rfl,by rw[<-s2.len];simp⟩
   ·obtain⟨fl,μ3,e3,h⟩:=h.bind
    rw[e3]
    cases fl with
    | nx σ' =>
     intro ι4 σv4 H4 p4 x4 s4 l4 z4
     refine h ι4 (σv4.set ei none) H4 (((p1.trans p2).trans pp).trans p4) (((x1.trans x2).trans (.new he)).trans x4) s4 (λj d ej=>?_) (by simp[z4])
     by_cases hj:ei=j
     ·subst hj
      by_cases hi:ei<σ'.length
      ·rw[BM hi]at ej;cases ej
      ·rw[DQ (by simp;lia)]at ej;cases ej
     ·rw[BA hj]at ej
      obtain⟨v,q1,q2⟩:=l4 j d ej
      exact⟨v,by rw[BA hj];exact q1,q2⟩
    | rt d=>exact h.elim
    | bk σ'=>exact h.elim
    | ct σ'=>exact h.elim
  ·exact h.elim
theorem ug {cn:Str} {v2:V} (f:∀(k:Str) (cls:Value),k∈xcls->XN X.K k cls->∃C,cls=.ref C/\XAt X.K C/\∃u,RelV v2 u/\(∀u',RelV v2 u'->u'=u)/\PySem.W.kitOne X.K (.ref C) u=some (qq k cn)) :
  bx X (.builtin "isinstance") (λxs H Q=>∃ι d μ v,xs=[v,v2]/\Sim X.K ι H μ/\IsD X.K ι H d v/\cv X.K (RD X.K) ι H (Cv (.own cn) d μ) Q):=by
 intro pins s σ H xs us Q I r ⟨ι,d,μ,v,e,hS,hd,h⟩
 subst e
 obtain⟨u,w,rfl,ru,rw'⟩:=vals2 r
 cases d with
 | loc n =>
  simp![Cv]at h
  split at h
  ·rename_i k em
   split at h
   ·rename_i hk
    obtain⟨a,ea,cls,hc,hH⟩:=hS.at em
    obtain⟨a',ev,ea'⟩:∃a,v=.ref a/\ι[n]? = some a:=by simpa[IsD]using hd
    rw[ea]at ea';cases ea'
    subst ev
    cases(show u=Value.ref a from ru)
    obtain⟨C,rfl,hat,u2,r2,uni,hkit⟩:=f k cls (FT.mp hk) hc
    cases uni w rw'
    have ob:=(I.hok a _ hH).1
    exact PySem.W.kia_one (wz hat) I.kIn ob hkit (λz=>nomatch z) λtk=>⟨.bl (qq k cn),H,I.tok tk,rfl,h.ok hS (by simp[IsD])⟩
   ·exact h.elim
  ·exact h.elim
 | _=>exact h.elim
theorem ly {cn:Str} {p cp:Pos} {a:Expr} {xa:Ex} (xf:XF X.K X.mg) (hmi:X.mg "isinstance"=none) (ha:PE X a (tE X.K φ xa)) (hcn:cn∈xall:=by decide) (hgi:Gl X "isinstance":=by rfl) (hgc:Gl X cn:=by rfl) (hd:(cn==("__debug__":Str))=false:=by decide)
  (hs:starEach [a,.Name cn cp] X.env=(false,eval a X.env)::starEach [.Name cn cp] X.env:=by rfl):PE X (.Call (.Name "isinstance" p) [a,.Name cn cp] [] pos) (tE X.K φ (.isi xa (.own cn))):=by
 obtain⟨ad,h1,h2,h3⟩:=xf.of
 have hb:PE X (.Name cn cp) (tC (.ref (ad cn))):=Av hgc (h1 cn hcn).2 rfl hd
 refine PE.imp (dn (ug (cn:=cn) (v2:=.ref (ad cn)) λk cls hk hc=>?_) hgi hmi boot_isinstance (ib ha (ib hb rl) hs) (by decide) (by decide) hs) λσv H Q ⟨ι,σ,μ,hS,hL,h⟩=>?_
 ·exact⟨ad k,ue hc (h1 k (gm hk)).1,(h3 k hk).at_,.ref (ad cn),rfl,λu' q=>q,(h3 k hk).kit cn hcn⟩
 ·simp![evE]at h
  obtain⟨d,μ1,e1,h⟩:=h.bind
  refine⟨ι,σ,μ,hS,hL,?_⟩
  rw[e1]
  exact λι1 v H1 p1 x1 s1 d1=>⟨ι1,d,μ1,v,rfl,s1,d1,h.mono p1 x1⟩
theorem Ff {p cp:Pos} {a:Expr} {xa:Ex} (xf:XF X.K X.mg) (hmi:X.mg "isinstance"=none) (hmv:X.mg "ValueError"=none) (ha:PE X a (tE X.K φ xa)) (hgi:Gl X "isinstance":=by rfl) (hgc:Gl X "ValueError":=by rfl)
  (hbc:bootBuiltins "ValueError"=some (.type "ValueError"):=by first | boot_by_name | rfl | kernel_rfl) (hs:starEach [a,.Name "ValueError" cp] X.env=(false,eval a X.env)::starEach [.Name "ValueError" cp] X.env:=by rfl) :
  PE X (.Call (.Name "isinstance" p) [a,.Name "ValueError" cp] [] pos) (tE X.K φ (.isi xa (.own "ValueError"))):=by
 obtain⟨ad,h1,h2,h3⟩:=xf.of
 have hb:PE X (.Name "ValueError" cp) (tC (.ty "ValueError")):=Aw hgc hmv hbc rfl (by decide) (by decide)
 refine PE.imp (dn (ug (cn:="ValueError") (v2:=.ty "ValueError") λk cls hk hc=>?_) hgi hmi boot_isinstance (ib ha (ib hb rl) hs) (by decide) (by decide) hs) λσv H Q ⟨ι,σ,μ,hS,hL,h⟩=>?_
 ·exact⟨ad k,ue hc (h1 k (gm hk)).1,(h3 k hk).at_,.type "ValueError",rfl,λu' q=>q,by rw[(h3 k hk).val];simp[qq]⟩
 ·simp![evE]at h
  obtain⟨d,μ1,e1,h⟩:=h.bind
  refine⟨ι,σ,μ,hS,hL,?_⟩
  rw[e1]
  exact λι1 v H1 p1 x1 s1 d1=>⟨ι1,d,μ1,v,rfl,s1,d1,h.mono p1 x1⟩
end
theorem yg {P:Program} {w:World} {K:PySem.W.Frag} {mg:Str->Option Value} {base:Heap} {x qual:Str} {st:Stmt} {fa:Addr} {fd:FuncData} {N ps:List Str} {n f:Nat} {T:List Df} {df:Df} (F:Fun K x qual st fa fd) (S:FnScope N ps (ag st))
  (hd:T[f]? = some df) (hnp:df.np=ps.length) (hnn:df.nn=N.length)
  (hb:∀(cdv:Value) (A:Around) (outer:List Env) (s:Shared) (H:Hp) (E:XK),Room n (A.deeper (envOfC qual (ag st) s.heap.objs.size fa cdv)) ->
   PSs (mj (CX1 P w) P w K mg base N qual (ag st) fa cdv A outer s H E) (cj st) (tR K (ao T n) (λcls H'=>E cls none H') df.body)):FnOk P w K mg base (CX1 P w) (n+1) fa fd ps (spX K (ao T (n+1)) f):=by
 have len:∀{vs:List V} {H:Hp} {ds:List D} {ι:List Addr} {μ:Sto} {Q:VK} {EX:EXK},af K ι H ds vs->Cj K ι H (ao T (n+1) f ds μ) Q EX->ds.length=df.np:=λ{vs H ds ι μ Q EX} hds h=>by
  simp![ao,hd,y3]at h
  split at h
  ·assumption
  ·exact h.elim
 obtain⟨oc,od,kV,doc,pm,an,cdv,ct,osl,rfl,lk,hcd⟩:=F.ex
 refine Dq lk hcd S (λvs H Q E ⟨ι,ds,μ,hS,hds,h⟩=>?_) λA outer s H vs Q E hr ⟨ι,ds,μ,hS,hds,h⟩=>⟨_,hb cdv A outer s H E hr,?_⟩
 ·rw[hds.length,len hds h,hnp]
 ·have hl:=len hds h
  refine⟨ι,ds.map some++List.replicate (df.nn-df.np) none,μ,hS,λi d e=>?_,?_,?_⟩
  ·by_cases hi:i<ds.length
   ·rw[AI (by simpa using hi),AY]at e
    cases ed:ds[i]? with
    | none=>rw[ed]at e;cases e
    | some d' =>
     rw[ed]at e
     simp![DY,AT]at e
     subst e
     obtain⟨v,ev,hv⟩:=hds.get ed
     refine⟨v,?_,hv⟩
     unfold L2.start
     rw[AI (by rw[AZ,hds.length];exact hi),AY,ev]
     rfl
   ·rw[BL (by simpa using hi),BR]at e
    split at e<;>cases e
  ·unfold L2.start
   simp![BH,AZ,DO,hds.length]
   lia
  ·simp![ao,hd,y3,if_pos hl]at h
   cases er:du (ao T n) df.body (ds.map some++List.replicate (df.nn-df.np) none) μ with
   | exc c es μ'=>rw[er]at h;exact h.elim
   | stuck=>rw[er]at h;exact h.elim
   | ok fl μ' =>
    rw[er]at h
    simp![Res.bp]at h
    cases fl with
    | nx σ'=>exact λι' σv H' p e s' l z=>h ι' .non H' p e s' (by simp[IsD])
    | rt d=>exact h
    | bk σ'=>exact h.elim
    | ct σ'=>exact h.elim
theorem yh {P:Program} {w:World} {K:PySem.W.Frag} {mg:Str->Option Value} {base:Heap} {fa:Addr} {fd:FuncData} {ps:List Str} {f:Nat} {T:List Df}:FnOk P w K mg base (CX1 P w) 0 fa fd ps (spX K (ao T 0) f) :=
 ⟨λvs H Q E ⟨ι,ds,μ,hS,hds,h⟩=>h.elim,λA outer s H args us vs Q E hr he hb hv ⟨ι,ds,μ,hS,hds,h⟩=>h.elim⟩
structure DerP (T:List Df) (P:Program) (w:World) (K:PySem.W.Frag) (mg:Str->Option Value) (base:Heap) (es xs:List Ent) (e:Ent):Prop where
 sc:FnScope e.N e.ps (ag e.st)
 tb:T[e.id]? = some e.df
 np:e.df.np=e.ps.length
 nn:e.df.nn=e.N.length
 dv:∀(n:Nat) (fa:Addr) (cdv:Value) (A:Around) (outer:List Env) (s:Shared) (H:Hp) (E:XK),(A.deeper (envOfC e.name (ag e.st) s.heap.objs.size fa cdv)).units+64<cLine ->
  (∀(j:Nat) e',es[j]? = some e'->Callee P w K mg base (A.deeper (envOfC e.name (ag e.st) s.heap.objs.size fa cdv)) (ao T n) e'.id e'.name) ->
  (∀(j:Nat) e',xs[j]? = some e'->gb P w K mg base (A.deeper (envOfC e.name (ag e.st) s.heap.objs.size fa cdv)) (ao T n) e'.id e'.name) ->
  PSs (mj CX0 P w K mg base e.N e.name (ag e.st) fa cdv A outer s H E).nox (cj e.st) (tSs K (ao T n) e.df.body)
structure DerX (T:List Df) (P:Program) (w:World) (K:PySem.W.Frag) (mg:Str->Option Value) (base:Heap) (es xs:List Ent) (e:Ent):Prop where
 sc:FnScope e.N e.ps (ag e.st)
 tb:T[e.id]? = some e.df
 np:e.df.np=e.ps.length
 nn:e.df.nn=e.N.length
 dv:∀(n:Nat) (fa:Addr) (cdv:Value) (A:Around) (outer:List Env) (s:Shared) (H:Hp) (E:XK),(A.deeper (envOfC e.name (ag e.st) s.heap.objs.size fa cdv)).units+64<cLine ->
  (∀(j:Nat) e',es[j]? = some e'->Callee P w K mg base (A.deeper (envOfC e.name (ag e.st) s.heap.objs.size fa cdv)) (ao T n) e'.id e'.name) ->
  (∀(j:Nat) e',xs[j]? = some e'->gb P w K mg base (A.deeper (envOfC e.name (ag e.st) s.heap.objs.size fa cdv)) (ao T n) e'.id e'.name) ->
  mw (mj (CX1 P w) P w K mg base e.N e.name (ag e.st) fa cdv A outer s H E) (λcls H'=>E cls none H') ->
  PSs (mj (CX1 P w) P w K mg base e.N e.name (ag e.st) fa cdv A outer s H E) (cj e.st) (tR K (ao T n) (λcls H'=>E cls none H') e.df.body)
section
variable {T : List Df} {P : Program} {w : World} {K : PySem.W.Frag} {mg : Str -> Option Value} {base : Heap} {es xs : List Ent}
theorem all2 (M:∀(j:Nat) e,es[j]? = some e->ModOf K mg e) (MX:∀(j:Nat) e,xs[j]? = some e->ModOf K mg e) (Dv:∀(j:Nat) e,es[j]? = some e->DerP T P w K mg base es xs e) (DX:∀(j:Nat) e,xs[j]? = some e->DerX T P w K mg base es xs e):∀(n:Nat),
  (∀(j:Nat) e,es[j]? = some e->∀(fa:Addr) (fd:FuncData),mg e.name=some (.ref fa)->Fun K e.name e.name e.st fa fd->FnOk P w K mg base CX0 n fa fd e.ps (spD K (ao T n) e.id)) /\
  (∀(j:Nat) e,xs[j]? = some e->∀(fa:Addr) (fd:FuncData),mg e.name=some (.ref fa)->Fun K e.name e.name e.st fa fd->FnOk P w K mg base (CX1 P w) n fa fd e.ps (spX K (ao T n) e.id))
 | 0=>⟨λj e _ fa fd _ _=>B3,λj e _ fa fd _ _=>yh⟩
 | n+1=>by
  obtain⟨ih,ihX⟩:=all2 M MX Dv DX n
  have cs:∀{A:Around},Room n A->∀(j:Nat) e',es[j]? = some e'->Callee P w K mg base A (ao T n) e'.id e'.name:=λ{A} hr i e' he'=>by
   obtain⟨fa',fd',hm',hF',hb'⟩:=(M i e' he').ex
   exact⟨n,fa',fd',e'.ps,ih i e' he' fa' fd' hm' hF',hr,hm',hF'.kp,.all hb'⟩
  have cx:∀{A:Around},Room n A->∀(j:Nat) e',xs[j]? = some e'->gb P w K mg base A (ao T n) e'.id e'.name:=λ{A} hr i e' he'=>by
   obtain⟨fa',fd',hm',hF',hb'⟩:=(MX i e' he').ex
   exact⟨n,fa',fd',e'.ps,ihX i e' he' fa' fd' hm' hF',hr,hm',hF'.kp,.all hb'⟩
  refine⟨λj e he fa fd hm hF=>?_,λj e he fa fd hm hF=>?_⟩
  ·have d:=Dv j e he
   exact B2 hF d.sc d.tb d.np d.nn λcdv A outer s H E hr=>d.dv n fa cdv A outer s H E hr.units (cs hr) (cx hr)
  ·have d:=DX j e he
   exact yg hF d.sc d.tb d.np d.nn λcdv A outer s H E hr=>d.dv n fa cdv A outer s H E hr.units (cs hr) (cx hr) wm
end
theorem yi {T:List Df} {P:Program} {w:World} {K:PySem.W.Frag} {mg:Str->Option Value} {es xs:List Ent} {n j:Nat} {e:Ent} {fa:Addr} (M:∀(j:Nat) e,es[j]? = some e->ModOf K mg e) (MX:∀(j:Nat) e,xs[j]? = some e->ModOf K mg e)
  (Dv:∀(base:Heap) (j:Nat) e,es[j]? = some e->DerP T P w K mg base es xs e) (DX:∀(base:Heap) (j:Nat) e,xs[j]? = some e->DerX T P w K mg base es xs e)
  (he:es[j]? = some e) (hfa:mg e.name=some (.ref fa)) (hps:e.ps=[("script":Str)])
  (hlaw:∀ns:List Int,ns.length<=63->∃μ',ao T n e.id [.lst (ns.map D.int)] []=.ok (.bl true) μ') :
  ∃fd:FuncData,(∀(s:Shared) (v:Value),BindsTo s fd ⟨[v],[]⟩ [("script",v)])/\∀base:Heap,K.In base->base.Ns mainGlobals mg->FnOk P w K mg base CX0 n fa fd ["script"] (yb K):=by
 obtain⟨fa',fd,hm,hF,hb⟩:=(M j e he).ex
 have z:=hfa.symm.trans hm
 cases z
 rw[hps]at hb
 refine⟨fd,λs v=>.of_eq (hb [v] rfl),λbase _ _=>?_⟩
 have q:=((all2 M MX (Dv base) (DX base) n).1 j e he fa fd hm hF).imp (sp':=yb K) λvs H Q E ⟨a,ns,ev,hS,hl,q⟩=>by
  subst ev
  obtain⟨μ',el⟩:=hlaw ns hl
  refine⟨[],[.lst (ns.map D.int)],[],⟨rfl,List.nodup_nil,λn a o e1 e2=>by simp at e1⟩,?_,?_⟩
  ·simp![af,IsD]
   exact⟨.ref a,[],rfl,⟨a,_,rfl,hS,af.ints ns⟩,rfl⟩
  ·rw[el]
   intro ι' v H' p x s' d
   have ev:v=.bl true:=by simpa[IsD]using d
   subst ev
   exact q H'
 rw[hps]at q
 exact q
section
variable {T : List Df} {P : Program} {w : World} {K : PySem.W.Frag} {mg : Str -> Option Value} {base : Heap} {es xs : List Ent} {e : Ent}
theorem yj (dv:∀(n:Nat) (fa:Addr) (cdv:Value) (A:Around) (outer:List Env) (s:Shared) (H:Hp) (E:XK),(A.deeper (envOfC e.name (ag e.st) s.heap.objs.size fa cdv)).units+64<cLine ->
  (∀(j:Nat) e',es[j]? = some e'->Callee P w K mg base (A.deeper (envOfC e.name (ag e.st) s.heap.objs.size fa cdv)) (ao T n) e'.id e'.name) ->
  (∀(j:Nat) e',xs[j]? = some e'->gb P w K mg base (A.deeper (envOfC e.name (ag e.st) s.heap.objs.size fa cdv)) (ao T n) e'.id e'.name) ->
  PSs (mj CX0 P w K mg base e.N e.name (ag e.st) fa cdv A outer s H E).nox (cj e.st) (tSs K (ao T n) e.df.body))
  (sc:FnScope e.N e.ps (ag e.st):=by exact⟨rfl,rfl,rfl,by decide +kernel,rfl,by decide +kernel,by decide +kernel⟩) (tb:T[e.id]? = some e.df:=by rfl) (np:e.df.np=e.ps.length:=by rfl) (nn:e.df.nn=e.N.length:=by rfl):DerP T P w K mg base es xs e:=⟨sc,tb,np,nn,dv⟩
theorem Kc (dv:∀(n:Nat) (fa:Addr) (cdv:Value) (A:Around) (outer:List Env) (s:Shared) (H:Hp) (E:XK),(A.deeper (envOfC e.name (ag e.st) s.heap.objs.size fa cdv)).units+64<cLine ->
  (∀(j:Nat) e',es[j]? = some e'->Callee P w K mg base (A.deeper (envOfC e.name (ag e.st) s.heap.objs.size fa cdv)) (ao T n) e'.id e'.name) ->
  (∀(j:Nat) e',xs[j]? = some e'->gb P w K mg base (A.deeper (envOfC e.name (ag e.st) s.heap.objs.size fa cdv)) (ao T n) e'.id e'.name) ->
  mw (mj (CX1 P w) P w K mg base e.N e.name (ag e.st) fa cdv A outer s H E) (λcls H'=>E cls none H') ->
  PSs (mj (CX1 P w) P w K mg base e.N e.name (ag e.st) fa cdv A outer s H E) (cj e.st) (tR K (ao T n) (λcls H'=>E cls none H') e.df.body))
  (sc:FnScope e.N e.ps (ag e.st):=by exact⟨rfl,rfl,rfl,by decide +kernel,rfl,by decide +kernel,by decide +kernel⟩) (tb:T[e.id]? = some e.df:=by rfl) (np:e.df.np=e.ps.length:=by rfl) (nn:e.df.nn=e.N.length:=by rfl):DerX T P w K mg base es xs e:=⟨sc,tb,np,nn,dv⟩
structure XQ (K:PySem.W.Frag) (aL aB aT aD aR aW a:Addr) (b1 b2 b3 b4:Bool):Prop where
 at_:XAt K a
 ex:PySem.W.excIn K a wq wo=true
 sub:PySem.W.subIn K (.ref a) (.ref aL)=some true
 val:PySem.W.kitOne K (.ref a) (.type "ValueError")=some true
 k0:PySem.W.kitOne K (.ref a) (.ref aL)=some true
 k1:PySem.W.kitOne K (.ref a) (.ref aB)=some b1
 k2:PySem.W.kitOne K (.ref a) (.ref aT)=some b2
 k3:PySem.W.kitOne K (.ref a) (.ref aD)=some b3
 k4:PySem.W.kitOne K (.ref a) (.ref aR)=some b4
 k5:PySem.W.kitOne K (.ref a) (.ref aW)=some false
theorem Jk {h:Heap} {aL aB aT aD aR aW:Addr} (X:K.In h) (G:h.Ns mainGlobals mg) (n0:PySem.W.nsIn K mainGlobals "LampError"=some (some (.ref aL))) (n1:PySem.W.nsIn K mainGlobals "BadBook"=some (some (.ref aB))) (n2:PySem.W.nsIn K mainGlobals "BadTicks"=some (some (.ref aT))) (n3:PySem.W.nsIn K mainGlobals "NoDeed"=some (some (.ref aD))) (n4:PySem.W.nsIn K mainGlobals "NoRest"=some (some (.ref aR))) (n5:PySem.W.nsIn K mainGlobals "BadRow"=some (some (.ref aW)))
  (l:PySem.W.excIn K aL wq wo=true) (c1:XQ K aL aB aT aD aR aW aB true false false false) (c2:XQ K aL aB aT aD aR aW aT false true false false) (c3:XQ K aL aB aT aD aR aW aD false false true false) (c4:XQ K aL aB aT aD aR aW aR false false false true):XF K mg:=by
 obtain⟨ad,a0,a1,a2,a3,a4,a5⟩:∃ad:Str->Addr,ad "LampError"=aL/\ad "BadBook"=aB/\ad "BadTicks"=aT/\ad "NoDeed"=aD/\ad "NoRest"=aR/\ad "BadRow"=aW :=
  ⟨λc=>if c="LampError" then aL else if c="BadBook" then aB else if c="BadTicks" then aT else if c="NoDeed" then aD else if c="NoRest" then aR else aW,if_pos rfl,(if_neg (by decide)).trans (if_pos rfl),
   (if_neg (by decide)).trans ((if_neg (by decide)).trans (if_pos rfl)),(if_neg (by decide)).trans ((if_neg (by decide)).trans ((if_neg (by decide)).trans (if_pos rfl))),
   (if_neg (by decide)).trans ((if_neg (by decide)).trans ((if_neg (by decide)).trans ((if_neg (by decide)).trans (if_pos rfl)))),(if_neg (by decide)).trans ((if_neg (by decide)).trans ((if_neg (by decide)).trans ((if_neg (by decide)).trans (if_neg (by decide)))))⟩
 subst a0;subst a1;subst a2;subst a3;subst a4;subst a5
 have one:∀(c:Str) (b1 b2 b3 b4:Bool),XQ K (ad "LampError") (ad "BadBook") (ad "BadTicks") (ad "NoDeed") (ad "NoRest") (ad "BadRow") (ad c) b1 b2 b3 b4->[qq c "LampError",qq c "BadBook",qq c "BadTicks",qq c "NoDeed",qq c "NoRest",qq c "BadRow"]=[true,b1,b2,b3,b4,false]->XC K ad c:=by
  intro c b1 b2 b3 b4 q e
  simp![List.cons.injEq,and_true]at e
  obtain⟨e0,e1,e2,e3,e4,e5⟩:=e
  refine⟨q.at_,q.ex,q.sub,q.val,λd hd=>?_⟩
  simp![xall,AL,BI,or_false]at hd
  rcases hd with rfl | rfl | rfl | rfl | rfl | rfl
  ·rw[e0];exact q.k0
  ·rw[e1];exact q.k1
  ·rw[e2];exact q.k2
  ·rw[e3];exact q.k3
  ·rw[e4];exact q.k4
  ·rw[e5];exact q.k5
 refine⟨ad,λc hc=>?_,l,λc hc=>?_⟩
 ·simp![xall,AL,BI,or_false]at hc
  rcases hc with rfl | rfl | rfl | rfl | rfl | rfl
  ·exact⟨n0,Da X G n0⟩
  ·exact⟨n1,Da X G n1⟩
  ·exact⟨n2,Da X G n2⟩
  ·exact⟨n3,Da X G n3⟩
  ·exact⟨n4,Da X G n4⟩
  ·exact⟨n5,Da X G n5⟩
 ·simp![xcls,AL,BI,or_false]at hc
  rcases hc with rfl | rfl | rfl | rfl
  ·exact one _ _ _ _ _ c1 (by decide)
  ·exact one _ _ _ _ _ c2 (by decide)
  ·exact one _ _ _ _ _ c3 (by decide)
  ·exact one _ _ _ _ _ c4 (by decide)
end
abbrev c9:Nat:=80
abbrev br:Nat:=82
abbrev bz:Nat:=83
abbrev da:Nat:=84
abbrev cq:Nat:=85
abbrev ak:Nat:=167
abbrev dy:Nat:=168
abbrev cb:Nat:=169
abbrev bh:Nat:=170
abbrev c5:Nat:=171
abbrev jd:Nat:=172
def D_spans_from:Df:=⟨4,5,(.cons (.set 4 (.bin .Add .z (.var 1) (.var 2))) (.cons (.ite (.cmp (.var 2) (.cons .eq (.cst (.int 0)) .nil)) (.cons (.ret (.lst .z .nil)) .nil) .nil) (.cons (.ite (.cmp (.var 4) (.cons .le (.var 3) .nil)) (.cons (.ret (.lst .z (.cons (.tup (.cons (.var 0) (.cons (.var 1) (.cons (.var 4) .nil)))) .nil))) .nil) .nil) (.cons (.ret (.lst .z (.cons (.tup (.cons (.var 0) (.cons (.cst (.int 0)) (.cons (.bin .Sub .z (.var 4) (.var 3)) .nil)))) (.cons (.tup (.cons (.var 0) (.cons (.var 1) (.cons (.var 3) .nil)))) .nil)))) .nil))))⟩
def D_law_cell:Df:=⟨2,2,(.cons (.ite (.cmp (.var 1) (.cons .lt (.blt .len .z (.cons (.var 0) .nil)) .nil)) (.cons (.ret (.ix (.var 0) (.var 1))) .nil) .nil) (.cons (.ret (.cst (.int 0))) .nil))⟩
def D_law_stir:Df:=⟨2,3,(.cons (.set 2 (.bin .Mod .z (.bin .Add .z (.bin .Add .z (.var 0) (.bin .Mult .z (.cst (.int 7919)) (.var 1))) (.cst (.int 101))) (.cst (.int 2147483647)))) (.cons (.set 2 (.bin .Mod .z (.bin .Mult .z (.var 2) (.var 2)) (.cst (.int 2147483647)))) (.cons (.ret (.bin .FloorDiv .z (.bin .Mod .z (.bin .Mult .z (.var 2) (.cst (.int 48271))) (.cst (.int 2147483629))) (.cst (.int 7)))) .nil)))⟩
def D_law_length:Df:=⟨1,2,(.cons (.set 1 (.call false bz (.cons (.var 0) (.cons (.cst (.int 3)) .nil)))) (.cons (.ite (.cmp (.bin .Mod .z (.var 1) (.cst (.int 6))) (.cons .eq (.cst (.int 0)) .nil)) (.cons (.ret (.bin .Sub .z (.bin .Pow .z (.cst (.int 10)) (.cst (.int 15))) (.bin .Mod .z (.bin .FloorDiv .z (.var 1) (.cst (.int 6))) (.cst (.int 3))))) .nil) .nil) (.cons (.ite (.cmp (.bin .Mod .z (.var 1) (.cst (.int 6))) (.cons .eq (.cst (.int 1)) .nil)) (.cons (.ret (.bin .Add .z (.cst (.int 1)) (.bin .Mod .z (.var 0) (.bin .Pow .z (.cst (.int 10)) (.cst (.int 15)))))) .nil) .nil) (.cons (.ret (.bin .Add .z (.cst (.int 1)) (.bin .Mod .z (.bin .FloorDiv .z (.var 1) (.cst (.int 6))) (.cst (.int 12))))) .nil))))⟩
def bc:Sms:=(.cons (.set 7 (.blt .max .z (.cons (.cst (.int 0)) (.cons (.bin .Sub .z (.var 4) (.bin .Mult .z (.bin .Sub .z (.bin .Sub .z (.var 3) (.var 6)) (.cst (.int 1))) (.var 1))) .nil)))) (.cons (.set 8 (.blt .min .z (.cons (.var 1) (.cons (.var 4) .nil)))) (.cons (.set 9 (.call false br (.cons (.var 0) (.cons (.bin .Add .z (.cst (.int 2)) (.var 6)) .nil)))) (.cons (.set 10 (.call false bz (.cons (.var 9) (.cons (.cst (.int 5)) .nil)))) (.cons (.set 11 (.bin .Add .z (.var 7) (.bin .Mod .z (.var 9) (.bin .Add .z (.bin .Sub .z (.var 8) (.var 7)) (.cst (.int 1)))))) (.cons (.ite (.cmp (.bin .Mod .z (.var 10) (.cst (.int 4))) (.cons .eq (.cst (.int 0)) .nil)) (.cons (.set 11 (.ix (.lst .z (.cons (.var 7) (.cons (.var 8) .nil))) (.bin .Mod .z (.bin .FloorDiv .z (.var 10) (.cst (.int 4))) (.cst (.int 2))))) .nil) .nil) (.cons (.ex (.meth .append (.var 5) (.cons (.var 11) .nil))) (.cons (.set 4 (.bin .Sub .z (.var 4) (.var 11))) .nil))))))))
def D_law_fitting:Df:=⟨4,12,(.cons (.set 4 (.bin .Mult .z (.var 2) (.var 1))) (.cons (.set 5 (.lst .l .nil)) (.cons (.loop (.one 6) (.rng (.var 3)) bc) (.cons (.ret (.frz 5)) .nil))))⟩
def ar:Ex:=(.not (.cmp (.cst (.int 0)) (.cons .le (.var 1) (.cons .le (.var 0) .nil))))
def D_refuse_bad_ticks_2:Df:=⟨3,3,(.cons (.ite (.blt .any .z (.cons (.comp .z [0] 1 (.one 1) (.seq (.var 2)) .nil ar) .nil)) (.cons (.raise "BadTicks" (.cons (.cst (.str (PySem.Str.ofString "a lamp burns from 0 ticks to the whole night"))) .nil)) .nil) .nil) (.cons (.ite (.cmp (.blt .sum .z (.cons (.var 2) .nil)) (.cons .ne (.bin .Mult .z (.var 1) (.var 0)) .nil)) (.cons (.raise "BadTicks" (.cons (.cst (.str (PySem.Str.ofString "all lamps together burn wanted times the length"))) .nil)) .nil) .nil) .nil))⟩
def gc:Sms:=(.cons (.ex (.meth .extend (.var 3) (.cons (.call false c9 (.cons (.var 5) (.cons (.var 4) (.cons (.var 6) (.cons (.var 0) .nil))))) .nil))) (.cons (.set 4 (.bin .Mod .z (.bin .Add .z (.var 4) (.var 6)) (.var 0))) .nil))
def D_laid_2:Df:=⟨3,7,(.cons (.callx ak (.cons (.var 0) (.cons (.var 1) (.cons (.var 2) .nil)))) (.cons (.pl (.set 3 (.lst .l .nil))) (.cons (.pl (.set 4 (.cst (.int 0)))) (.cons (.pl (.loop (.many [5,6]) (.enum (.var 2)) gc)) (.cons (.ret (.tup (.cons (.cst (.bl true)) (.cons (.blt .tuple .z (.cons (.var 3) .nil)) .nil)))) .nil)))))⟩
def D_law_spoilt_5:Df:=⟨3,7,(.cons (.set 3 (.blt .list .l (.cons (.var 0) .nil))) (.cons (.set 4 (.bin .Mod .z (.bin .FloorDiv .z (.var 2) (.cst (.int 9))) (.blt .len .z (.cons (.var 3) .nil)))) (.cons (.set 5 (.bin .Mod .z (.bin .FloorDiv .z (.var 2) (.cst (.int 81))) (.blt .len .z (.cons (.var 3) .nil)))) (.cons (.set 6 (.bin .Mod .z (.var 2) (.cst (.int 9)))) (.cons (.ite (.cmp (.var 6) (.cons .lt (.cst (.int 3)) .nil)) (.cons (.setx (.var 3) (.var 4) (.bin .Add .z (.ix (.var 3) (.var 4)) (.ix (.lst .z (.cons (.cst (.int 1)) (.cons (.neg (.cst (.int 1))) (.cons (.cst (.int 0)) .nil)))) (.var 6)))) .nil) .nil) (.cons (.ite (.or (.cmp (.var 6) (.cons .eq (.cst (.int 3)) .nil)) (.cmp (.var 6) (.cons .eq (.cst (.int 4)) .nil))) (.cons (.setx (.var 3) (.var 4) (.bin .Add .z (.bin .Add .z (.ix (.var 3) (.var 4)) (.cst (.int 1))) (.bin .Mod .z (.bin .FloorDiv .z (.var 2) (.cst (.int 700))) (.cst (.int 3))))) (.cons (.setx (.var 3) (.var 5) (.bin .Sub .z (.bin .Sub .z (.ix (.var 3) (.var 5)) (.cst (.int 1))) (.bin .Mod .z (.bin .FloorDiv .z (.var 2) (.cst (.int 700))) (.cst (.int 3))))) .nil)) .nil) (.cons (.ite (.and (.cmp (.var 6) (.cons .eq (.cst (.int 5)) .nil)) (.cmp (.var 4) (.cons .ne (.var 5) .nil))) (.cons (.setx (.var 3) (.var 5) (.bin .Sub .z (.bin .Sub .z (.bin .Add .z (.ix (.var 3) (.var 5)) (.ix (.var 3) (.var 4))) (.var 1)) (.cst (.int 1)))) (.cons (.setx (.var 3) (.var 4) (.bin .Add .z (.var 1) (.cst (.int 1)))) .nil)) .nil) (.cons (.ite (.and (.cmp (.var 6) (.cons .eq (.cst (.int 6)) .nil)) (.cmp (.var 4) (.cons .ne (.var 5) .nil))) (.cons (.setx (.var 3) (.var 5) (.bin .Add .z (.bin .Add .z (.ix (.var 3) (.var 5)) (.ix (.var 3) (.var 4))) (.cst (.int 1)))) (.cons (.setx (.var 3) (.var 4) (.neg (.cst (.int 1)))) .nil)) .nil) (.cons (.ite (.and (.cmp (.var 6) (.cons .eq (.cst (.int 7)) .nil)) (.cmp (.blt .len .z (.cons (.var 3) .nil)) (.cons .lt (.cst (.int 8)) .nil))) (.cons (.ex (.meth .append (.var 3) (.cons (.ix (.lst .z (.cons (.cst (.int 0)) (.cons (.cst (.int 1)) (.cons (.neg (.cst (.int 1))) .nil)))) (.bin .Mod .z (.bin .FloorDiv .z (.var 2) (.cst (.int 700))) (.cst (.int 3)))) .nil))) .nil) .nil) (.cons (.ite (.and (.cmp (.var 6) (.cons .eq (.cst (.int 8)) .nil)) (.cmp (.blt .len .z (.cons (.var 3) .nil)) (.cons .gt (.cst (.int 1)) .nil))) (.cons (.ex (.meth .pop (.var 3) (.cons (.var 4) .nil))) .nil) .nil) (.cons (.ret (.frz 3)) .nil)))))))))))⟩
def D_law_refused:Df:=⟨3,6,(.cons (.set 3 (.cst .non)) (.cons (.tryc dy (.cons (.var 0) (.cons (.var 1) (.cons (.var 2) .nil))) 4 (.cons (.set 3 (.var 4)) .nil)) (.cons (.ite (.cmp (.var 3) (.cons .is (.cst .non) .nil)) (.cons (.ret (.cst (.str (PySem.Str.ofString "laid")))) .nil) .nil) (.cons (.set 5 (.lst .l (.cons (.isi (.var 3) (.own "BadBook")) (.cons (.isi (.var 3) (.own "BadRow")) (.cons (.isi (.var 3) (.own "NoDeed")) .nil))))) (.cons (.ex (.meth .append (.var 5) (.cons (.isi (.var 3) (.own "NoRest")) .nil))) (.cons (.ite (.and (.isi (.var 3) (.own "BadTicks")) (.and (.isi (.var 3) (.own "ValueError")) (.cmp (.cst (.bl true)) (.cons .notin (.var 5) .nil)))) (.cons (.ret (.cst (.str (PySem.Str.ofString "refused")))) .nil) .nil) (.cons (.ret (.cst (.str (PySem.Str.ofString "odd")))) .nil)))))))⟩
def bo:Sms:=(.cons (.ite (.or (.cmp (.var 3) (.cons .lt (.cst (.int 0)) .nil)) (.cmp (.var 3) (.cons .gt (.var 0) .nil))) (.cons (.ret (.cst (.str (PySem.Str.ofString "refused")))) .nil) .nil) .nil)
def D_law_due_2:Df:=⟨3,4,(.cons (.loop (.one 3) (.seq (.var 2)) bo) (.cons (.ite (.cmp (.blt .sum .z (.cons (.var 2) .nil)) (.cons .ne (.bin .Mult .z (.var 1) (.var 0)) .nil)) (.cons (.ret (.cst (.str (PySem.Str.ofString "refused")))) .nil) .nil) (.cons (.ret (.cst (.str (PySem.Str.ofString "laid")))) .nil)))⟩
def de:Sms:=(.cons (.set 7 (.call false bz (.cons (.var 6) (.cons (.cst (.int 9)) .nil)))) (.cons (.set 8 (.call false cb (.cons (.var 5) (.cons (.var 1) (.cons (.var 7) .nil))))) (.cons (.set 9 (.var 4)) (.cons (.ite (.cmp (.bin .Mod .z (.bin .FloorDiv .z (.var 7) (.cst (.int 9000))) (.cst (.int 5))) (.cons .eq (.cst (.int 1)) .nil)) (.cons (.set 9 (.bin .Mod .z (.bin .Add .z (.bin .Add .z (.var 4) (.cst (.int 1))) (.bin .Mod .z (.bin .FloorDiv .z (.var 7) (.cst (.int 45000))) (.cst (.int 7)))) (.cst (.int 9)))) .nil) .nil) (.cons (.ite (.cmp (.call false bh (.cons (.var 1) (.cons (.var 9) (.cons (.blt .tuple .z (.cons (.var 8) .nil)) .nil)))) (.cons .ne (.call false c5 (.cons (.var 1) (.cons (.var 9) (.cons (.var 8) .nil)))) .nil)) (.cons (.ret (.cst (.bl false))) .nil) .nil) .nil)))))
def D_law_k14:Df:=⟨1,10,(.cons (.set 1 (.call false da (.cons (.call false br (.cons (.var 0) (.cons (.cst (.int 0)) .nil))) .nil))) (.cons (.set 2 (.call false bz (.cons (.call false br (.cons (.var 0) (.cons (.cst (.int 1)) .nil))) (.cons (.cst (.int 0)) .nil)))) (.cons (.set 3 (.bin .Add .z (.cst (.int 1)) (.bin .Mod .z (.var 2) (.cst (.int 8))))) (.cons (.set 4 (.bin .Mod .z (.bin .FloorDiv .z (.var 2) (.cst (.int 8))) (.bin .Add .z (.var 3) (.cst (.int 1))))) (.cons (.set 5 (.call false cq (.cons (.var 0) (.cons (.var 1) (.cons (.var 4) (.cons (.var 3) .nil)))))) (.cons (.ite (.cmp (.call false bh (.cons (.var 1) (.cons (.var 4) (.cons (.blt .tuple .z (.cons (.var 5) .nil)) .nil)))) (.cons .ne (.cst (.str (PySem.Str.ofString "laid"))) .nil)) (.cons (.ret (.cst (.bl false))) .nil) .nil) (.cons (.loop (.one 6) (.seq (.bin .Add .z (.lst .z (.cons (.cst (.int 0)) .nil)) (.sl .z (.var 0) .no (.so (.cst (.int 20)))))) de) (.cons (.ret (.cst (.bl true))) .nil))))))))⟩
def Dz:Df:=⟨0,0,.nil⟩
def GL:List Df:=[Dz,Dz,Dz,Dz,Dz,Dz,Dz,Dz,Dz,Dz,Dz,Dz,Dz,Dz,Dz,Dz,Dz,Dz,Dz,Dz,Dz,Dz,Dz,Dz,Dz,Dz,Dz,Dz,Dz,Dz,Dz,Dz,Dz,Dz,Dz,Dz,Dz,Dz,Dz,Dz,Dz,Dz,Dz,Dz,Dz,Dz,Dz,Dz,Dz,Dz,Dz,Dz,Dz,Dz,Dz,Dz,Dz,Dz,Dz,Dz,Dz,Dz,Dz,Dz,Dz,Dz,Dz,Dz,Dz,Dz,Dz,Dz,Dz,Dz,Dz,Dz,Dz,Dz,Dz,Dz,D_spans_from,Dz,D_law_cell,D_law_stir,D_law_length,D_law_fitting,Dz,Dz,Dz,Dz,Dz,Dz,Dz,Dz,Dz,Dz,Dz,Dz,Dz,Dz,Dz,Dz,Dz,Dz,Dz,Dz,Dz,Dz,Dz,Dz,Dz,Dz,Dz,Dz,Dz,Dz,Dz,Dz,Dz,Dz,Dz,Dz,Dz,Dz,Dz,Dz,Dz,Dz,Dz,Dz,Dz,Dz,Dz,Dz,Dz,Dz,Dz,Dz,Dz,Dz,Dz,Dz,Dz,Dz,Dz,Dz,Dz,Dz,Dz,Dz,Dz,Dz,Dz,Dz,Dz,Dz,Dz,Dz,Dz,Dz,Dz,Dz,Dz,Dz,Dz,Dz,Dz,D_refuse_bad_ticks_2,D_laid_2,D_law_spoilt_5,D_law_refused,D_law_due_2,D_law_k14]
theorem lz:GL[c9]? = some D_spans_from:=rfl
theorem qg:GL[br]? = some D_law_cell:=rfl
theorem qh:GL[bz]? = some D_law_stir:=rfl
theorem l0:GL[da]? = some D_law_length:=rfl
theorem kd:GL[cq]? = some D_law_fitting:=rfl
theorem fj:GL[ak]? = some D_refuse_bad_ticks_2:=rfl
theorem yk:GL[dy]? = some D_laid_2:=rfl
theorem ji:GL[cb]? = some D_law_spoilt_5:=rfl
theorem kg:GL[bh]? = some D_law_refused:=rfl
theorem nr:GL[c5]? = some D_law_due_2:=rfl
theorem uh:GL[jd]? = some D_law_k14:=rfl
end Lp
namespace Lr
open Lp
open PySem
theorem kh {f:D->Sl->Sto->Res Fl} (I:Nat->Sl->Sto->Prop):∀{ds:List D} {σ:Sl} {μ:Sto} (k:Nat),I k σ μ ->
  (∀(j:Nat) d σ μ,ds[j]? = some d->I (k+j) σ μ->∃σ' μ',f d σ μ=.ok (.nx σ') μ'/\I (k+j+1) σ' μ') ->
  ∃σ' μ',fi none f ds σ μ=.ok (.nx σ') μ'/\I (k+ds.length) σ' μ'
 | [],σ,μ,k,h,_=>⟨σ,μ,by simp[fi],h⟩
 | d::ds,σ,μ,k,h,st=>by
  obtain⟨σ1,μ1,e1,h1⟩:=st 0 d σ μ rfl h
  obtain⟨σ2,μ2,e2,h2⟩:=kh I (ds:=ds) (σ:=σ1) (μ:=μ1) (k+1) h1 λj d σ μ e i=>by
   obtain⟨σ',μ',a,b⟩:=st (j+1) d σ μ (by simpa using e) (by rw[show k+(j+1)=k+1+j by omega];exact i)
   exact⟨σ',μ',a,by rw[show k+1+j+1=k+(j+1)+1 by omega];exact b⟩
  refine⟨σ2,μ2,?_,by rw[show k+(d::ds).length=k+1+ds.length by simp;omega];exact h2⟩
  simp![fi,sf,if_true,e1,Res.bp,e2]
theorem az {T:List Df} {n i:Nat} {d:Df} {ds:List D} {μ:Sto} (h:T[i]? = some d):ao T (n+1) i ds μ=y3 (ao T n) d ds μ:=by
 simp![ao,h]
def finD (fl:Fl) (μ:Sto):Res D:=match fl with
 | .nx _=>.ok .non μ
 | .rt d=>.ok d μ
 | _=>.stuck
@[simp] theorem ui (d:D) (μ:Sto):finD (.rt d) μ=.ok d μ:=rfl
@[simp] theorem uj (σ:Sl) (μ:Sto):finD (.nx σ) μ=.ok .non μ:=rfl
theorem run_eq {φ:Phi} {f:Df} {ds:List D} {μ:Sto} (h:ds.length=f.np):y3 φ f ds μ=(du φ f.body (ds.map some++List.replicate (f.nn-f.np) none) μ).bind finD:=by
 rw[y3,if_pos h];rfl
theorem fc (b:Nat):∀(k:Nat) (d:D),D.pureN k d=true->D.belowN b k d=true
 | 0,d,h=>by cases d<;>simp_all[D.pureN,D.belowN]
 | k+1,d,h=>by
  cases d with
  | tup ds =>
   simp![D.pureN,D.belowN,AW]at h ⊢
   exact λx hx=>fc b k x (h x hx)
  | lst ds =>
   simp![D.pureN,D.belowN,AW]at h ⊢
   exact λx hx=>fc b k x (h x hx)
  | loc n=>simp[D.pureN]at h
  | _=>rfl
theorem yl {k:Nat} {ds:List D}:D.pureN (k+1) (.tup ds)=ds.all (D.pureN k):=rfl
theorem ox {k:Nat} {ds:List D}:D.pureN (k+1) (.lst ds)=ds.all (D.pureN k):=rfl
theorem l5 {k:Nat} {i:Int}:D.pureN k (.int i)=true:=by cases k<;>rfl
abbrev l6 (μ:Sto):Prop:=μ.all (dr μ.length)=true
theorem qi {d:D} {μ:Sto} {b:Nat} (hd:d.pure=true) (hb:μ.length=b) (hr:l6 μ):iu false b (.ok d μ)=.ok d μ:=by
 have e:μ.take b=μ:=CW (by omega)
 have hr':μ.all (dr b)=true:=by rw[<-hb];exact hr
 simp![iu,CK,if_false,e,fc b 8 d hd,hr',and_self,if_true]
@[simp] theorem gy {d:D} {μ:Sto} {b:Nat}:iu true b (.ok d μ)=.ok d μ:=by simp[iu]
theorem op_mul {i j:Int} {μ:Sto} (h:CMul i j):opI .Mult i j μ=.ok (.int (i*j)) μ:=by simp[opI,h]
theorem gp {i j:Int} {μ:Sto} (h:0<j) (h2:j<1073741824):opI .FloorDiv i j μ=.ok (.int (i / j)) μ:=by simp[opI,h,h2]
theorem op_mod {i j:Int} {μ:Sto} (h:0<j):opI .Mod i j μ=.ok (.int (i % j)) μ:=by simp[opI,h]
theorem op_add {i j:Int} {μ:Sto}:opI .Add i j μ=.ok (.int (i+j)) μ:=rfl
theorem op_sub {i j:Int} {μ:Sto}:opI .Sub i j μ=.ok (.int (i-j)) μ:=rfl
theorem op_pow {i:Int} {j:Int} {μ:Sto} (h:0<=j/\j<=1000000/\i.natAbs<2 ^ 64):opI .Pow i j μ=.ok (.int (i ^ j.toNat)) μ:=by simp[opI,h]
theorem op_shr {i j:Int} {μ:Sto} (h:0<=j):opI .RShift i j μ=.ok (.int (i / 2 ^ j.toNat)) μ:=by simp[opI,h]
theorem nt {op:Operator} {m:Mk} {i j:Int} {μ:Sto}:opD op m (.int i) (.int j) μ=opI op i j μ:=rfl
theorem _root_.Lp.CMul.left {i j:Int} (h:-(2 ^ 64)<i) (h2:i<2 ^ 64):CMul i j:=.inl ⟨h,h2⟩
theorem _root_.Lp.CMul.right {i j:Int} (h:-(2 ^ 64)<j) (h2:j<2 ^ 64):CMul i j:=.inr ⟨h,h2⟩
theorem l7 (ns:List Int):eh (ns.map D.int)=some ns:=by
 induction ns with
 | nil=>rfl
 | cons n r ih=>simp[eh,ih]
theorem gz (ns:List Bool):gj (ns.map D.bl)=some ns:=by
 induction ns with
 | nil=>rfl
 | cons n r ih=>simp[gj,ih]
theorem ym (i:Int):(D.int i).pure=true:=rfl
open PySem
section
variable (φ : Phi)
def Kd (o:Option (Option D)) (μ:Sto):Res D:=match o with
 | some (some d)=>.ok d μ
 | _=>.stuck
def kB (op:Operator) (m:Mk) (b:Ex) (σ:Sl) (x:D) (μ:Sto):Res D:=(evE φ b σ μ).bind (opD op m x)
def kNeg (x:D) (μ:Sto):Res D:=match x with
 | .int i=>.ok (.int (-i)) μ
 | _=>.stuck
def kNot (x:D) (μ:Sto):Res D:=match x with
 | .bl b=>.ok (.bl (!b)) μ
 | _=>.stuck
def Jl (b:Ex) (σ:Sl) (x:D) (μ:Sto):Res D:=match x with
 | .bl c=>if c=true then evE φ b σ μ else .ok (.bl false) μ
 | _=>.stuck
def kOr (b:Ex) (σ:Sl) (x:D) (μ:Sto):Res D:=match x with
 | .bl c=>if c=true then .ok (.bl true) μ else evE φ b σ μ
 | _=>.stuck
def Jm (a b:Ex) (σ:Sl) (x:D) (μ:Sto):Res D:=match x with
 | .bl c=>if c=true then evE φ a σ μ else evE φ b σ μ
 | _=>.stuck
def Ke (r:Cps) (σ:Sl) (x:D) (μ:Sto):Res D:=evC φ r x σ μ
def G9 (r:Cps) (y:D) (σ:Sl) (z:D) (μ:Sto):Res D:=match z with
 | .bl b=>if b=true then evC φ r y σ μ else .ok (.bl false) μ
 | _=>.stuck
def kCh (op:Cp) (x:D) (r:Cps) (σ:Sl) (y:D) (μ:Sto):Res D:=(cpD op x y μ).bind (G9 φ r y σ)
def ki (keep:Bool) (f:Nat) (ds:List D) (μ:Sto):Res D:=iu keep μ.length (φ f ds μ)
def kM (mt:Mt) (es:Exs) (σ:Sl) (x:D) (μ:Sto):Res D:=if ir mt x μ=true then(dj φ es σ μ).bind (mtD mt x)else .stuck
def kIx (b:Ex) (σ:Sl) (x:D) (μ:Sto):Res D:=(evE φ b σ μ).bind (ixD x)
def Jn (m:Mk) (hi:ExO) (σ:Sl) (x:D) (l:Option Int) (μ:Sto):Res D:=(evO φ hi σ μ).bind (slD m x l)
def kSl (m:Mk) (lo hi:ExO) (σ:Sl) (x:D) (μ:Sto):Res D:=(evO φ lo σ μ).bind (Jn φ m hi σ x)
def kTup (ds:List D) (μ:Sto):Res D:=.ok (.tup ds) μ
def Jo (d:D) (ds:List D) (μ:Sto):Res (List D):=.ok (d::ds) μ
def kEs (es:Exs) (σ:Sl) (d:D) (μ:Sto):Res (List D):=(dj φ es σ μ).bind (Jo d)
def kInt (x:D) (μ:Sto):Res (Option Int):=match x with
 | .int i=>.ok (some i) μ
 | _=>.stuck
def kOne (x:D) (μ:Sto):Res (List D):=.ok [x] μ
def Ha (elt:Ex) (σ:Sl) (b:Bool) (μ:Sto):Res (List D):=if b=true then(evE φ elt σ μ).bind kOne else .ok [] μ
def Kf (cs:Exs) (elt:Ex) (μ:Sto) (σ:Sl):Res (List D):=(sg φ cs σ μ).bind (Ha φ elt σ)
def Cy (tg:Tg) (cs:Exs) (elt:Ex) (σ0:Sl) (d:D) (μ:Sto):Res (List D):=fk (di tg d σ0) (Kf φ cs elt μ)
def yn (m:Mk) (tg:Tg) (cs:Exs) (elt:Ex) (σ0:Sl) (w:List D×Gd) (μ:Sto):Res D:=(mapR w.2 (Cy φ tg cs elt σ0) w.1 μ).bind (mkL m)
def kCs (es:Exs) (σ:Sl) (x:D) (μ:Sto):Res Bool:=match x with
 | .bl b=>if b=true then sg φ es σ μ else .ok false μ
 | _=>.stuck
def kSeq (x:D) (μ:Sto):Res (List D×Gd):=match bf μ x with
 | some w=>.ok w μ
 | none=>.stuck
def kRng (x:D) (μ:Sto):Res (List D×Gd):=match x with
 | .int j=>if -(lim:Int)<=j/\j<=lim then .ok ((List.range j.toNat).map fun(i:Nat)=>D.int i,none) μ else .stuck
 | _=>.stuck
def zd (x y:D) (μ:Sto):Res (List D×Gd):=match x,y with
 | .int i,.int j=>if -(lim:Int)<=i/\i<=lim/\j<=lim /\ -(lim:Int)<=j/\(j-i)<=lim then .ok ((List.range (j-i).toNat).map fun(k:Nat)=>D.int (i+k),none) μ else .stuck
 | _,_=>.stuck
def Fg (b:Ex) (σ:Sl) (x:D) (μ:Sto):Res (List D×Gd):=(evE φ b σ μ).bind (zd x)
def Fh (x y:D) (μ:Sto):Res (List D×Gd):=match bf μ x,cy [] y with
 | some w,some ys=>.ok ((w.1.zip ys).map λp=>.tup [p.1,p.2],w.2) μ
 | _,_=>.stuck
def Kg (b:Ex) (σ:Sl) (x:D) (μ:Sto):Res (List D×Gd):=(evE φ b σ μ).bind (Fh x)
def kEnum (x:D) (μ:Sto):Res (List D×Gd):=match bf μ x with
 | some w=>.ok ((List.range w.1.length |>.zip w.1).map fun(p:Nat×D)=>.tup [.int p.1,p.2],w.2) μ
 | none=>.stuck
def kVals (x:D) (μ:Sto):Res (List D×Gd):=match x with
 | .loc n=>match μ[n]? with
  | some (.d kvs)=>.ok (kvs.map (·.2),none) (μ.set n .dead)
  | _=>.stuck
 | _=>.stuck
def Kh (i:Nat) (σ:Sl) (d:D) (μ:Sto):Res Fl:=.ok (.nx (σ.set i (some d))) μ
def Jp (o:Option Sl) (μ:Sto):Res Fl:=match o with
 | some σ'=>.ok (.nx σ') μ
 | none=>.stuck
def Ki (is:List Nat) (σ:Sl) (d:D) (μ:Sto):Res Fl:=Jp (di (.many is) d σ) μ
def kNx {α:Type} (σ:Sl) (_:α) (μ:Sto):Res Fl:=.ok (.nx σ) μ
def Jq (σ:Sl) (d x:D) (y:D) (μ:Sto):Res Fl:=(qr x y d μ).bind (kNx σ)
def Jr (i:Ex) (σ:Sl) (d:D) (x:D) (μ:Sto):Res Fl:=(evE φ i σ μ).bind (Jq σ d x)
def kSx (o i:Ex) (σ:Sl) (d:D) (μ:Sto):Res Fl:=(evE φ o σ μ).bind (Jr φ i σ d)
def kIf (a b:Sms) (σ:Sl) (x:D) (μ:Sto):Res Fl:=match x with
 | .bl k=>if k=true then du φ a σ μ else du φ b σ μ
 | _=>.stuck
def kLp (b:Sms) (μ:Sto) (σ:Sl):Res Fl:=du φ b σ μ
def fLp (tg:Tg) (b:Sms) (d:D) (σ:Sl) (μ:Sto):Res Fl:=fk (di tg d σ) (kLp φ b μ)
def jk (tg:Tg) (b:Sms) (σ:Sl) (w:List D×Gd) (μ:Sto):Res Fl:=fi w.2 (fLp φ tg b) w.1 σ μ
def kRet (d:D) (μ:Sto):Res Fl:=.ok (.rt d) μ
def kSs (r:Sms) (fl:Fl) (μ:Sto):Res Fl:=match fl with
 | .nx σ'=>du φ r σ' μ
 | fl=>.ok fl μ
end
section
variable {φ : Phi} {σ : Sl} {μ : Sto} {a b c e o i : Ex} {es : Exs} {m : Mk} {op : Operator} {r : Cps} {s : Sm} {rs : Sms}
theorem Fi {i:Nat}:evE φ (.var i) σ μ=Kd σ[i]? μ:=rfl
theorem Fj {d:D}:evE φ (.cst d) σ μ=.ok d μ:=rfl
theorem Fk:evE φ (.bin op m a b) σ μ=(evE φ a σ μ).bind (kB φ op m b σ):=rfl
theorem Fm:evE φ (.neg a) σ μ=(evE φ a σ μ).bind kNeg:=rfl
theorem Fn:evE φ (.not a) σ μ=(evE φ a σ μ).bind kNot:=rfl
theorem Fo:evE φ (.and a b) σ μ=(evE φ a σ μ).bind (Jl φ b σ):=rfl
theorem Kj:evE φ (.or a b) σ μ=(evE φ a σ μ).bind (kOr φ b σ):=rfl
theorem Fp:evE φ (.ite c a b) σ μ=(evE φ c σ μ).bind (Jm φ a b σ):=rfl
theorem Fq:evE φ (.cmp a r) σ μ=(evE φ a σ μ).bind (Ke φ r σ):=rfl
theorem yo {α:Type} (x:Res α):(x.bind λa μ=>.ok a μ)=x:=by cases x<;>rfl
theorem Fs {op:Cp} {x:D}:evC φ (.cons op e .nil) x σ μ=(evE φ e σ μ).bind (cpD op x):=by
 simp![evC,yo]
theorem ze {op op':Cp} {x:D} {e':Ex}:evC φ (.cons op e (.cons op' e' r)) x σ μ=(evE φ e σ μ).bind (kCh φ op x (.cons op' e' r) σ):=by
 rw[evC]
 all_goals rfl
theorem zf {keep:Bool} {f:Nat}:evE φ (.call keep f es) σ μ=(dj φ es σ μ).bind (ki φ keep f):=rfl
theorem Ft {b:Bt}:evE φ (.blt b m es) σ μ=(dj φ es σ μ).bind (btD b m):=rfl
theorem Fu {c:Cl}:evE φ (.isi a c) σ μ=(evE φ a σ μ).bind (Cv c):=rfl
theorem zg {mt:Mt}:evE φ (.meth mt o es) σ μ=(evE φ o σ μ).bind (kM φ mt es σ):=rfl
theorem Kk:evE φ (.ix a b) σ μ=(evE φ a σ μ).bind (kIx φ b σ):=rfl
theorem Kl {lo hi:ExO}:evE φ (.sl m a lo hi) σ μ=(evE φ a σ μ).bind (kSl φ m lo hi σ):=rfl
theorem Fv:evE φ (.tup es) σ μ=(dj φ es σ μ).bind kTup:=rfl
theorem Fw:evE φ (.lst m es) σ μ=(dj φ es σ μ).bind (mkL m):=rfl
theorem Fx {t:Bool}:evE φ (.dic t es) σ μ=(dj φ es σ μ).bind (J8 t):=rfl
theorem zh {cap:List Nat} {nl:Nat} {tg:Tg} {it:It} {cs:Exs} {elt:Ex}:evE φ (.comp m cap nl tg it cs elt) σ μ=(evI φ it σ μ).bind (yn φ m tg cs elt (cap.map (λi=>(σ[i]?).getD none)++List.replicate nl none)):=rfl
theorem zi:dj φ .nil σ μ=.ok [] μ:=rfl
theorem uk:dj φ (.cons e es) σ μ=(evE φ e σ μ).bind (kEs φ es σ):=rfl
theorem Km:evO φ .no σ μ=.ok none μ:=rfl
theorem Kn:evO φ (.so e) σ μ=(evE φ e σ μ).bind kInt:=rfl
theorem zj:sg φ .nil σ μ=.ok true μ:=rfl
theorem um:sg φ (.cons e es) σ μ=(evE φ e σ μ).bind (kCs φ es σ):=rfl
theorem Fy:evI φ (.seq e) σ μ=(evE φ e σ μ).bind kSeq:=rfl
theorem Fz:evI φ (.rng e) σ μ=(evE φ e σ μ).bind kRng:=rfl
theorem zk:evI φ (.rng2 a b) σ μ=(evE φ a σ μ).bind (Fg φ b σ):=rfl
theorem F0:evI φ (.zip a b) σ μ=(evE φ a σ μ).bind (Kg φ b σ):=rfl
theorem zl:evI φ (.enum a) σ μ=(evE φ a σ μ).bind kEnum:=rfl
theorem zm:evI φ (.vals a) σ μ=(evE φ a σ μ).bind kVals:=rfl
theorem F3 {i:Nat}:evS φ (.set i e) σ μ=(evE φ e σ μ).bind (Kh i σ):=rfl
theorem F4 {is:List Nat}:evS φ (.unp is e) σ μ=(evE φ e σ μ).bind (Ki is σ):=rfl
theorem zo:evS φ (.setx o i e) σ μ=(evE φ e σ μ).bind (kSx φ o i σ):=rfl
theorem Ko:evS φ (.ex e) σ μ=(evE φ e σ μ).bind (kNx σ):=rfl
theorem F5 {x y:Sms}:evS φ (.ite c x y) σ μ=(evE φ c σ μ).bind (kIf φ x y σ):=rfl
theorem zp {tg:Tg} {it:It} {b:Sms}:evS φ (.loop tg it b) σ μ=(evI φ it σ μ).bind (jk φ tg b σ):=rfl
theorem F6:evS φ (.ret e) σ μ=(evE φ e σ μ).bind kRet:=rfl
theorem zq:evS φ .pass σ μ=.ok (.nx σ) μ:=rfl
theorem F7:evS φ .brk σ μ=.ok (.bk σ) μ:=rfl
theorem zr:evS φ .cont σ μ=.ok (.ct σ) μ:=rfl
theorem zt:du φ .nil σ μ=.ok (.nx σ) μ:=rfl
theorem uo:du φ (.cons s rs) σ μ=(evS φ s σ μ).bind (kSs φ rs):=rfl
theorem cc {f:Nat} {ds:List D} {d:D} {μ':Sto} (h:φ f ds μ=.ok d μ') (hd:d.pure=true) (hl:μ'.length=μ.length) (hr:l6 μ'):ki φ false f ds μ=.ok d μ':=by
 rw[ki,h,qi hd hl hr]
theorem Js {mt:Mt} {x:D} (h:ir mt x μ=true):kM φ mt es σ x μ=(dj φ es σ μ).bind (mtD mt x):=by rw[kM,if_pos h]
theorem l8 {d:D}:Kd (some (some d)) μ=.ok d μ:=rfl
theorem oy {i:Int}:kNeg (.int i) μ=.ok (.int (-i)) μ:=rfl
theorem uq {b:Bool}:kNot (.bl b) μ=.ok (.bl (!b)) μ:=rfl
theorem zu {b:Ex}:Jl φ b σ (.bl true) μ=evE φ b σ μ:=rfl
theorem zv {b:Ex}:Jl φ b σ (.bl false) μ=.ok (.bl false) μ:=rfl
theorem F8 {b:Ex}:kOr φ b σ (.bl true) μ=.ok (.bl true) μ:=rfl
theorem F9 {b:Ex}:kOr φ b σ (.bl false) μ=evE φ b σ μ:=rfl
theorem zw:Jm φ a b σ (.bl true) μ=evE φ a σ μ:=rfl
theorem zx:Jm φ a b σ (.bl false) μ=evE φ b σ μ:=rfl
theorem zy {y:D}:G9 φ r y σ (.bl true) μ=evC φ r y σ μ:=rfl
theorem zz {y:D}:G9 φ r y σ (.bl false) μ=.ok (.bl false) μ:=rfl
theorem Ga:kCs φ es σ (.bl true) μ=sg φ es σ μ:=rfl
theorem Gb:kCs φ es σ (.bl false) μ=.ok false μ:=rfl
theorem z5 {elt:Ex}:Ha φ elt σ true μ=(evE φ elt σ μ).bind kOne:=rfl
theorem z6 {elt:Ex}:Ha φ elt σ false μ=.ok [] μ:=rfl
theorem oz {i:Int}:kInt (.int i) μ=.ok (some i) μ:=rfl
theorem Gc {x y:Sms}:kIf φ x y σ (.bl true) μ=du φ x σ μ:=rfl
theorem Ge {x y:Sms}:kIf φ x y σ (.bl false) μ=du φ y σ μ:=rfl
theorem z7 {σ':Sl}:kSs φ rs (.nx σ') μ=du φ rs σ' μ:=rfl
theorem z8 {d:D}:kSs φ rs (.rt d) μ=.ok (.rt d) μ:=rfl
theorem z9 {σ':Sl}:kSs φ rs (.bk σ') μ=.ok (.bk σ') μ:=rfl
theorem Aa {σ':Sl}:kSs φ rs (.ct σ') μ=.ok (.ct σ') μ:=rfl
theorem l9 {σ':Sl}:Jp (some σ') μ=.ok (.nx σ') μ:=rfl
theorem o1 {ds:List D}:kSeq (.tup ds) μ=.ok (ds,none) μ:=rfl
theorem o3 {ds:List D}:kSeq (.lst ds) μ=.ok (ds,none) μ:=rfl
theorem Cm {j:Int} (h:-1000000<=j/\j<=1000000):kRng (.int j) μ=.ok ((List.range j.toNat).map fun(i:Nat)=>D.int i,none) μ:=by
 have:=ip
 simp![kRng]
 rw[if_pos ⟨by lia,by lia⟩]
theorem yq {n:Nat} (h:n<=1000000):kRng (.int n) μ=.ok ((List.range n).map fun(i:Nat)=>D.int i,none) μ:=by
 rw[Cm ⟨by lia,by lia⟩,DM]
theorem ma {i:Nat} {d:D}:di (.one i) d σ=some (σ.set i (some d)):=rfl
theorem Gf {i j:Int}:cpD .lt (.int i) (.int j) μ=.ok (.bl (decide (i<j))) μ:=rfl
theorem Gg {i j:Int}:cpD .le (.int i) (.int j) μ=.ok (.bl (decide (i<=j))) μ:=rfl
theorem Gh {i j:Int}:cpD .gt (.int i) (.int j) μ=.ok (.bl (decide (j<i))) μ:=rfl
theorem Gi {i j:Int}:cpD .ge (.int i) (.int j) μ=.ok (.bl (decide (j<=i))) μ:=rfl
theorem Ab {i j:Int}:cpD .eq (.int i) (.int j) μ=.ok (.bl (decide (i=j))) μ:=rfl
theorem Gj {x y:D} (hx:x.pure=true) (hy:y.pure=true):cpD .ne x y μ=.ok (.bl (!deq x y)) μ:=by simp[cpD,hx,hy]
theorem Ac {i j:Int}:cpD .ne (.int i) (.int j) μ=.ok (.bl (!decide (i=j))) μ:=Gj rfl rfl
theorem Ad {i j:Bool}:cpD .ne (.bl i) (.bl j) μ=.ok (.bl (!(i==j))) μ:=Gj rfl rfl
theorem bt_len {x:D} {xs:List D} (h:cy μ x=some xs):btD .len m [x] μ=.ok (.int xs.length) μ:=by simp[btD,seq1,h]
theorem bt_tuple {x:D} {xs:List D} (h:cy μ x=some xs):btD .tuple m [x] μ=.ok (.tup xs) μ:=by simp[btD,seq1,h]
theorem bt_list {x:D} {xs:List D} (h:cy μ x=some xs):btD .list m [x] μ=mkL m xs μ:=by simp[btD,seq1,h]
theorem bt_sum {x:D} {xs:List D} {ns:List Int} (h:cy μ x=some xs) (h2:eh xs=some ns):btD .sum m [x] μ=.ok (.int ns.sum) μ:=by simp[btD,Cu,h,h2]
theorem bt_any {x:D} {xs:List D} {ns:List Bool} (h:cy μ x=some xs) (h2:gj xs=some ns):btD .any m [x] μ=.ok (.bl (ns.any id)) μ:=by simp[btD,se,h,h2]
theorem bt_min {i j:Int}:btD .min m [.int i,.int j] μ=.ok (.int (min i j)) μ:=by
 simp![btD,minD]
 congr 2
 split<;>lia
theorem bt_max {i j:Int}:btD .max m [.int i,.int j] μ=.ok (.int (max i j)) μ:=by
 simp![btD,maxD]
 congr 2
 split<;>lia
theorem ur {ds:List D}:cy μ (.tup ds)=some ds:=rfl
theorem bu {ds:List D}:cy μ (.lst ds)=some ds:=rfl
theorem g0 {ds:List D}:mkL .z ds μ=.ok (.lst ds) μ:=rfl
theorem Ae {x:D} {xs:List D} {k:Nat} {d:D} (h:cy μ x=some xs) (hd:xs[k]? = some d):ixD x (.int k) μ=.ok d μ:=by
 have hk:k<xs.length:=(AF.mp hd).1
 have e:ixN xs.length (k:Int)=some k:=by simp[ixN,hk]
 simp![ixD,h,e,hd]
theorem uu {i j:Nat} {a b:D}:di (.many [i,j]) (.tup [a,b]) σ=some ((σ.set i (some a)).set j (some b)):=rfl
theorem uv {i j k:Nat} {a b c:D}:di (.many [i,j,k]) (.tup [a,b,c]) σ=some (((σ.set i (some a)).set j (some b)).set k (some c)):=rfl
theorem uw {i j k l:Nat} {a b c d:D}:di (.many [i,j,k,l]) (.tup [a,b,c,d]) σ=some ((((σ.set i (some a)).set j (some b)).set k (some c)).set l (some d)):=rfl
theorem ux {i j k l m:Nat} {a b c d e:D}:di (.many [i,j,k,l,m]) (.tup [a,b,c,d,e]) σ=some (((((σ.set i (some a)).set j (some b)).set k (some c)).set l (some d)).set m (some e)):=rfl
theorem Co {α:Type} {xs:List α} {en:α->D} {k:Nat} {a:α} (h:xs[k]? = some a):ixD (.lst (xs.map en)) (.int k) μ=.ok (en a) μ:=Ae bu (by rw[AY,h];rfl)
theorem Cq {α:Type} {tg:Tg} {b:Sms} {xs:List α} {en:α->D} (I:Nat->Sl->Prop) (h0:I 0 σ) (st:∀(k:Nat) a σ,xs[k]? = some a->I k σ->∃σ',fLp φ tg b (en a) σ μ=.ok (.nx σ') μ/\I (k+1) σ') :
  ∃σ',jk φ tg b σ (xs.map en,none) μ=.ok (.nx σ') μ/\I xs.length σ':=by
 obtain⟨σ',μ',e,rfl,i⟩:=kh (f:=fLp φ tg b) (λk σ μ'=>μ'=μ/\I k σ) (ds:=xs.map en) (σ:=σ) (μ:=μ) 0 ⟨rfl,h0⟩ λj d σ μ' e ⟨q,i⟩=>by
  subst q
  rw[AY]at e
  cases ex:xs[j]? with
  | none=>rw[ex]at e;cases e
  | some a =>
   rw[ex]at e
   cases e
   obtain⟨σ',e',i'⟩:=st j a σ ex (by simpa using i)
   exact⟨σ',_,e',rfl,by simpa using i'⟩
 exact⟨σ',e,by simpa using i⟩
theorem comp_map {α:Type} {tg:Tg} {cs:Exs} {elt:Ex} {σ0:Sl} {xs:List α} {en:α->D} {g:α->D} (h:∀a∈xs,Cy φ tg cs elt σ0 (en a) μ=.ok [g a] μ):yn φ m tg cs elt σ0 (xs.map en,none) μ=mkL m (xs.map g) μ:=by
 have e:mapR none (Cy φ tg cs elt σ0) (xs.map en) μ=.ok (xs.map g) μ:=by
  induction xs with
  | nil=>simp[mapR]
  | cons a r ih =>
   simp![AQ,mapR,sf,if_true,h a BF,Res.bp,ih λx hx=>h x (AO _ hx)]
   rfl
 rw[yn]
 show(mapR none _ (xs.map en) μ).bind _=_
 rw[e];rfl
def many {S α:Type} (G:S->α×S):Nat->S->List α×S
 | 0,s=>([],s)
 | n+1,s=>((G s).1::(many G n (G s).2).1,(many G n (G s).2).2)
theorem Gk {x:D}:kB φ op m b σ x μ=(evE φ b σ μ).bind (opD op m x):=rfl
theorem uy {x:D}:Ke φ r σ x μ=evC φ r x σ μ:=rfl
theorem Af {o:Cp} {x y:D}:kCh φ o x r σ y μ=(cpD o x y μ).bind (G9 φ r y σ):=rfl
theorem Ag {x:D}:kIx φ b σ x μ=(evE φ b σ μ).bind (ixD x):=rfl
theorem uz {hi:ExO} {x:D} {l:Option Int}:Jn φ m hi σ x l μ=(evO φ hi σ μ).bind (slD m x l):=rfl
theorem Ah {lo hi:ExO} {x:D}:kSl φ m lo hi σ x μ=(evO φ lo σ μ).bind (Jn φ m hi σ x):=rfl
theorem u0 {ds:List D}:kTup ds μ=.ok (.tup ds) μ:=rfl
theorem u3 {d:D} {ds:List D}:Jo d ds μ=.ok (d::ds) μ:=rfl
theorem Ai {d:D}:kEs φ es σ d μ=(dj φ es σ μ).bind (Jo d):=rfl
theorem u4 {x:D}:kOne x μ=.ok [x] μ:=rfl
theorem u5 {cs:Exs} {elt:Ex}:Kf φ cs elt μ σ=(sg φ cs σ μ).bind (Ha φ elt σ):=rfl
theorem o4 {x:D}:Fg φ b σ x μ=(evE φ b σ μ).bind (zd x):=rfl
theorem u6 {x:D}:Kg φ b σ x μ=(evE φ b σ μ).bind (Fh x):=rfl
theorem u7 {i:Nat} {d:D}:Kh i σ d μ=.ok (.nx (σ.set i (some d))) μ:=rfl
theorem u9 {is:List Nat} {d:D}:Ki is σ d μ=Jp (di (.many is) d σ) μ:=rfl
theorem vc {d:D}:kNx σ d μ=.ok (.nx σ) μ:=rfl
theorem vd {d:Unit}:kNx σ d μ=.ok (.nx σ) μ:=rfl
theorem ve {d x y:D}:Jq σ d x y μ=(qr x y d μ).bind (kNx σ):=rfl
theorem vf {i:Ex} {d x:D}:Jr φ i σ d x μ=(evE φ i σ μ).bind (Jq σ d x):=rfl
theorem Aj {o i:Ex} {d:D}:kSx φ o i σ d μ=(evE φ o σ μ).bind (Jr φ i σ d):=rfl
theorem Ak {b:Sms}:kLp φ b μ σ=du φ b σ μ:=rfl
theorem vg {d:D}:kRet d μ=.ok (.rt d) μ:=rfl
theorem o5 {n:Nat}:List.replicate (n+1) (none:Option D)=none::List.replicate n none:=rfl
theorem o6:List.replicate 0 (none:Option D)=[]:=rfl
end
section
variable {φ : Phi} {σ : Sl} {μ : Sto}
def Kp (φ:Phi) (b:Ex) (σ:Sl) (x:D) (μ:Sto):Res D:=(evE φ b σ μ).bind (Ih x)
def Hb (σ:Sl) (x y z:D) (μ:Sto):Res Fl:=(qr x y z μ).bind (kNx σ)
def Hc (op:Operator) (σ:Sl) (x y old d:D) (μ:Sto):Res Fl:=(J7 op old d μ).bind (Hb σ x y)
def Jt (φ:Phi) (op:Operator) (e:Ex) (σ:Sl) (x y old:D) (μ:Sto):Res Fl:=(evE φ e σ μ).bind (Hc op σ x y old)
def Ju (φ:Phi) (op:Operator) (e:Ex) (σ:Sl) (x y:D) (μ:Sto):Res Fl:=(ixL x y μ).bind (Jt φ op e σ x y)
def Kq (φ:Phi) (op:Operator) (i e:Ex) (σ:Sl) (x:D) (μ:Sto):Res Fl:=(evE φ i σ μ).bind (Ju φ op e σ x)
theorem Gm {a b:Ex}:evE φ (.dix a b) σ μ=(evE φ a σ μ).bind (Kp φ b σ):=rfl
theorem vh {b:Ex} {x:D}:Kp φ b σ x μ=(evE φ b σ μ).bind (Ih x):=rfl
theorem Al {op:Operator} {o i e:Ex}:evS φ (.augx op o i e) σ μ=(evE φ o σ μ).bind (Kq φ op i e σ):=rfl
theorem vi {op:Operator} {i e:Ex} {x:D}:Kq φ op i e σ x μ=(evE φ i σ μ).bind (Ju φ op e σ x):=rfl
theorem vj {op:Operator} {e:Ex} {x y:D}:Ju φ op e σ x y μ=(ixL x y μ).bind (Jt φ op e σ x y):=rfl
theorem vk {op:Operator} {e:Ex} {x y old:D}:Jt φ op e σ x y old μ=(evE φ e σ μ).bind (Hc op σ x y old):=rfl
theorem o7 {x y:D} {i j:Int}:Hc .Add σ x y (.int i) (.int j) μ=Hb σ x y (.int (i+j)) μ:=rfl
theorem o8 {x y:D} {i j:Int}:Hc .Sub σ x y (.int i) (.int j) μ=Hb σ x y (.int (i-j)) μ:=rfl
theorem vm {x y z:D}:Hb σ x y z μ=(qr x y z μ).bind (kNx σ):=rfl
end
section
variable {μ : Sto}
theorem Kr {α β:Type} (a:α) (f:α->Sto->Res β):(Res.ok a μ).bind f=f a μ:=rfl
theorem Ks {α β:Type} (a:α) (k:α->Res β):fk (some a) k=k a:=rfl
theorem L5 (d:D):finD (.rt d) μ=.ok d μ:=rfl
theorem L6 (σ:Sl):finD (.nx σ) μ=.ok .non μ:=rfl
theorem L7 {α β:Type} (f:α->β) (a:α) (l:List α):(a::l).map f=f a::l.map f:=rfl
theorem L8 {α β:Type} (f:α->β):([]:List α).map f=[]:=rfl
theorem L9 {α:Type} (a:α) (l m:List α):a::l++m=a::(l++m):=rfl
theorem Mb {α:Type} (m:List α):[]++m=m:=rfl
theorem Mc {α:Type} (a:α) (l:List α):(a::l)[0]? = some a:=rfl
theorem Md {α:Type} (a:α) (l:List α) (i:Nat):(a::l)[i+1]? = l[i]?:=rfl
theorem Me {α:Type} (a b:α) (l:List α):(a::l).set 0 b=b::l:=rfl
theorem Mf {α:Type} (a b:α) (l:List α) (i:Nat):(a::l).set (i+1) b=a::l.set i b:=rfl
theorem Mg {α:Type} (a b:α):(some a).getD b=a:=rfl
theorem Mh {op:Operator} {m:Mk} {i j:Int}:opD op m (.int i) (.int j) μ=opI op i j μ:=nt
theorem Mi {i j:Int}:opI .Add i j μ=.ok (.int (i+j)) μ:=op_add
theorem Mj {i j:Int}:opI .Sub i j μ=.ok (.int (i-j)) μ:=op_sub
theorem Ml {d:D} {b:Nat}:iu true b (.ok d μ)=.ok d μ:=gy
end
theorem EV1:type_of% (@Fi)/\type_of% (@Fj)/\type_of% (@Fk)/\type_of% (@Fm)/\type_of% (@Fn)/\type_of% (@Fo)/\type_of% (@Kj)/\type_of% (@Fp)/\type_of% (@Fq)/\type_of% (@Fs)/\type_of% (@ze)/\type_of% (@zf)/\type_of% (@Ft)/\type_of% (@Fu)/\type_of% (@zg)/\type_of% (@Kk)/\type_of% (@Kl)/\type_of% (@Fv)/\type_of% (@Fw)/\type_of% (@Fx)/\type_of% (@zh)/\type_of% (@zi)/\type_of% (@uk)/\type_of% (@Km)/\type_of% (@Kn)/\type_of% (@zj)/\type_of% (@um)/\type_of% (@Fy)/\type_of% (@Fz)/\type_of% (@zk)/\type_of% (@F0)/\type_of% (@zl):=⟨@Fi,@Fj,@Fk,@Fm,@Fn,@Fo,@Kj,@Fp,@Fq,@Fs,@ze,@zf,@Ft,@Fu,@zg,@Kk,@Kl,@Fv,@Fw,@Fx,@zh,@zi,@uk,@Km,@Kn,@zj,@um,@Fy,@Fz,@zk,@F0,@zl⟩
theorem EV2:type_of% (@zm)/\type_of% (@F3)/\type_of% (@F4)/\type_of% (@zo)/\type_of% (@Ko)/\type_of% (@F5)/\type_of% (@zp)/\type_of% (@F6)/\type_of% (@zq)/\type_of% (@F7)/\type_of% (@zr)/\type_of% (@zt)/\type_of% (@uo)/\type_of% (@l8)/\type_of% (@Gk)/\type_of% (@oy)/\type_of% (@uq)/\type_of% (@zu)/\type_of% (@zv)/\type_of% (@F8)/\type_of% (@F9)/\type_of% (@zw)/\type_of% (@zx)/\type_of% (@uy)/\type_of% (@zy)/\type_of% (@zz)/\type_of% (@Af)/\type_of% (@Ag)/\type_of% (@Ah)/\type_of% (@uz)/\type_of% (@u0)/\type_of% (@Ai):=⟨@zm,@F3,@F4,@zo,@Ko,@F5,@zp,@F6,@zq,@F7,@zr,@zt,@uo,@l8,@Gk,@oy,@uq,@zu,@zv,@F8,@F9,@zw,@zx,@uy,@zy,@zz,@Af,@Ag,@Ah,@uz,@u0,@Ai⟩
theorem EV3:type_of% (@u3)/\type_of% (@oz)/\type_of% (@u4)/\type_of% (@z5)/\type_of% (@z6)/\type_of% (@u5)/\type_of% (@Ga)/\type_of% (@Gb)/\type_of% (@o1)/\type_of% (@o3)/\type_of% (@o4)/\type_of% (@u6)/\type_of% (@u7)/\type_of% (@u9)/\type_of% (@l9)/\type_of% (@vc)/\type_of% (@vd)/\type_of% (@Aj)/\type_of% (@vf)/\type_of% (@ve)/\type_of% (@Gc)/\type_of% (@Ge)/\type_of% (@Ak)/\type_of% (@vg)/\type_of% (@z7)/\type_of% (@z8)/\type_of% (@z9)/\type_of% (@Aa)/\type_of% (@Res.bp)/\type_of% (@fo)/\type_of% (@ma)/\type_of% (@uu):=⟨@u3,@oz,@u4,@z5,@z6,@u5,@Ga,@Gb,@o1,@o3,@o4,@u6,@u7,@u9,@l9,@vc,@vd,@Aj,@vf,@ve,@Gc,@Ge,@Ak,@vg,@z7,@z8,@z9,@Aa,@Res.bp,@fo,@ma,@uu⟩
theorem EV4:type_of% (@uv)/\type_of% (@uw)/\type_of% (@ux)/\type_of% (@nt)/\type_of% (@op_add)/\type_of% (@op_sub)/\type_of% (@Gf)/\type_of% (@Gg)/\type_of% (@Gh)/\type_of% (@Gi)/\type_of% (@Ab)/\type_of% (@Ac)/\type_of% (@Ad)/\type_of% (@bt_min)/\type_of% (@bt_max)/\type_of% (@g0)/\type_of% (@ui)/\type_of% (@uj)/\type_of% (@AQ.{0,0})/\type_of% (@CI.{0,0})/\type_of% (@o5)/\type_of% (@o6)/\type_of% (@CB.{0})/\type_of% (@DZ.{0})/\type_of% (@FC.{0})/\type_of% (@FD.{0})/\type_of% (@EG.{0})/\type_of% (@EH.{0})/\type_of% (@FA.{0})/\type_of% (@gy):=⟨@uv,@uw,@ux,@nt,@op_add,@op_sub,@Gf,@Gg,@Gh,@Gi,@Ab,@Ac,@Ad,@bt_min,@bt_max,@g0,@ui,@uj,@AQ.{0,0},@CI.{0,0},@o5,@o6,@CB.{0},@DZ.{0},@FC.{0},@FD.{0},@EG.{0},@EH.{0},@FA.{0},@gy⟩
theorem EV5:type_of% (@Gm)/\type_of% (@vh)/\type_of% (@Al)/\type_of% (@vi)/\type_of% (@vj)/\type_of% (@vk)/\type_of% (@o7)/\type_of% (@o8)/\type_of% (@vm):=⟨@Gm,@vh,@Al,@vi,@vj,@vk,@o7,@o8,@vm⟩
end Lr
local macro_rules | `(tactic| simp! only [$ls,*]) => do
  let mut a := ls.getElems
  for s in "Fi Fj Fk Fm Fn Fo Kj Fp Fq Fs ze zf Ft Fu zg Kk Kl Fv Fw Fx zh zi uk Km Kn zj um Fy Fz zk F0 zl zm F3 F4 zo Ko F5 zp F6 zq F7 zr zt uo l8 oy uq zu zv F8 F9 zw zx zy zz Ga Gb z5 z6 oz Gc Ge z7 z8 z9 Aa l9 o1 o3 ma Gf Gg Gh Gi Ab Ac Ad bt_min bt_max g0 uu uv uw ux Gk uy Af Ag uz Ah u0 u3 Ai u4 u5 o4 u6 u7 u9 vc vd ve vf Aj Ak vg o5 o6 Gm vh Al vi vj vk o7 o8 vm Kr Ks L5 L6 L7 L8 L9 Mb Mc Md Me Mf Mg Mh Mi Mj Ml Nat.reduceSub decide_true decide_false Bool.not_true Bool.not_false".splitOn " " do
    a := a.push ⟨(<- `(Lean.Parser.Tactic.simpLemma| $(Lean.mkIdent ((s.splitOn ".").foldl Lean.Name.mkStr .anonymous)):ident)).raw⟩
  `(tactic| simp only [$a,*])
namespace Lr
open Lp
open PySem
def Lf (cs:List Int):O:=.l (cs.reverse.map D.int)
@[simp] theorem Kt (cs:List Int):noR (Lf cs)=true:=rfl
open PySem
def dz (ns:List Int):D:=.tup (ns.map D.int)
section
variable {n : Nat} {μ ρ : Sto}
theorem p15:opI .Pow 10 15 μ=.ok (.int (10 ^ 15)) μ:=op_pow (by decide)
end
open PySem
section
variable {n : Nat} {μ ρ : Sto} {m : Mk} {φ : Phi} {σ : Sl} {es : Exs}
theorem fg {f:Nat} {ds:List D} {d:D} (h:φ f ds μ=.ok d (μ++ρ)) (hd:d.pure=true) (hr:l6 μ):ki φ false f ds μ=.ok d μ:=by
 rw[ki,h]
 have e:(μ++ρ).take μ.length=μ:=by simp
 have hr':μ.all (dr μ.length)=true:=hr
 simp![iu,CK,if_false,e,fc _ 8 d hd,hr',and_self,if_true]
theorem eu {o:O}:(μ++[o])[μ.length]? = some o:=by simp
theorem fh {o o':O}:(μ++[o]).set μ.length o'=μ++[o']:=by simp
theorem L3 {ds:List D} (h:ds.all (D.pureN 8)=true):mkL .l ds μ=.ok (.loc μ.length) (μ++[.l ds]):=by simp![mkL,h,if_true]
theorem h9 {ds:List D}:cy (μ++[.l ds]) (.loc μ.length)=some ds:=by simp![cy,eu]
theorem nu {mt:Mt} {ds:List D} (h:∀d μ,ir mt d μ=(Lp.listOf μ d).isSome):kM φ mt es σ (.loc μ.length) (μ++[.l ds])=(dj φ es σ (μ++[.l ds])).bind (mtD mt (.loc μ.length)):=by
 refine Js ?_
 rw[h]
 simp![Lp.listOf,eu];rfl
theorem md {ds:List D}:kM φ .append es σ (.loc μ.length) (μ++[.l ds])=(dj φ es σ (μ++[.l ds])).bind (mtD .append (.loc μ.length)):=nu λ_ _=>rfl
theorem vn {ds:List D} {d:D} (hd:d.pure=true) (hl:ds.length<1000000):mtD .append (.loc μ.length) [d] (μ++[.l ds])=.ok .non (μ++[.l (ds++[d])]):=by
 have:=ip
 simp![mtD,p9,eu,d5,mtL,oo,fits,hd,putL,fh]
 rw[if_pos ⟨trivial,by lia⟩]
theorem vo {α:Type} {tg:Tg} {b:Sms} {xs:List α} {en:α->D} (I:Nat->Sl->Sto->Prop) (h0:I 0 σ μ) (st:∀(k:Nat) a σ μ,xs[k]? = some a->I k σ μ->∃σ' μ',fLp φ tg b (en a) σ μ=.ok (.nx σ') μ'/\I (k+1) σ' μ') :
  ∃σ' μ',jk φ tg b σ (xs.map en,none) μ=.ok (.nx σ') μ'/\I xs.length σ' μ':=by
 obtain⟨σ',μ',e,i⟩:=kh (f:=fLp φ tg b) I (ds:=xs.map en) (σ:=σ) (μ:=μ) 0 h0 λj d σ μ' e i=>by
  rw[AY]at e
  cases ex:xs[j]? with
  | none=>rw[ex]at e;cases e
  | some a =>
   rw[ex]at e
   cases e
   obtain⟨σ',μ'',e',i'⟩:=st j a σ μ' ex (by simpa using i)
   exact⟨σ',μ'',e',by simpa using i'⟩
 exact⟨σ',μ',e,by simpa using i⟩
end
open PySem
def sq (b:Bool) (ds:List D):D:=match b with
 | true=>.lst ds
 | false=>.tup ds
open PySem
def gf (c k:Int):Int :=
 let near:=((c+7919*k+101) % 2147483647)*((c+7919*k+101) % 2147483647) % 2147483647
 near*48271 % 2147483629 / 7
def e9 (c:Int):Int:=if gf c 3 % 6=0 then 10 ^ 15-gf c 3 / 6 % 3 else if gf c 3 % 6=1 then 1+c % 10 ^ 15 else 1+gf c 3 / 6 % 12
theorem qj (c:Int):1<=e9 c/\e9 c<=10 ^ 15:=by
 unfold e9
 split
 ·lia
 ·split<;>lia
section
variable {n : Nat} {μ ρ : Sto}
theorem nv (ns:List Int) (k:Nat):ao GL (n+1) br [.lst (ns.map D.int),.int k] μ=.ok (.int (ns.getD k 0)) μ:=by
 rw[az qg,run_eq rfl]
 by_cases h:k<ns.length
 ·have h':(k:Int)<(ns.length:Nat):=by lia
  have e:ns[k]? = some ns[k]:=AA h
  have e2:ns.getD k 0=ns[k]:=by rw[BD,e];rfl
  simp! only[D_law_cell,bt_len bu,AZ,h',Co e,e2]
 ·have h':¬(k:Int)<(ns.length:Nat):=by lia
  have e2:ns.getD k 0=0:=by rw[BD,DQ (by lia)];rfl
  simp! only[D_law_cell,bt_len bu,AZ,h',e2]
theorem kj (c k:Int):ao GL (n+1) bz [.int c,.int k] μ=.ok (.int (gf c k)) μ:=by
 rw[az qh,run_eq rfl]
 have a1:(0:Int)<=(c+7919*k+101) % 2147483647:=CG _ (by decide)
 have a2:(c+7919*k+101) % 2147483647<2147483647:=BQ _ (by decide)
 have hm:CMul ((c+7919*k+101) % 2147483647) ((c+7919*k+101) % 2147483647):=.left (by lia) (by lia)
 have hm0:∀x,CMul 7919 x:=λx=>.left (by decide) (by decide)
 have hm1:∀x,CMul x 48271:=λx=>.right (by decide) (by decide)
 simp! only[D_law_stir,op_mul (hm0 k),op_mod (show(0:Int)<2147483647 by decide),op_mul hm,op_mul (hm1 _),op_mod (show(0:Int)<2147483629 by decide),gp (show(0:Int)<7 by decide) (by decide),gf]
theorem vp (hr:l6 μ) (c:Int):ao GL (n+2) da [.int c] μ=.ok (.int (e9 c)) μ:=by
 rw[az l0,run_eq rfl]
 have e:=cc (kj (n:=n) (μ:=μ) c 3) rfl rfl hr
 have m6:opI .Mod (gf c 3) 6 μ=.ok (.int (gf c 3 % 6)) μ:=op_mod (by decide)
 have d6:opI .FloorDiv (gf c 3) 6 μ=.ok (.int (gf c 3 / 6)) μ:=gp (by decide) (by decide)
 by_cases h0:gf c 3 % 6=0
 ·simp! only[D_law_length,e,m6,h0,p15,d6,op_mod (show(0:Int)<3 by decide),e9,if_true]
 ·by_cases h1:gf c 3 % 6=1
  ·have hp:(0:Int)<10 ^ 15:=by decide
   simp! only[D_law_length,e,m6,h0,h1,p15,op_mod hp,e9,if_true,if_false,Int.reduceEq]
  ·simp! only[D_law_length,e,m6,h0,h1,d6,op_mod (show(0:Int)<12 by decide),e9,if_false]
structure Span where
 lamp:Int
 start:Int
 fin:Int
def g4 (s:Span):D:=.tup [.int s.lamp,.int s.start,.int s.fin]
def bw (k st much L:Int):List Span:=if much=0 then []else if st+much<=L then [⟨k,st,st+much⟩]else [⟨k,0,st+much-L⟩,⟨k,st,L⟩]
theorem me {k:Nat} (s:Span):D.pureN (k+1) (g4 s)=true:=by simp![g4,yl,BN,List.all_nil,Bool.and_true,l5]
theorem qk (ss:List Span):(D.lst (ss.map g4)).pure=true:=by
 simp![D.pure,ox,FJ,AW]
 exact λs _=>me s
theorem mf (k st much L:Int):ao GL (n+1) c9 [.int k,.int st,.int much,.int L] μ=.ok (.lst ((bw k st much L).map g4)) μ:=by
 rw[az lz,run_eq rfl]
 by_cases h0:much=0
 ·subst h0
  simp! only[D_spans_from,g0,bw,if_true,CI]
 ·by_cases h1:st+much<=L
  ·simp! only[D_spans_from,h0,h1,g0,bw,if_true,if_false,AQ,CI,g4]
  ·simp! only[D_spans_from,h0,h1,g0,bw,if_false,AQ,CI,g4]
structure Fit (L:Int) (ts:List Int) (w:Int):Prop where
 each:∀t∈ts,0<=t/\t<=L
 all:ts.sum=w*L
end
open PySem
def ck (L:Int):List Int->Int->Int->List Span
 | [],_,_=>[]
 | t::r,k,st=>bw k st t L++ck L r (k+1) ((st+t) % L)
def o9 (L:Int):List Int->Int->Int
 | [],st=>st
 | t::r,st=>o9 L r ((st+t) % L)
theorem je (L:Int):∀(xs:List Int) (t k st:Int),ck L (xs++[t]) k st=ck L xs k st++bw (k+xs.length) (o9 L xs st) t L
 | [],t,k,st=>by simp[ck,o9]
 | x::r,t,k,st=>by
  rw[CB,ck,je L r,ck,o9,List.append_assoc,AV]
  congr 3
  lia
theorem mh (L:Int):∀(xs:List Int) (t st:Int),o9 L (xs++[t]) st=(o9 L xs st+t) % L
 | [],t,st=>rfl
 | x::r,t,st=>by rw[CB,o9,mh L r,o9]
theorem gq (k st t L:Int):(bw k st t L).length<=2:=by
 unfold bw
 split
 ·simp
 ·split<;>simp
theorem jt (L:Int):∀(xs:List Int) (k st:Int),(ck L xs k st).length<=2*xs.length
 | [],_,_=>by simp[ck]
 | x::r,k,st=>by
  have:=jt L r (k+1) ((st+x) % L)
  have:=gq k st x L
  simp![ck,BH,AV];lia
theorem km {b c:Nat} (h:b<=c):∀(k:Nat) (d:D),D.belowN b k d=true->D.belowN c k d=true
 | 0,d,e=>by cases d<;>simp_all[D.belowN];lia
 | k+1,d,e=>by
  cases d with
  | tup ds =>
   simp![D.belowN,AW]at e ⊢
   exact λx hx=>km h k x (e x hx)
  | lst ds =>
   simp![D.belowN,AW]at e ⊢
   exact λx hx=>km h k x (e x hx)
  | loc n=>simp_all[D.belowN];lia
  | _=>rfl
section
variable {n : Nat} {μ ρ : Sto} {φ : Phi} {es : Exs} {σ : Sl}
theorem Gn {ds:List D}:kM φ .extend es σ (.loc μ.length) (μ++[.l ds])=(dj φ es σ (μ++[.l ds])).bind (mtD .extend (.loc μ.length)):=nu λ_ _=>rfl
theorem Gp {ds ys:List D} (hd:ys.all D.pure=true) (hl:ds.length+ys.length<=1000000):mtD .extend (.loc μ.length) [.lst ys] (μ++[.l ds])=.ok .non (μ++[.l (ds++ys)]):=by
 have:=ip
 have hf:ys.all (fits (.l ds))=true:=hd
 simp![mtD,p9,eu,d5,mtL,oo,Lp.listOf,hf,putL,fh]
 rw[if_pos ⟨trivial,by lia⟩]
theorem Am (hr:l6 μ) (ds:List D):l6 (μ++[.l ds]):=by
 unfold l6 at hr ⊢
 rw[AW]at hr ⊢
 intro o ho
 rcases CY.mp ho with h | h
 ·have:=hr o h
  cases o with
  | r xs =>
   simp![dr,AW]at this ⊢
   exact λx hx=>km (by simp) 8 x (this x hx)
  | _=>rfl
 ·simp![CT]at h
  subst h;rfl
end
open PySem
section
variable {n : Nat} {μ ρ : Sto} {φ : Phi} {σ : Sl}
theorem Gq {i:Nat} {k:Nat} {ds:List D} (h:σ[i]? = some (some (.loc k))) (h2:μ[k]? = some (.l ds)):evE φ (.frz i) σ μ=.ok (.lst ds) (μ.set k .dead):=by simp![evE,h,h2]
theorem qm (hr:l6 μ) (ns:List Int) {L w:Int} {lamps:Nat} (hL:1<=L) (hL2:L<=10 ^ 15) (hw:0<=w/\w<=lamps) (hl:lamps<=8) :
  ∃ts,Fit L ts w/\ts.length=lamps/\ao GL (n+2) cq [.lst (ns.map D.int),.int L,.int w,.int lamps] μ=.ok (.lst (ts.map D.int)) (μ++[.dead]):=by
 rw[az kd,run_eq rfl]
 have hm:CMul w L:=.left (by omega) (by omega)
 obtain⟨σ',μ',el,ts,rest,v6,v7,v8,v9,v10,v11,rfl,rfl,h1,h2,h3,h4,h5⟩:=vo (φ:=ao GL (n+1)) (μ:=μ++[.l []]) (tg:=.one 6) (b:=bc) (xs:=List.range lamps) (en:=fun(k:Nat)=>D.int k)
  (σ:=[some (.lst (ns.map D.int)),some (.int L),some (.int w),some (.int lamps),some (.int (w*L)),some (.loc μ.length),none,none,none,none,none,none])
  (λj σ μ'=>∃ts rest v6 v7 v8 v9 v10 v11,σ=[some (.lst (ns.map D.int)),some (.int L),some (.int w),some (.int lamps),some (.int rest),some (.loc μ.length),v6,v7,v8,v9,v10,v11]/\μ'=μ++[.l (ts.map D.int)] /\
   ts.length=j/\(∀t∈ts,0<=t/\t<=L)/\ts.sum+rest=w*L/\0<=rest/\rest<=((lamps:Int)-j)*L)
  ⟨[],w*L,none,none,none,none,none,none,rfl,rfl,rfl,by simp,by simp,Int.mul_nonneg hw.1 (by omega),by simpa using Int.mul_le_mul_of_nonneg_right hw.2 (show 0<=L by omega)⟩ (by
   rintro j k σ μ' hk ⟨ts,rest,v6,v7,v8,v9,v10,v11,rfl,rfl,h1,h2,h3,h4,h5⟩
   obtain⟨hj,hj2⟩:=AF.mp hk
   simp![ES]at hj
   simp![List.getElem_range]at hj2
   subst hj2
   have hS:=Am hr (ts.map D.int)
   have cm:CMul ((lamps:Int)-(j:Nat)-1) L:=.left (by omega) (by omega)
   have hP:0<=((lamps:Int)-(j:Nat)-1)*L:=Int.mul_nonneg (by omega) (by omega)
   have hP2:((lamps:Int)-(j:Nat))*L=((lamps:Int)-(j:Nat)-1)*L+L:=by rw[Int.sub_mul _ 1];omega
   have hP3:((lamps:Int)-((j+1:Nat):Int))*L=((lamps:Int)-(j:Nat)-1)*L:=by congr 1;omega
   rw[hP2]at h5
   generalize eP:((lamps:Int)-(j:Nat)-1)*L=P at hP hP2 hP3 h5
   generalize hlow:max 0 (rest-P)=low
   generalize hhigh:min L rest=high
   have ec:(2:Int)+(j:Nat)=((2+j:Nat):Int):=by omega
   generalize hc:ns.getD (2+j) 0=c
   have k1:=cc (nv (n:=n) (μ:=μ++[.l (ts.map D.int)]) ns (2+j)) rfl rfl hS
   rw[hc]at k1
   have k2:=cc (kj (n:=n) (μ:=μ++[.l (ts.map D.int)]) c 5) rfl rfl hS
   generalize gf c 5=z at k2
   have m4:∀μ,opI .Mod z 4 μ=.ok (.int (z % 4)) μ:=λμ=>op_mod (by decide)
   have d4:∀μ,opI .FloorDiv z 4 μ=.ok (.int (z / 4)) μ:=λμ=>gp (by decide) (by decide)
   have m2:∀μ,opI .Mod (z / 4) 2 μ=.ok (.int (z / 4 % 2)) μ:=λμ=>op_mod (by decide)
   have mc:∀μ,opI .Mod c (high-low+1) μ=.ok (.int (c % (high-low+1))) μ:=λμ=>op_mod (by omega)
   have q1:0<=c % (high-low+1):=CG _ (by omega)
   have q2:c % (high-low+1)<high-low+1:=BQ _ (by omega)
   have app:∀t:Int,mtD .append (.loc μ.length) [.int t] (μ++[.l (ts.map D.int)])=.ok .non (μ++[.l ((ts++[t]).map D.int)]):=λt=>by
    rw[vn rfl (by simp;omega)];simp
   have fin:∀t:Int,low<=t->t<=high->(ts++[t]).length=j+1/\(∀x∈ts++[t],0<=x/\x<=L)/\(ts++[t]).sum+(rest-t)=w*L/\0<=rest-t/\rest-t<=P:=λt a b=>by
    refine⟨by simp[h1],λx hx=>?_,by simp;omega,by omega,by omega⟩
    rcases CY.mp hx with hx | hx
    ·exact h2 x hx
    ·simp![CT]at hx
     omega
   rw[hP3]
   by_cases hz:z % 4=0
   ·by_cases hb:z / 4 % 2=0
    ·have ix:∀μ,ixD (.lst [.int low,.int high]) (.int 0) μ=.ok (.int low) μ:=λμ=>rfl
     refine⟨_,μ++[.l ((ts++[low]).map D.int)],?_,ts++[low],rest-low,some (.int j),some (.int low),some (.int high),some (.int c),some (.int z),some (.int low),rfl,rfl,fin low (by omega) (by omega)⟩
     simp! only[fLp,bc,op_mul cm,eP,hlow,hhigh,ec,k1,k2,mc,m4,hz,d4,m2,hb,g0,ix,md,app]
    ·have hb':z / 4 % 2=1:=by omega
     have ix:∀μ,ixD (.lst [.int low,.int high]) (.int 1) μ=.ok (.int high) μ:=λμ=>rfl
     refine⟨_,μ++[.l ((ts++[high]).map D.int)],?_,ts++[high],rest-high,some (.int j),some (.int low),some (.int high),some (.int c),some (.int z),some (.int high),rfl,rfl,fin high (by omega) (by omega)⟩
     simp! only[fLp,bc,op_mul cm,eP,hlow,hhigh,ec,k1,k2,mc,m4,hz,d4,m2,hb',g0,ix,md,app]
   ·refine⟨_,μ++[.l ((ts++[low+c % (high-low+1)]).map D.int)],?_,ts++[low+c % (high-low+1)],rest-(low+c % (high-low+1)),some (.int j),some (.int low),some (.int high),some (.int c),some (.int z),some (.int (low+c % (high-low+1))),rfl,rfl,fin _ (by omega) (by omega)⟩
    simp! only[fLp,bc,op_mul cm,eP,hlow,hhigh,ec,k1,k2,mc,m4,hz,md,app])
 rw[ES]at h1 h5
 have e0:rest=0:=by
  have:((lamps:Int)-(lamps:Nat))*L=0:=by rw[Int.sub_self,Int.zero_mul]
  omega
 refine⟨ts,⟨h2,by omega⟩,h1,?_⟩
 have m0:mkL .l [] μ=.ok (.loc μ.length) (μ++[.l []]):=rfl
 have ef:∀{a b c d e v6 v7 v8 v9 v10 v11:Option D},evE (ao GL (n+1)) (.frz 5) [a,b,c,d,e,some (.loc μ.length),v6,v7,v8,v9,v10,v11] (μ++[.l (ts.map D.int)])=.ok (.lst (ts.map D.int)) (μ++[.dead]):=by
  intros
  rw[Gq rfl eu,fh]
 simp! only[D_law_fitting,op_mul hm,m0,yq (show lamps<=1000000 by omega),el,ef]
end
open PySem
section
variable {φ : Phi} {σ : Sl} {μ ρ : Sto}
def kRs (c:Str) (_:List D) (μ:Sto):Res Fl:=.ok (.rt (.tup [.bl false,.str c])) μ
def kCx (φ:Phi) (f:Nat) (σ:Sl) (ds:List D) (μ:Sto):Res Fl:=(lg μ.length (φ f ds μ)).bind (kTh σ)
def kTc (φ:Phi) (f:Nat) (σ:Sl) (ei:Nat) (h:Sms) (ds:List D) (μ:Sto):Res Fl:=(lg μ.length (φ f ds μ)).bind (G6 σ ei λσ μ=>du φ h σ μ)
theorem vq {c:Str} {es:Exs}:evS φ (.raise c es) σ μ=(dj φ es σ μ).bind (kRs c):=rfl
theorem An {c:Str} {ds:List D}:kRs c ds μ=.ok (.rt (.tup [.bl false,.str c])) μ:=rfl
theorem L4 {s:Sm}:evS φ (.pl s) σ μ=(evS φ s σ μ).bind kPl:=rfl
theorem Gr:kPl (.nx σ) μ=.ok (.nx σ) μ:=rfl
theorem vt {f:Nat} {es:Exs}:evS φ (.callx f es) σ μ=(dj φ es σ μ).bind (kCx φ f σ):=rfl
theorem Ao {f ei:Nat} {es:Exs} {h:Sms}:evS φ (.tryc f es ei h) σ μ=(dj φ es σ μ).bind (kTc φ f σ ei h):=rfl
theorem pd {f:Nat} {ds:List D} {d:D} {r:Sum D Str} (e:φ f ds μ=.ok d (μ++ρ)) (hd:xg d=some r) (hr:l6 μ):lg μ.length (φ f ds μ)=.ok (match r with | .inl _=>none | .inr c=>some c) μ:=by
 have t:(μ++ρ).take μ.length=μ:=by simp
 have hr':μ.all (dr μ.length)=true:=hr
 rw[e]
 simp![lg,t,hr',if_true,hd]
 cases r<;>rfl
theorem Gs {f:Nat} {ds:List D} {d d':D} (e:φ f ds μ=.ok d (μ++ρ)) (hd:xg d=some (.inl d')) (hr:l6 μ):kCx φ f σ ds μ=.ok (.nx σ) μ:=by rw[kCx,pd e hd hr];rfl
theorem Gu {f:Nat} {ds:List D} {d:D} {c:Str} (e:φ f ds μ=.ok d (μ++ρ)) (hd:xg d=some (.inr c)) (hr:l6 μ):kCx φ f σ ds μ=.ok (.rt (.tup [.bl false,.str c])) μ:=by rw[kCx,pd e hd hr];rfl
theorem Gv {f ei:Nat} {h:Sms} {ds:List D} {d d':D} (e:φ f ds μ=.ok d (μ++ρ)) (hd:xg d=some (.inl d')) (hr:l6 μ):kTc φ f σ ei h ds μ=.ok (.nx σ) μ:=by rw[kTc,pd e hd hr];rfl
theorem Gw {f ei:Nat} {h:Sms} {ds:List D} {d:D} {c:Str} (e:φ f ds μ=.ok d (μ++ρ)) (hd:xg d=some (.inr c)) (hr:l6 μ) (hc:xcls.contains c=true) :
  kTc φ f σ ei h ds μ=(du φ h (σ.set ei (some (.loc μ.length))) (μ++[.x c])).bind (kGo ei):=by
 rw[kTc,pd e hd hr]
 simp![Res.bp,G6,hc,if_true]
theorem Gx {ei:Nat}:kGo ei (.nx σ) μ=.ok (.nx (σ.set ei none)) μ:=rfl
end
theorem mi {α:Type} {φ:Phi} {μ:Sto} {tg:Tg} {b:Sms} {en:α->D} {v:D} (I:Sl->Prop) (P:α->Prop):∀{xs:List α} {σ:Sl},I σ->(∀a∈xs,∀σ,I σ->(¬P a->∃σ',fLp φ tg b (en a) σ μ=.ok (.nx σ') μ/\I σ')/\(P a->fLp φ tg b (en a) σ μ=.ok (.rt v) μ)) ->
  ((∀a∈xs,¬P a)->∃σ',jk φ tg b σ (xs.map en,none) μ=.ok (.nx σ') μ/\I σ')/\((¬∀a∈xs,¬P a)->jk φ tg b σ (xs.map en,none) μ=.ok (.rt v) μ)
 | [],σ,h,_=>⟨λ_=>⟨σ,by simp[jk,fi],h⟩,λe=>by simp at e⟩
 | a::r,σ,h,st=>by
  have s:=st a BF σ h
  have kl:∀σ,jk φ tg b σ ((a::r).map en,none) μ=(fLp φ tg b (en a) σ μ).bind λfl μ1=>match fl with
   | .nx σ1=>jk φ tg b σ1 (r.map en,none) μ1
   | .ct σ1=>jk φ tg b σ1 (r.map en,none) μ1
   | .bk σ1=>.ok (.nx σ1) μ1
   | .rt v=>.ok (.rt v) μ1:=λσ=>by
    simp![jk,AQ,fi]
    rw[if_pos (show gd none μ from trivial)]
    all_goals congr 1
  by_cases p:P a
  ·exact⟨λq=>absurd p (q a BF),λ_=>by rw[kl,s.2 p];rfl⟩
  ·obtain⟨σ1,e1,i1⟩:=s.1 p
   have ih:=mi I P (xs:=r) (σ:=σ1) i1 λx hx=>st x (AO _ hx)
   refine⟨λq=>?_,λq=>?_⟩
   ·rw[kl,e1];exact ih.1 λx hx=>q x (AO _ hx)
   ·rw[kl,e1]
    refine ih.2 λz=>q λx hx=>?_
    rcases AL.mp hx with rfl | hx
    ·exact p
    ·exact z x hx
section
variable {n : Nat} {μ ρ : Sto} {φ : Phi} {es : Exs} {σ : Sl}
def xT:D:=.tup [.bl false,.str "BadTicks"]
theorem ju {L w:Int} (ts:List Int) (hw:-1000<=w/\w<=1000) :
  (Fit L ts w->ao GL (n+1) ak [.int L,.int w,dz ts] μ=.ok .non μ)/\(¬Fit L ts w->ao GL (n+1) ak [.int L,.int w,dz ts] μ=.ok xT μ):=by
 rw[az fj,run_eq rfl]
 have ks:kSeq (dz ts) μ=.ok (ts.map D.int,none) μ:=rfl
 have hc:yn (ao GL n) .z (.one 1) .nil ar [some (.int L),none] (ts.map D.int,none) μ=.ok (.lst ((ts.map λt=>!decide (0<=t/\t<=L)).map D.bl)) μ:=by
  rw[comp_map (g:=λt:Int=>D.bl (!decide (0<=t/\t<=L))) λa ha=>by
   by_cases h1:0<=a
   ·by_cases h2:a<=L
    ·simp! only[Cy,ar,h1,h2,and_self]
    ·simp! only[Cy,ar,h1,h2,and_false]
   ·simp! only[Cy,ar,h1,false_and]]
  rw[g0,List.map_map];rfl
 have hm:CMul w L:=.left (by omega) (by omega)
 have hs:btD .sum .z [dz ts] μ=.ok (.int ts.sum) μ:=by rw[dz,bt_sum ur (l7 _)]
 by_cases h1:∀t∈ts,0<=t/\t<=L
 ·have ha:(ts.map λt=>!decide (0<=t/\t<=L)).any id=false:=by
   rw[List.any_eq_false]
   intro x hx
   obtain⟨t,ht,rfl⟩:=FL.mp hx
   simp[h1 t ht]
  by_cases h2:ts.sum=w*L
  ·refine⟨λ_=>?_,λz=>absurd ⟨h1,h2⟩ z⟩
   simp! only[D_refuse_bad_ticks_2,ks,hc,bt_any bu (gz _),ha,hs,op_mul hm,h2]
  ·refine⟨λz=>absurd z.all h2,λ_=>?_⟩
   simp! only[D_refuse_bad_ticks_2,ks,hc,bt_any bu (gz _),ha,hs,op_mul hm,h2,vq,An,xT]
 ·have ha:(ts.map λt=>!decide (0<=t/\t<=L)).any id=true:=by
   rw[List.any_eq_true]
   simp![Classical.not_forall]at h1
   obtain⟨t,ht,q⟩:=h1
   exact⟨true,FL.mpr ⟨t,ht,by simp[q]⟩,rfl⟩
  refine⟨λz=>absurd z.each h1,λ_=>?_⟩
  simp! only[D_refuse_bad_ticks_2,ks,hc,bt_any bu (gz _),ha,vq,An,xT]
theorem pe (hr:l6 μ) {L w:Int} {ts:List Int} (hL:0<L) (hw:-1000<=w/\w<=1000) (hn:ts.length<=1000) :
  (Fit L ts w->∃ρ d,ao GL (n+2) dy [.int L,.int w,dz ts] μ=.ok (.tup [.bl true,d]) (μ++ρ))/\(¬Fit L ts w->ao GL (n+2) dy [.int L,.int w,dz ts] μ=.ok xT μ):=by
 rw[az yk,run_eq rfl]
 refine⟨λhf=>?_,λhf=>?_⟩
 ·have e0:∀σ,kCx (ao GL (n+1)) ak σ [.int L,.int w,dz ts] μ=.ok (.nx σ) μ:=λσ=>Gs (ρ:=[]) (by rw[BY];exact(ju (n:=n) (μ:=μ) ts hw).1 hf) rfl hr
  have ke:kEnum (dz ts) (μ++[.l []])=.ok (((List.range ts.length).zip ts).map (λp:Nat×Int=>D.tup [.int p.1,.int p.2]),none) (μ++[.l []]):=by
   simp![kEnum,dz,bf,AZ]
   congr 2
   rw[show(List.range ts.length)=(List.range ts.length).map id by simp,List.zip_map,List.map_map]
   simp![List.map_id];rfl
  obtain⟨σ',μ',el,⟨v5,v6,rfl⟩,rfl⟩:=vo (φ:=ao GL (n+1)) (μ:=μ++[.l []]) (tg:=.many [5,6]) (b:=gc) (xs:=(List.range ts.length).zip ts) (en:=λp:Nat×Int=>D.tup [.int p.1,.int p.2])
   (σ:=[some (.int L),some (.int w),some (dz ts),some (.loc μ.length),some (.int 0),none,none])
   (λj σ μ'=>(∃v5 v6,σ=[some (.int L),some (.int w),some (dz ts),some (.loc μ.length),some (.int (o9 L (ts.take j) 0)),v5,v6])/\μ'=μ++[.l ((ck L (ts.take j) 0 0).map g4)]) ⟨⟨none,none,by simp[o9]⟩,by simp[ck]⟩ (by
    rintro j ⟨k,t⟩ σ μ' hk ⟨⟨v5,v6,rfl⟩,rfl⟩
    obtain⟨h1,h2⟩:=EK.mp hk
    obtain⟨hj,hj2⟩:=AF.mp h1
    simp![ES]at hj
    simp![List.getElem_range]at hj2
    subst hj2
    have et:ts.take (j+1)=ts.take j++[t]:=by rw[List.take_add_one,h2];rfl
    have lj:(ts.take j).length=j:=by simp;omega
    have hs:=cc (mf (n:=n) (μ:=μ++[.l ((ck L (ts.take j) 0 0).map g4)]) j (o9 L (ts.take j) 0) t L) (qk _) rfl (Am hr _)
    have hm:=Gp (μ:=μ) (ds:=(ck L (ts.take j) 0 0).map g4) (ys:=(bw j (o9 L (ts.take j) 0) t L).map g4) (by
     rw[FJ,AW]
     exact λs _=>me s) (by
     have q1:=jt L (ts.take j) 0 0
     have q2:=gq j (o9 L (ts.take j) 0) t L
     simp![AZ];omega)
    refine⟨[some (.int L),some (.int w),some (dz ts),some (.loc μ.length),some (.int (o9 L (ts.take (j+1)) 0)),some (.int j),some (.int t)],μ++[.l ((ck L (ts.take (j+1)) 0 0).map g4)],?_,⟨_,_,rfl⟩,rfl⟩
    rw[et,mh,je,lj,List.map_append,Int.zero_add]
    simp! only[fLp,gc,Gn,hs,hm,op_mod hL])
  have hlen:((List.range ts.length).zip ts).length=ts.length:=by simp
  rw[hlen,CW (AH _)]at el
  refine⟨[.l ((ck L ts 0 0).map g4)],.tup ((ck L ts 0 0).map g4),?_⟩
  have m0:mkL .l [] μ=.ok (.loc μ.length) (μ++[.l []]):=rfl
  simp! only[D_laid_2,vt,L4,Gr,e0,m0,ke,el,bt_tuple h9]
 ·have e0:∀σ,kCx (ao GL (n+1)) ak σ [.int L,.int w,dz ts] μ=.ok (.rt xT) μ:=λσ=>Gu (ρ:=[]) (by rw[BY];exact(ju (n:=n) (μ:=μ) ts hw).2 hf) rfl hr
  simp! only[D_laid_2,vt,e0]
open Classical in
def nz (L:Int) (ts:List Int) (w:Int):D:=if Fit L ts w then .str (PySem.Str.ofString "laid")else .str (PySem.Str.ofString "refused")
theorem kn {L:Int} {ts:List Int} {w:Int}:(nz L ts w).pure=true:=by
 unfold nz
 split<;>rfl
theorem jv (hr:l6 μ) {L w:Int} {ts:List Int} (hL:0<L) (hw:-1000<=w/\w<=1000) (hn:ts.length<=1000) :
  ∃ρ,ao GL (n+3) bh [.int L,.int w,dz ts] μ=.ok (nz L ts w) (μ++ρ):=by
 rw[az kg,run_eq rfl]
 by_cases hf:Fit L ts w
 ·obtain⟨ρ,d,e⟩:=(pe (n:=n) hr hL hw hn).1 hf
  have e0:∀σ ei h,kTc (ao GL (n+2)) dy σ ei h [.int L,.int w,dz ts] μ=.ok (.nx σ) μ:=λσ ei h=>Gv e rfl hr
  have c1:cpD .is .non .non μ=.ok (.bl true) μ:=rfl
  refine⟨[],?_⟩
  rw[BY,nz,if_pos hf]
  simp! only[D_law_refused,Ao,e0,c1]
 ·have e:=(pe (n:=n) hr hL hw hn).2 hf
  have e0:∀σ ei h,kTc (ao GL (n+2)) dy σ ei h [.int L,.int w,dz ts] μ=(du (ao GL (n+2)) h (σ.set ei (some (.loc μ.length))) (μ++[.x "BadTicks"])).bind (kGo ei):=λσ ei h=>Gw (ρ:=[]) (by rw[BY];exact e) rfl hr (by decide)
  have c1:cpD .is (.loc μ.length) .non (μ++[.x "BadTicks"])=.ok (.bl false) (μ++[.x "BadTicks"]):=rfl
  have is:∀(c:Str) (b:Bool) (ν:Sto),qq "BadTicks" c=b->Cv (.own c) (.loc μ.length) (μ++[.x "BadTicks"]++ν)=.ok (.bl b) (μ++[.x "BadTicks"]++ν):=λc b ν h=>by
   have a:(μ++[O.x "BadTicks"]++ν)[μ.length]? = some (O.x "BadTicks"):=by simp
   have k:xcls.contains "BadTicks"=true:=by decide
   simp![Cv,a,k,if_true,h]
  have i1:=is "BadBook" false [] (by decide)
  have i2:=is "BadRow" false [] (by decide)
  have i3:=is "NoDeed" false [] (by decide)
  rw[BY]at i1 i2 i3
  have mk:mkL .l [.bl false,.bl false,.bl false] (μ++[.x "BadTicks"])=.ok (.loc (μ++[O.x "BadTicks"]).length) (μ++[.x "BadTicks"]++[.l [.bl false,.bl false,.bl false]]):=rfl
  have i4:=is "NoRest" false [.l [.bl false,.bl false,.bl false]] (by decide)
  have ap:=vn (μ:=μ++[.x "BadTicks"]) (ds:=[.bl false,.bl false,.bl false]) (d:=.bl false) rfl (by decide)
  have i5:=is "BadTicks" true [.l [.bl false,.bl false,.bl false,.bl false]] (by decide)
  have i6:=is "ValueError" true [.l [.bl false,.bl false,.bl false,.bl false]] (by decide)
  have ni:cpD .notin (.bl true) (.loc (μ++[O.x "BadTicks"]).length) (μ++[.x "BadTicks"]++[.l [.bl false,.bl false,.bl false,.bl false]])=.ok (.bl true) (μ++[.x "BadTicks"]++[.l [.bl false,.bl false,.bl false,.bl false]]):=by
   simp![cpD,h9];rfl
  simp![CB,DZ]at ap
  refine⟨[.x "BadTicks",.l [.bl false,.bl false,.bl false,.bl false]],?_⟩
  rw[nz,if_neg hf,show μ++[O.x "BadTicks",.l [.bl false,.bl false,.bl false,.bl false]]=μ++[O.x "BadTicks"]++[O.l [.bl false,.bl false,.bl false,.bl false]]by simp]
  simp! only[D_law_refused,Ao,e0,Gx,c1,i1,i2,i3,mk,i4,md,ap,i5,i6,ni]
theorem yr {L w:Int} {ts:List Int} (hw:-1000<=w/\w<=1000):ao GL (n+1) c5 [.int L,.int w,.lst (ts.map D.int)] μ=.ok (nz L ts w) μ:=by
 rw[az nr,run_eq rfl]
 have hm:CMul w L:=.left (by omega) (by omega)
 have hs:btD .sum .z [.lst (ts.map D.int)] μ=.ok (.int ts.sum) μ:=bt_sum bu (l7 _)
 have ks:kSeq (.lst (ts.map D.int)) μ=.ok (ts.map D.int,none) μ:=rfl
 obtain⟨g1,g2⟩:=mi (φ:=ao GL n) (μ:=μ) (tg:=.one 3) (b:=bo) (en:=D.int) (v:=.str (PySem.Str.ofString "refused")) (xs:=ts) (σ:=[some (.int L),some (.int w),some (.lst (ts.map D.int)),none])
  (λσ=>∃v,σ=[some (.int L),some (.int w),some (.lst (ts.map D.int)),v]) (λt=>¬(0<=t/\t<=L)) ⟨none,rfl⟩ (by
   rintro t ht σ ⟨v,rfl⟩
   refine⟨λh=>?_,λh=>?_⟩
   ·obtain⟨h1,h2⟩:=GA.mp h
    have h1':¬t<0:=by omega
    have h2':¬L<t:=by omega
    exact⟨[some (.int L),some (.int w),some (.lst (ts.map D.int)),some (.int t)],by simp! only[fLp,bo,h1',h2'],_,rfl⟩
   ·by_cases h1:t<0
    ·simp! only[fLp,bo,h1]
    ·have h2:L<t:=by omega
     simp! only[fLp,bo,h1,h2])
 by_cases h1:∀t∈ts,0<=t/\t<=L
 ·obtain⟨σ',el,v,rfl⟩:=g1 λt ht z=>z (h1 t ht)
  by_cases h2:ts.sum=w*L
  ·rw[nz,if_pos ⟨h1,h2⟩]
   simp! only[D_law_due_2,ks,el,hs,op_mul hm,h2]
  ·rw[nz,if_neg λz=>h2 z.all]
   simp! only[D_law_due_2,ks,el,hs,op_mul hm,h2]
 ·have el:=g2 λz=>h1 λt ht=>GA.mp (z t ht)
  rw[nz,if_neg λz=>h1 z.each]
  simp! only[D_law_due_2,ks,el]
theorem Gy {us:List Int} {k:Nat} (hk:k<us.length):ixD (.loc μ.length) (.int k) (μ++[.l (us.map D.int)])=.ok (.int (us.getD k 0)) (μ++[.l (us.map D.int)]):=by
 refine Ae h9 ?_
 rw[AY,AA hk]
 simp[hk]
theorem Ap {o:List Int} {k:Nat} {v:Int} (hk:k<o.length):qr (.loc μ.length) (.int k) (.int v) (μ++[.l (o.map D.int)])=.ok () (μ++[.l ((o.set k v).map D.int)]):=by
 have e1:ixN (o.map D.int).length (k:Int)=some k:=by simp[ixN];omega
 simp![qr,eu,d5,e1,fits,ym,if_true,putL,Res.bp,fh,List.map_set]
theorem Aq:∀(l:List Int) (k:Nat),(l.map D.int).eraseIdx k=(l.eraseIdx k).map D.int
 | [],_=>rfl
 | _::_,0=>rfl
 | a::l,k+1=>by simp![AQ,DJ,Aq l k]
theorem Gz {ds:List D}:kM φ .pop es σ (.loc μ.length) (μ++[.l ds])=(dj φ es σ (μ++[.l ds])).bind (mtD .pop (.loc μ.length)):=nu λ_ _=>rfl
theorem n8 (hr:l6 μ) {ts:List Int} {L:Int} (h1:1<=ts.length) (h8:ts.length<=8) (c:Int) :
  ∃(us:List Int) (ρ:Sto),us.length<=9/\ao GL (n+1) cb [.lst (ts.map D.int),.int L,.int c] μ=.ok (.lst (us.map D.int)) (μ++ρ):=by
 rw[az ji,run_eq rfl]
 have e0:btD .list .l [.lst (ts.map D.int)] μ=.ok (.loc μ.length) (μ++[.l (ts.map D.int)]):=by
  rw[bt_list bu,L3 (by rw[AW];intro x hx;obtain⟨i,_,rfl⟩:=FL.mp hx;rfl)]
 have hlen:btD .len .z [.loc μ.length] (μ++[.l (ts.map D.int)])=.ok (.int ts.length) (μ++[.l (ts.map D.int)]):=by rw[bt_len h9,AZ]
 have hp:(0:Int)<ts.length:=by omega
 obtain⟨K,hK⟩:∃K:Nat,(K:Int)=c / 9 % ts.length:=⟨(c / 9 % ts.length).toNat,by have:=CG (c / 9) (show(ts.length:Int)≠0 by omega);omega⟩
 obtain⟨J,hJ⟩:∃J:Nat,(J:Int)=c / 81 % ts.length:=⟨(c / 81 % ts.length).toNat,by have:=CG (c / 81) (show(ts.length:Int)≠0 by omega);omega⟩
 have hK2:K<ts.length:=by have:=BQ (c / 9) hp;omega
 have hJ2:J<ts.length:=by have:=BQ (c / 81) hp;omega
 have mK:opI .Mod (c / 9) ts.length (μ++[.l (ts.map D.int)])=.ok (.int K) (μ++[.l (ts.map D.int)]):=by rw[op_mod hp,hK]
 have mJ:opI .Mod (c / 81) ts.length (μ++[.l (ts.map D.int)])=.ok (.int J) (μ++[.l (ts.map D.int)]):=by rw[op_mod hp,hJ]
 have d9:∀ν,opI .FloorDiv c 9 ν=.ok (.int (c / 9)) ν:=λν=>gp (by decide) (by decide)
 have d81:∀ν,opI .FloorDiv c 81 ν=.ok (.int (c / 81)) ν:=λν=>gp (by decide) (by decide)
 have d700:∀ν,opI .FloorDiv c 700 ν=.ok (.int (c / 700)) ν:=λν=>gp (by decide) (by decide)
 have m3:∀ν,opI .Mod (c / 700) 3 ν=.ok (.int (c / 700 % 3)) ν:=λν=>op_mod (by decide)
 have m9:∀ν,opI .Mod c 9 ν=.ok (.int (c % 9)) ν:=λν=>op_mod (by decide)
 have iK:∀us:List Int,us.length=ts.length->ixD (.loc μ.length) (.int K) (μ++[.l (us.map D.int)])=.ok (.int (us.getD K 0)) (μ++[.l (us.map D.int)]):=λus h=>Gy (by omega)
 have iJ:∀us:List Int,us.length=ts.length->ixD (.loc μ.length) (.int J) (μ++[.l (us.map D.int)])=.ok (.int (us.getD J 0)) (μ++[.l (us.map D.int)]):=λus h=>Gy (by omega)
 have sK:∀(us:List Int) (v:Int),us.length=ts.length->qr (.loc μ.length) (.int K) (.int v) (μ++[.l (us.map D.int)])=.ok () (μ++[.l ((us.set K v).map D.int)]):=λus v h=>Ap (by omega)
 have sJ:∀(us:List Int) (v:Int),us.length=ts.length->qr (.loc μ.length) (.int J) (.int v) (μ++[.l (us.map D.int)])=.ok () (μ++[.l ((us.set J v).map D.int)]):=λus v h=>Ap (by omega)
 have fz:∀(us:List Int) {a b d e f g:Option D},evE (ao GL n) (.frz 3) [a,b,d,some (.loc μ.length),e,f,g] (μ++[.l (us.map D.int)])=.ok (.lst (us.map D.int)) (μ++[.dead]):=λus {a b d e f g}=>by
  rw[Gq (k:=μ.length) rfl eu,fh]
 have w0:0<=c % 9:=CG _ (by decide)
 have w9:c % 9<9:=BQ _ (by decide)
 generalize c % 9=w at m9 w0 w9
 have z0:0<=c / 700 % 3:=CG _ (by decide)
 have z3:c / 700 % 3<3:=BQ _ (by decide)
 generalize c / 700 % 3=z at m3 z0 z3
 have nine:w=0\/w=1\/w=2\/w=3\/w=4\/w=5\/w=6\/w=7\/w=8:=by omega
 have low:∀v:Int,(∀ν,ixD (.lst [.int 1,.int (-1),.int 0]) (.int w) ν=.ok (.int v) ν)->w<3->¬w=3->¬w=4->¬w=5->¬w=6->¬w=7->¬w=8 ->
   ∃(us:List Int) (ρ:Sto),us.length<=9/\(du (ao GL n) D_law_spoilt_5.body ([D.lst (ts.map D.int),.int L,.int c].map some++List.replicate (D_law_spoilt_5.nn-D_law_spoilt_5.np) none) μ).bind finD=.ok (.lst (us.map D.int)) (μ++ρ):=by
  intro v iv q0 q3 q4 q5 q6 q7 q8
  refine⟨ts.set K (ts.getD K 0+v),[.dead],by simp;omega,?_⟩
  simp! only[D_law_spoilt_5,e0,hlen,d9,d81,mK,mJ,m9,g0,iK ts rfl,iv,sK ts _ rfl,fz,q0,q3,q4,q5,q6,q7,q8]
 have mid:(w=3\/w=4)->¬w<3->¬w=5->¬w=6->¬w=7->¬w=8 ->
   ∃(us:List Int) (ρ:Sto),us.length<=9/\(du (ao GL n) D_law_spoilt_5.body ([D.lst (ts.map D.int),.int L,.int c].map some++List.replicate (D_law_spoilt_5.nn-D_law_spoilt_5.np) none) μ).bind finD=.ok (.lst (us.map D.int)) (μ++ρ):=by
  intro q q0 q5 q6 q7 q8
  refine⟨(ts.set K (ts.getD K 0+1+z)).set J ((ts.set K (ts.getD K 0+1+z)).getD J 0-1-z),[.dead],by simp;omega,?_⟩
  have l1:(ts.set K (ts.getD K 0+1+z)).length=ts.length:=by simp
  by_cases q3:w=3
  ·simp! only[D_law_spoilt_5,e0,hlen,d9,d81,d700,m3,mK,mJ,m9,iK ts rfl,sK ts _ rfl,iJ _ l1,sJ _ _ l1,fz,q0,q3,q5,q6,q7,q8,Int.reduceLT,Int.reduceEq]
  ·have q4:w=4:=by omega
   simp! only[D_law_spoilt_5,e0,hlen,d9,d81,d700,m3,mK,mJ,m9,iK ts rfl,sK ts _ rfl,iJ _ l1,sJ _ _ l1,fz,q0,q4,q5,q6,q7,q8,Int.reduceLT,Int.reduceEq]
 rcases nine with rfl | rfl | rfl | rfl | rfl | rfl | rfl | rfl | rfl
 ·exact low 1 (λν=>rfl) (by decide) (by decide) (by decide) (by decide) (by decide) (by decide) (by decide)
 ·exact low (-1) (λν=>rfl) (by decide) (by decide) (by decide) (by decide) (by decide) (by decide) (by decide)
 ·exact low 0 (λν=>rfl) (by decide) (by decide) (by decide) (by decide) (by decide) (by decide) (by decide)
 ·exact mid (.inl rfl) (by decide) (by decide) (by decide) (by decide) (by decide)
 ·exact mid (.inr rfl) (by decide) (by decide) (by decide) (by decide) (by decide)
 ·by_cases q:(K:Int)=J
  ·exact⟨ts,[.dead],by omega,by simp! only[D_law_spoilt_5,e0,hlen,d9,d81,mK,mJ,m9,fz,q,Int.reduceLT,Int.reduceEq]⟩
  ·have l1:(ts.set J (ts.getD J 0+ts.getD K 0-L-1)).length=ts.length:=by simp
   refine⟨(ts.set J (ts.getD J 0+ts.getD K 0-L-1)).set K (L+1),[.dead],by simp;omega,?_⟩
   simp! only[D_law_spoilt_5,e0,hlen,d9,d81,mK,mJ,m9,iK ts rfl,iJ ts rfl,sJ ts _ rfl,sK _ _ l1,fz,q,Int.reduceLT,Int.reduceEq]
 ·by_cases q:(K:Int)=J
  ·exact⟨ts,[.dead],by omega,by simp! only[D_law_spoilt_5,e0,hlen,d9,d81,mK,mJ,m9,fz,q,Int.reduceLT,Int.reduceEq]⟩
  ·have l1:(ts.set J (ts.getD J 0+ts.getD K 0+1)).length=ts.length:=by simp
   refine⟨(ts.set J (ts.getD J 0+ts.getD K 0+1)).set K (-1),[.dead],by simp;omega,?_⟩
   simp! only[D_law_spoilt_5,e0,hlen,d9,d81,mK,mJ,m9,iK ts rfl,iJ ts rfl,sJ ts _ rfl,sK _ _ l1,fz,q,Int.reduceLT,Int.reduceEq]
 ·by_cases q:(ts.length:Int)<8
  ·obtain⟨v,hv⟩:∃v:Int,∀ν,ixD (.lst [.int 0,.int 1,.int (-1)]) (.int z) ν=.ok (.int v) ν:=by
    have:z=0\/z=1\/z=2:=by omega
    rcases this with rfl | rfl | rfl
    ·exact⟨0,λν=>rfl⟩
    ·exact⟨1,λν=>rfl⟩
    ·exact⟨-1,λν=>rfl⟩
   have ap:mtD .append (.loc μ.length) [.int v] (μ++[.l (ts.map D.int)])=.ok .non (μ++[.l ((ts++[v]).map D.int)]):=by
    rw[vn rfl (by simp;omega)];simp
   refine⟨ts++[v],[.dead],by simp;omega,?_⟩
   simp! only[D_law_spoilt_5,e0,hlen,d9,d81,d700,m3,mK,mJ,m9,g0,hv,md,ap,fz,q,Int.reduceLT,Int.reduceEq]
  ·exact⟨ts,[.dead],by omega,by simp! only[D_law_spoilt_5,e0,hlen,d9,d81,mK,mJ,m9,fz,q,Int.reduceLT,Int.reduceEq]⟩
 ·by_cases q:(1:Int)<ts.length
  ·have po:mtD .pop (.loc μ.length) [.int K] (μ++[.l (ts.map D.int)])=.ok (.int (ts.getD K 0)) (μ++[.l ((ts.eraseIdx K).map D.int)]):=by
    have:=ip
    have g:(ts.map D.int)[K]? = some (.int (ts.getD K 0)):=by rw[AY,AA hK2];simp[hK2]
    simp![mtD,p9,eu,d5,mtL,DM,g]
    rw[if_pos ⟨by omega,by omega⟩]
    simp![putL,fh,Aq]
   refine⟨ts.eraseIdx K,[.dead],by have:=List.length_eraseIdx_le ts K;omega,?_⟩
   simp! only[D_law_spoilt_5,e0,hlen,d9,d81,mK,mJ,m9,Gz,po,fz,q,Int.reduceLT,Int.reduceEq]
  ·exact⟨ts,[.dead],by omega,by simp! only[D_law_spoilt_5,e0,hlen,d9,d81,mK,mJ,m9,fz,q,Int.reduceLT,Int.reduceEq]⟩
end
theorem Jv (ns:List Int):∃μ',ao GL 6 jd [.lst (ns.map D.int)] []=.ok (.bl true) μ':=by
 rw[az uh,run_eq rfl]
 have hr:l6 []:=rfl
 have c0:=cc (nv (n:=4) (μ:=[]) ns 0) rfl rfl hr
 have c1:=cc (nv (n:=4) (μ:=[]) ns 1) rfl rfl hr
 have hl:=cc (vp (n:=3) hr (ns.getD 0 0)) rfl rfl hr
 have hL:=qj (ns.getD 0 0)
 generalize e9 (ns.getD 0 0)=L at hl hL
 have hs:=cc (kj (n:=4) (μ:=[]) (ns.getD 1 0) 0) rfl rfl hr
 generalize gf (ns.getD 1 0) 0=h at hs
 obtain⟨lamps,el,h1,h8⟩:∃lamps:Nat,1+h % 8=(lamps:Int)/\1<=lamps/\lamps<=8:=⟨(1+h % 8).toNat,by omega,by omega,by omega⟩
 obtain⟨w,ew,hw⟩:∃w:Nat,h / 8 % ((lamps:Int)+1)=(w:Int)/\w<=lamps:=by
  have a:=CG (h / 8) (show((lamps:Int)+1)≠0 by omega)
  have b:=BQ (h / 8) (show(0:Int)<(lamps:Int)+1 by omega)
  exact⟨(h / 8 % ((lamps:Int)+1)).toNat,by omega,by omega⟩
 obtain⟨ts,hf,htl,ef⟩:=qm (n:=3) (μ:=[]) hr ns (L:=L) (w:=w) (lamps:=lamps) hL.1 hL.2 (by omega) h8
 have pl:∀us:List Int,(D.lst (us.map D.int)).pure=true:=λus=>by
  simp![D.pure,ox,FJ,AW]
  exact λ_ _=>l5
 have kf:=fg ef (pl ts) hr
 have L0:0<L:=by omega
 have tt:∀us:List Int,btD .tuple .z [.lst (us.map D.int)] []=.ok (dz us) []:=λus=>bt_tuple bu
 obtain⟨ρ1,e1⟩:=jv (n:=2) (μ:=[]) hr (L:=L) (w:=w) (ts:=ts) L0 (by omega) (by omega)
 have k1:=fg e1 kn hr
 rw[nz,if_pos hf]at k1
 have ne1:cpD .ne (.str (PySem.Str.ofString "laid")) (.str (PySem.Str.ofString "laid")) []=.ok (.bl false) []:=by
  simp[cpD,D.pure,D.pureN,deq]
 obtain⟨xs,hxs⟩:∃xs:List Int,xs=0::ns.take 20:=⟨_,rfl⟩
 have sl:slD .z (.lst (ns.map D.int)) none (some 20) []=.ok (.lst ((ns.take 20).map D.int)) []:=by
  have e:cut (ns.map D.int) none (some 20)=(ns.take 20).map D.int:=by
   unfold cut sIx
   simp![List.drop_zero,Nat.sub_zero,AZ,show ¬(20:Int)<0 by decide,if_false]
   rw[List.map_take]
   by_cases q:ns.length<=20
   ·rw[CW (by simp;omega),CW (by simp;omega)]
   ·rw[show min (Int.toNat 20) ns.length=20 by rw[show Int.toNat 20=20 by rfl];omega]
  simp![slD,Lp.listOf,g0,e]
 have op:opD .Add .z (.lst [.int 0]) (.lst ((ns.take 20).map D.int)) []=.ok (.lst (xs.map D.int)) []:=by
  subst hxs
  have:=ip
  simp![opD,Lp.listOf]
  rw[if_pos (by simp;omega),g0];rfl
 have ks:kSeq (.lst (xs.map D.int)) []=.ok (xs.map D.int,none) []:=rfl
 obtain⟨σ2,l2,v6,v7,v8,v9,rfl⟩:=Cq (φ:=ao GL 5) (μ:=[]) (tg:=.one 6) (b:=de) (xs:=xs) (en:=D.int)
  (σ:=[some (.lst (ns.map D.int)),some (.int L),some (.int h),some (.int lamps),some (.int w),some (.lst (ts.map D.int)),none,none,none,none])
  (λ_ σ=>∃v6 v7 v8 v9,σ=[some (.lst (ns.map D.int)),some (.int L),some (.int h),some (.int lamps),some (.int w),some (.lst (ts.map D.int)),v6,v7,v8,v9]) ⟨none,none,none,none,rfl⟩ (by
   rintro j c σ hc ⟨v6,v7,v8,v9,rfl⟩
   have h1:=cc (kj (n:=4) (μ:=[]) c 9) rfl rfl hr
   generalize gf c 9=t at h1
   obtain⟨us,ρ2,hu,e2⟩:=n8 (n:=4) (μ:=[]) hr (ts:=ts) (L:=L) (by omega) (by omega) t
   have k2:=fg e2 (pl us) hr
   have d9k:opI .FloorDiv t 9000 []=.ok (.int (t / 9000)) []:=gp (by decide) (by decide)
   have m5:opI .Mod (t / 9000) 5 []=.ok (.int (t / 9000 % 5)) []:=op_mod (by decide)
   have d45:opI .FloorDiv t 45000 []=.ok (.int (t / 45000)) []:=gp (by decide) (by decide)
   have m7:opI .Mod (t / 45000) 7 []=.ok (.int (t / 45000 % 7)) []:=op_mod (by decide)
   have m9:∀x:Int,opI .Mod x 9 []=.ok (.int (x % 9)) []:=λx=>op_mod (by decide)
   have same:∀v:Int,-1000<=v/\v<=1000->ki (ao GL 5) false bh [.int L,.int v,dz us] []=.ok (nz L us v) []/\ki (ao GL 5) false c5 [.int L,.int v,.lst (us.map D.int)] []=.ok (nz L us v) []:=λv hv=>by
    obtain⟨ρ3,e3⟩:=jv (n:=2) (μ:=[]) hr (L:=L) (w:=v) (ts:=us) L0 hv (by omega)
    exact⟨fg e3 kn hr,cc (yr (n:=4) (μ:=[]) hv) kn rfl hr⟩
   have ne:∀v:Int,cpD .ne (nz L us v) (nz L us v) []=.ok (.bl false) []:=λv=>by
    unfold nz
    split<;>simp[cpD,D.pure,D.pureN,deq]
   by_cases q:t / 9000 % 5=1
   ·have b0:0<=((w:Int)+1+t / 45000 % 7) % 9:=CG _ (by decide)
    have b9:((w:Int)+1+t / 45000 % 7) % 9<9:=BQ _ (by decide)
    obtain⟨s1,s2⟩:=same (((w:Int)+1+t / 45000 % 7) % 9) (by omega)
    refine⟨_,?_,some (.int c),some (.int t),some (.lst (us.map D.int)),some (.int (((w:Int)+1+t / 45000 % 7) % 9)),rfl⟩
    simp![fLp,de,EV1,EV2,EV3,EV4,EV5,Nat.reduceSub,decide_true,decide_false,FX,FV,h1,k2,d9k,m5,q,d45,m7,m9,tt,s1,s2,ne]
   ·obtain⟨s1,s2⟩:=same w (by omega)
    refine⟨_,?_,some (.int c),some (.int t),some (.lst (us.map D.int)),some (.int w),rfl⟩
    simp![fLp,de,EV1,EV2,EV3,EV4,EV5,Nat.reduceSub,decide_true,decide_false,FX,FV,h1,k2,d9k,m5,q,tt,s1,s2,ne])
 have m8:opI .Mod h 8 []=.ok (.int (h % 8)) []:=op_mod (by decide)
 have d8:opI .FloorDiv h 8 []=.ok (.int (h / 8)) []:=gp (by decide) (by decide)
 have ml:opI .Mod (h / 8) ((lamps:Int)+1) []=.ok (.int w) []:=by rw[op_mod (by omega),ew]
 refine⟨[],?_⟩
 simp![D_law_k14,EV1,EV2,EV3,EV4,EV5,Nat.reduceSub,decide_true,decide_false,FX,FV,(show ki (ao GL 5) false br [.lst (ns.map D.int),.int 0] []=_ from c0),(show ki (ao GL 5) false br [.lst (ns.map D.int),.int 1] []=_ from c1),hl,hs,m8,el,d8,ml,kf,tt,k1,ne1,g0,sl,op,ks,l2]
end Lr
namespace Lp.Law
open PySem PySem.Spec PyProof.Rows L2 Lp
def top (i:Nat):Stmt:=PySem.Challenge.pw_lamprota_k14_ticks_refused.main.body.getD i (.Pass ⟨0,0,0,0⟩)
def e0:Ent:=⟨c9,"spans_from",top 9,["lamp","start","much","length","end"],["lamp","start","much","length"],D_spans_from⟩
def e1:Ent:=⟨br,"_law_cell",top 12,["script","k"],["script","k"],D_law_cell⟩
def e2:Ent:=⟨bz,"_law_stir",top 13,["cell","k","near"],["cell","k"],D_law_stir⟩
def e3:Ent:=⟨da,"_law_length",top 14,["cell","size"],["cell"],D_law_length⟩
def e4:Ent:=⟨cq,"_law_fitting",top 15,["script","length","wanted","lamps","rest","ticks","k","low","high","cell","size","many"],["script","length","wanted","lamps"],D_law_fitting⟩
def e5:Ent:=⟨cb,"_law_spoilt",top 16,["ticks","length","cell","made","one","other","way"],["ticks","length","cell"],D_law_spoilt_5⟩
def e6:Ent:=⟨bh,"_law_refused",top 17,["length","wanted","ticks","caught","e","others"],["length","wanted","ticks"],D_law_refused⟩
def e7:Ent:=⟨c5,"_law_due",top 18,["length","wanted","ticks","many"],["length","wanted","ticks"],D_law_due_2⟩
def e8:Ent:=⟨jd,"law",top 19,["script","length","head","lamps","wanted","ticks","cell","turn","spoilt","count"],["script"],D_law_k14⟩
def x0:Ent:=⟨ak,"refuse_bad_ticks",top 8,["length","wanted","ticks"],["length","wanted","ticks"],D_refuse_bad_ticks_2⟩
def x1:Ent:=⟨dy,"laid",top 10,["length","wanted","ticks","spans","start","lamp","much"],["length","wanted","ticks"],D_laid_2⟩
def ents:List Ent:=[e0,e1,e2,e3,e4,e5,e6,e7,e8]
def gg:List Ent:=[x0,x1]
def qo:List Str:=["any","sum","enumerate","tuple","len","range","max","min","list","isinstance","ValueError"]
theorem arS {k:Nat} {Q:List Value->Prop} (h:∀a us,us.length=k->Q (a::us)):∀us:List Value,us.length=k+1->Q us
 | [],e=>nomatch e
 | a::us,e=>h a us (Nat.succ.inj e)
theorem ar0 {Q:List Value->Prop} (h:∀(_:Unit),Q []):∀us:List Value,us.length=0->Q us
 | [],_=>h ()
theorem ar1 {Q:List Value->Prop} (h:∀(a0:Value),Q [a0]):∀us:List Value,us.length=1->Q us:=arS λa0=>ar0 (Q:=λus=>Q (a0::us)) (λ_=>h a0)
theorem ar2 {Q:List Value->Prop} (h:∀(a0 a1:Value),Q [a0,a1]):∀us:List Value,us.length=2->Q us:=arS λa0=>ar1 (Q:=λus=>Q (a0::us)) (h a0)
theorem ar3 {Q:List Value->Prop} (h:∀(a0 a1 a2:Value),Q [a0,a1,a2]):∀us:List Value,us.length=3->Q us:=arS λa0=>ar2 (Q:=λus=>Q (a0::us)) (h a0)
theorem ar4 {Q:List Value->Prop} (h:∀(a0 a1 a2 a3:Value),Q [a0,a1,a2,a3]):∀us:List Value,us.length=4->Q us:=arS λa0=>ar3 (Q:=λus=>Q (a0::us)) (h a0)
section
variable {P : Program} {w : World} {K : PySem.W.Frag} {mg : Str -> Option Value} {base : Heap}
theorem dv0 (B:∀(j:Nat) x,qo[j]? = some x->mg x=none) (xf:XF K mg):DerP GL P w K mg base ents gg e0:=yj λn fa cdv A outer s H E hu C D =>
 (ax (bj 4 (ai (aa 1) (aa 2))) (ax (kb (ba (aa 2) (cf hu .eq ah)) (ax (dm (jh aw)) cg) cg) (ax (kb (ba (aa 4) (cf hu .le (aa 3))) (ax (dm (jh (ae (B5 (ae (aa 0) (ae (aa 1) (ae (aa 4) aw)))) aw))) cg) cg) (ax (dm (jh (ae (B5 (ae (aa 0) (ae ah (ae (ai (aa 4) (aa 3)) aw)))) (ae (B5 (ae (aa 0) (ae (aa 1) (ae (aa 3) aw)))) aw)))) cg))))
theorem dv1 (B:∀(j:Nat) x,qo[j]? = some x->mg x=none) (xf:XF K mg):DerP GL P w K mg base ents gg e1:=yj λn fa cdv A outer s H E hu C D =>
 (ax (kb (ba (aa 1) (cf hu .lt (i9 (B 4 _ rfl) (ae (aa 0) aw)))) (ax (dm (tv (aa 0) (aa 1))) cg) cg) (ax (dm ah) cg))
theorem dv2 (B:∀(j:Nat) x,qo[j]? = some x->mg x=none) (xf:XF K mg):DerP GL P w K mg base ents gg e2:=yj λn fa cdv A outer s H E hu C D =>
 (ax (bj 2 (ai (ai (ai (aa 0) (ai ah (aa 1))) ah) ah)) (ax (bj 2 (ai (ai (aa 2) (aa 2)) ah)) (ax (dm (ai (ai (ai (aa 2) ah) ah) ah)) cg)))
theorem dv3 (B:∀(j:Nat) x,qo[j]? = some x->mg x=none) (xf:XF K mg):DerP GL P w K mg base ents gg e3:=yj λn fa cdv A outer s H E hu C D =>
 (ax (bj 1 (c7 (C 2 _ rfl) (ae (aa 0) (ae ah aw)))) (ax (kb (ba (ai (aa 1) ah) (cf hu .eq ah)) (ax (dm (ai (ai ah ah) (ai (ai (aa 1) ah) ah))) cg) cg) (ax (kb (ba (ai (aa 1) ah) (cf hu .eq ah)) (ax (dm (ai ah (ai (aa 0) (ai ah ah)))) cg) cg) (ax (dm (ai ah (ai (ai (aa 1) ah) ah))) cg))))
theorem dv4 (B:∀(j:Nat) x,qo[j]? = some x->mg x=none) (xf:XF K mg):DerP GL P w K mg base ents gg e4:=yj λn fa cdv A outer s H E hu C D =>
 (ax (bj 4 (ai (aa 2) (aa 1))) (ax (bj 5 (jh aw)) (ax (ye (E5 (B 5 _ rfl) (aa 3)) (ka 6) (ax (bj 7 (B8 (B 6 _ rfl) (ae ah (ae (ai (aa 4) (ai (ai (ai (aa 3) (aa 6)) ah) (aa 1))) aw)))) (ax (bj 8 (B7 (B 7 _ rfl) (ae (aa 1) (ae (aa 4) aw)))) (ax (bj 9 (c7 (C 1 _ rfl) (ae (aa 0) (ae (ai ah (aa 6)) aw)))) (ax (bj 10 (c7 (C 2 _ rfl) (ae (aa 9) (ae ah aw)))) (ax (bj 11 (ai (aa 7) (ai (aa 9) (ai (ai (aa 8) (aa 7)) ah)))) (ax (kb (ba (ai (aa 10) ah) (cf hu .eq ah)) (ax (bj 11 (tv (jh (ae (aa 7) (ae (aa 8) aw))) (ai (ai (aa 10) ah) ah))) cg) cg) (ax (E9 (f9 (aa 5) (ae (aa 11) aw))) (ax (bj 4 (ai (aa 4) (aa 11))) cg))))))))) (ax (dm (E2 5)) cg))))
theorem dv5 (B:∀(j:Nat) x,qo[j]? = some x->mg x=none) (xf:XF K mg):DerP GL P w K mg base ents gg e5:=yj λn fa cdv A outer s H E hu C D =>
 (ax (bj 3 (yd (B 8 _ rfl) (ae (aa 0) aw))) (ax (bj 4 (ai (ai (aa 2) ah) (i9 (B 4 _ rfl) (ae (aa 3) aw)))) (ax (bj 5 (ai (ai (aa 2) ah) (i9 (B 4 _ rfl) (ae (aa 3) aw)))) (ax (bj 6 (ai (aa 2) ah)) (ax (kb (ba (aa 6) (cf hu .lt ah)) (ax (jb hu (aa 3) (aa 4) (ai (tv (aa 3) (aa 4)) (tv (jh (ae ah (ae (B4 ah) (ae ah aw)))) (aa 6)))) cg) cg) (ax (kb (B6 (E4 (ba (aa 6) (cf hu .eq ah)) (zc (ba (aa 6) (cf hu .eq ah))))) (ax (jb hu (aa 3) (aa 4) (ai (ai (tv (aa 3) (aa 4)) ah) (ai (ai (aa 2) ah) ah))) (ax (jb hu (aa 3) (aa 5) (ai (ai (tv (aa 3) (aa 5)) ah) (ai (ai (aa 2) ah) ah))) cg)) cg) (ax (kb (B6 (jq (ba (aa 6) (cf hu .eq ah)) (i8 (ba (aa 4) (cf hu .ne (aa 5)))))) (ax (jb hu (aa 3) (aa 5) (ai (ai (ai (tv (aa 3) (aa 5)) (tv (aa 3) (aa 4))) (aa 1)) ah)) (ax (jb hu (aa 3) (aa 4) (ai (aa 1) ah)) cg)) cg) (ax (kb (B6 (jq (ba (aa 6) (cf hu .eq ah)) (i8 (ba (aa 4) (cf hu .ne (aa 5)))))) (ax (jb hu (aa 3) (aa 5) (ai (ai (tv (aa 3) (aa 5)) (tv (aa 3) (aa 4))) ah)) (ax (jb hu (aa 3) (aa 4) (B4 ah)) cg)) cg) (ax (kb (B6 (jq (ba (aa 6) (cf hu .eq ah)) (i8 (ba (i9 (B 4 _ rfl) (ae (aa 3) aw)) (cf hu .lt ah))))) (ax (E9 (f9 (aa 3) (ae (tv (jh (ae ah (ae ah (ae (B4 ah) aw)))) (ai (ai (aa 2) ah) ah)) aw))) cg) cg) (ax (kb (B6 (jq (ba (aa 6) (cf hu .eq ah)) (i8 (ba (i9 (B 4 _ rfl) (ae (aa 3) aw)) (cf hu .gt ah))))) (ax (E9 (yf (aa 3) (ae (aa 4) aw))) cg) cg) (ax (dm (E2 3)) cg)))))))))))
theorem dv6 (B:∀(j:Nat) x,qo[j]? = some x->mg x=none) (xf:XF K mg):DerP GL P w K mg base ents gg e6:=yj λn fa cdv A outer s H E hu C D =>
 (ax (bj 3 E3) (ax (Fe xf (D 1 _ rfl) (ae (aa 0) (ae (aa 1) (ae (aa 2) aw))) λ_=>(ax (bj 3 (aa 4)) cg)) (ax (kb (ba (aa 3) (cf hu .is E3)) (ax (dm j9) cg) cg) (ax (bj 5 (jh (ae (ly xf (B 9 _ rfl) (aa 3)) (ae (ly xf (B 9 _ rfl) (aa 3)) (ae (ly xf (B 9 _ rfl) (aa 3)) aw))))) (ax (E9 (f9 (aa 5) (ae (ly xf (B 9 _ rfl) (aa 3)) aw))) (ax (kb (B6 (jq (nk (ly xf (B 9 _ rfl) (aa 3))) (jq (nk (Ff xf (B 9 _ rfl) (B 10 _ rfl) (aa 3))) (i8 (ba G8 (cf hu .notin (aa 5))))))) (ax (dm j9) cg) cg) (ax (dm j9) cg)))))))
theorem dv7 (B:∀(j:Nat) x,qo[j]? = some x->mg x=none) (xf:XF K mg):DerP GL P w K mg base ents gg e7:=yj λn fa cdv A outer s H E hu C D =>
 (ax (ye (tx (aa 2)) (ka 3) (ax (kb (B6 (E4 (ba (aa 3) (cf hu .lt ah)) (zc (ba (aa 3) (cf hu .gt (aa 0)))))) (ax (dm j9) cg) cg) cg)) (ax (kb (ba (tw (B 1 _ rfl) (ae (aa 2) aw)) (cf hu .ne (ai (aa 1) (aa 0)))) (ax (dm j9) cg) cg) (ax (dm j9) cg)))
theorem dv8 (B:∀(j:Nat) x,qo[j]? = some x->mg x=none) (xf:XF K mg):DerP GL P w K mg base ents gg e8:=yj λn fa cdv A outer s H E hu C D =>
 (ax (bj 1 (c7 (C 3 _ rfl) (ae (c7 (C 1 _ rfl) (ae (aa 0) (ae ah aw))) aw))) (ax (bj 2 (c7 (C 2 _ rfl) (ae (c7 (C 1 _ rfl) (ae (aa 0) (ae ah aw))) (ae ah aw)))) (ax (bj 3 (ai ah (ai (aa 2) ah))) (ax (bj 4 (ai (ai (aa 2) ah) (ai (aa 3) ah))) (ax (bj 5 (c7 (C 4 _ rfl) (ae (aa 0) (ae (aa 1) (ae (aa 4) (ae (aa 3) aw)))))) (ax (kb (ba (c7 (C 6 _ rfl) (ae (aa 1) (ae (aa 4) (ae (ja (B 3 _ rfl) (ae (aa 5) aw)) aw)))) (cf hu .ne j9)) (ax (dm G8) cg) cg) (ax (ye (tx (ai (jh (ae ah aw)) (Lx (aa 0) Lv (Lw ah)))) (ka 6) (ax (bj 7 (c7 (C 2 _ rfl) (ae (aa 6) (ae ah aw)))) (ax (bj 8 (c7 (C 5 _ rfl) (ae (aa 5) (ae (aa 1) (ae (aa 7) aw))))) (ax (bj 9 (aa 4)) (ax (kb (ba (ai (ai (aa 7) ah) ah) (cf hu .eq ah)) (ax (bj 9 (ai (ai (ai (aa 4) ah) (ai (ai (aa 7) ah) ah)) ah)) cg) cg) (ax (kb (ba (c7 (C 6 _ rfl) (ae (aa 1) (ae (aa 9) (ae (ja (B 3 _ rfl) (ae (aa 8) aw)) aw)))) (cf hu .ne (c7 (C 7 _ rfl) (ae (aa 1) (ae (aa 9) (ae (aa 8) aw)))))) (ax (dm G8) cg) cg) cg)))))) (ax (dm G8) cg))))))))
theorem dx0 (B:∀(j:Nat) x,qo[j]? = some x->mg x=none) (xf:XF K mg):DerX GL P w K mg base ents gg x0:=Kc λn fa cdv A outer s H E hu C D W =>
 (gn (Kb (nk (B9 (B 0 _ rfl) (ae (E8 ["length","much"] (tx (aa 2)) (λ_ _ _ _=>⟨(ka 1),Ca,(Jf (Jh ah (Ly hu .le (aa 1) (Jg hu .le (aa 0)))))⟩)) aw))) (gn (uf xf W (ae j9 aw)) qf) qf) (gn (Kb (ba (tw (B 1 _ rfl) (ae (aa 2) aw)) (cf hu .ne (ai (aa 1) (aa 0)))) (gn (uf xf W (ae j9 aw)) qf) qf) qf))
theorem dx1 (B:∀(j:Nat) x,qo[j]? = some x->mg x=none) (xf:XF K mg):DerX GL P w K mg base ents gg x1:=Kc λn fa cdv A outer s H E hu C D W =>
 (gn (Ck W (D 0 _ rfl) (ae (aa 0) (ae (aa 1) (ae (aa 2) aw)))) (gn (Ji (bj 3 (jh aw))) (gn (Ji (bj 4 ah)) (gn (Ji (ye (Ci (B 2 _ rfl) (aa 2)) (E7 (ua 5 (ua 6 E6))) (ax (E9 (nq (aa 3) (ae (c7 (C 0 _ rfl) (ae (aa 5) (ae (aa 4) (ae (aa 6) (ae (aa 0) aw))))) aw))) (ax (bj 4 (ai (ai (aa 4) (aa 6)) (aa 0))) cg)))) (gn (Jj (ja (B 3 _ rfl) (ae (aa 3) aw))) qf)))))
theorem dvs (B:∀(j:Nat) x,qo[j]? = some x->mg x=none) (xf:XF K mg):∀(j:Nat) e,ents[j]? = some e->DerP GL P w K mg base ents gg e:=(Lp.c8 (dv0 B xf) (Lp.c8 (dv1 B xf) (Lp.c8 (dv2 B xf) (Lp.c8 (dv3 B xf) (Lp.c8 (dv4 B xf) (Lp.c8 (dv5 B xf) (Lp.c8 (dv6 B xf) (Lp.c8 (dv7 B xf) (Lp.c8 (dv8 B xf) Lp.Cw)))))))))
theorem dxs (B:∀(j:Nat) x,qo[j]? = some x->mg x=none) (xf:XF K mg):∀(j:Nat) e,gg[j]? = some e->DerX GL P w K mg base ents gg e:=(Lp.c8 (dx0 B xf) (Lp.c8 (dx1 B xf) Lp.Cw))
end
end Lp.Law
open PySem PySem.W PyProof.Rows
set_option maxRecDepth 100000 in
set_option maxHeartbeats 0 in
theorem PySem.Challenge.cw_lamprota_k14_ticks_refused_holds : PySem.Challenge.rw_lamprota_k14_ticks_refused.Holds := by
 w_on;o_law;k_head;(case hw=>w_witness2)
 k_fill
 refine Lp.yc (l:=PySem.Challenge.rw_lamprota_k14_ticks_refused) (n:=6) ⟨rfl,by decide,by decide⟩ rfl rfl (λw h Y=>PySem.W.kIn_of Y) ?F
 case F =>
  intro w mg fa h KX G hmg
  have m0:Lp.ModOf (L2.KOf KX) mg Lp.Law.e0:=by
   dsimp only[L2.KOf]
   refine' Lp.eo (e:=Lp.Law.e0) KX G ?a ?l ?c ?k λ_ _ _ _ _ _=>Lp.Law.ar4 λ_ _ _ _=>rfl
   all_goals try dsimp only[Lp.Law.e0]
   (case a=>k_is);(case l=>k_is);(case c=>k_is);(case k=>k_is)
  have m1:Lp.ModOf (L2.KOf KX) mg Lp.Law.e1:=by
   dsimp only[L2.KOf]
   refine' Lp.eo (e:=Lp.Law.e1) KX G ?a ?l ?c ?k λ_ _ _ _ _ _=>Lp.Law.ar2 λ_ _=>rfl
   all_goals try dsimp only[Lp.Law.e1]
   (case a=>k_is);(case l=>k_is);(case c=>k_is);(case k=>k_is)
  have m2:Lp.ModOf (L2.KOf KX) mg Lp.Law.e2:=by
   dsimp only[L2.KOf]
   refine' Lp.eo (e:=Lp.Law.e2) KX G ?a ?l ?c ?k λ_ _ _ _ _ _=>Lp.Law.ar2 λ_ _=>rfl
   all_goals try dsimp only[Lp.Law.e2]
   (case a=>k_is);(case l=>k_is);(case c=>k_is);(case k=>k_is)
  have m3:Lp.ModOf (L2.KOf KX) mg Lp.Law.e3:=by
   dsimp only[L2.KOf]
   refine' Lp.eo (e:=Lp.Law.e3) KX G ?a ?l ?c ?k λ_ _ _ _ _ _=>Lp.Law.ar1 λ_=>rfl
   all_goals try dsimp only[Lp.Law.e3]
   (case a=>k_is);(case l=>k_is);(case c=>k_is);(case k=>k_is)
  have m4:Lp.ModOf (L2.KOf KX) mg Lp.Law.e4:=by
   dsimp only[L2.KOf]
   refine' Lp.eo (e:=Lp.Law.e4) KX G ?a ?l ?c ?k λ_ _ _ _ _ _=>Lp.Law.ar4 λ_ _ _ _=>rfl
   all_goals try dsimp only[Lp.Law.e4]
   (case a=>k_is);(case l=>k_is);(case c=>k_is);(case k=>k_is)
  have m5:Lp.ModOf (L2.KOf KX) mg Lp.Law.e5:=by
   dsimp only[L2.KOf]
   refine' Lp.eo (e:=Lp.Law.e5) KX G ?a ?l ?c ?k λ_ _ _ _ _ _=>Lp.Law.ar3 λ_ _ _=>rfl
   all_goals try dsimp only[Lp.Law.e5]
   (case a=>k_is);(case l=>k_is);(case c=>k_is);(case k=>k_is)
  have m6:Lp.ModOf (L2.KOf KX) mg Lp.Law.e6:=by
   dsimp only[L2.KOf]
   refine' Lp.eo (e:=Lp.Law.e6) KX G ?a ?l ?c ?k λ_ _ _ _ _ _=>Lp.Law.ar3 λ_ _ _=>rfl
   all_goals try dsimp only[Lp.Law.e6]
   (case a=>k_is);(case l=>k_is);(case c=>k_is);(case k=>k_is)
  have m7:Lp.ModOf (L2.KOf KX) mg Lp.Law.e7:=by
   dsimp only[L2.KOf]
   refine' Lp.eo (e:=Lp.Law.e7) KX G ?a ?l ?c ?k λ_ _ _ _ _ _=>Lp.Law.ar3 λ_ _ _=>rfl
   all_goals try dsimp only[Lp.Law.e7]
   (case a=>k_is);(case l=>k_is);(case c=>k_is);(case k=>k_is)
  have m8:Lp.ModOf (L2.KOf KX) mg Lp.Law.e8:=by
   dsimp only[L2.KOf]
   refine' Lp.eo (e:=Lp.Law.e8) KX G ?a ?l ?c ?k λ_ _ _ _ _ _=>Lp.Law.ar1 λ_=>rfl
   all_goals try dsimp only[Lp.Law.e8]
   (case a=>k_is);(case l=>k_is);(case c=>k_is);(case k=>k_is)
  have n0:Lp.ModOf (L2.KOf KX) mg Lp.Law.x0:=by
   dsimp only[L2.KOf]
   refine' Lp.eo (e:=Lp.Law.x0) KX G ?a ?l ?c ?k λ_ _ _ _ _ _=>Lp.Law.ar3 λ_ _ _=>rfl
   all_goals try dsimp only[Lp.Law.x0]
   (case a=>k_is);(case l=>k_is);(case c=>k_is);(case k=>k_is)
  have n1:Lp.ModOf (L2.KOf KX) mg Lp.Law.x1:=by
   dsimp only[L2.KOf]
   refine' Lp.eo (e:=Lp.Law.x1) KX G ?a ?l ?c ?k λ_ _ _ _ _ _=>Lp.Law.ar3 λ_ _ _=>rfl
   all_goals try dsimp only[Lp.Law.x1]
   (case a=>k_is);(case l=>k_is);(case c=>k_is);(case k=>k_is)
  have xf:Lp.XF (L2.KOf KX) mg:=by
   dsimp only[L2.KOf]
   refine' Lp.Jk KX G ?n0 ?n1 ?n2 ?n3 ?n4 ?n5 ?l ?c1 ?c2 ?c3 ?c4
   (case n0=>k_is);(case n1=>k_is);(case n2=>k_is);(case n3=>k_is);(case n4=>k_is);(case n5=>k_is);(case l=>kernel_rfl)
   (case c1=>exact⟨⟨by k_is,by k_is,by k_is,by k_is,by k_is⟩,by kernel_rfl,by k_is,by kernel_rfl,by kernel_rfl,by kernel_rfl,by kernel_rfl,by kernel_rfl,by kernel_rfl,by kernel_rfl⟩);(case c2=>exact⟨⟨by k_is,by k_is,by k_is,by k_is,by k_is⟩,by kernel_rfl,by k_is,by kernel_rfl,by kernel_rfl,by kernel_rfl,by kernel_rfl,by kernel_rfl,by kernel_rfl,by kernel_rfl⟩);(case c3=>exact⟨⟨by k_is,by k_is,by k_is,by k_is,by k_is⟩,by kernel_rfl,by k_is,by kernel_rfl,by kernel_rfl,by kernel_rfl,by kernel_rfl,by kernel_rfl,by kernel_rfl,by kernel_rfl⟩);(case c4=>exact⟨⟨by k_is,by k_is,by k_is,by k_is,by k_is⟩,by kernel_rfl,by k_is,by kernel_rfl,by kernel_rfl,by kernel_rfl,by kernel_rfl,by kernel_rfl,by kernel_rfl,by kernel_rfl⟩)
  have b0:mg "any"=none:=by
   refine' BB KX G ?z
   (case z=>k_is)
  have b1:mg "sum"=none:=by
   refine' BB KX G ?z
   (case z=>k_is)
  have b2:mg "enumerate"=none:=by
   refine' BB KX G ?z
   (case z=>k_is)
  have b3:mg "tuple"=none:=by
   refine' BB KX G ?z
   (case z=>k_is)
  have b4:mg "len"=none:=by
   refine' BB KX G ?z
   (case z=>k_is)
  have b5:mg "range"=none:=by
   refine' BB KX G ?z
   (case z=>k_is)
  have b6:mg "max"=none:=by
   refine' BB KX G ?z
   (case z=>k_is)
  have b7:mg "min"=none:=by
   refine' BB KX G ?z
   (case z=>k_is)
  have b8:mg "list"=none:=by
   refine' BB KX G ?z
   (case z=>k_is)
  have b9:mg "isinstance"=none:=by
   refine' BB KX G ?z
   (case z=>k_is)
  have b10:mg "ValueError"=none:=by
   refine' BB KX G ?z
   (case z=>k_is)
  exact Lp.yi (T:=Lp.GL) (es:=Lp.Law.ents) (xs:=Lp.Law.gg) (n:=6) (j:=8) (e:=Lp.Law.e8) (Lp.c8 m0 (Lp.c8 m1 (Lp.c8 m2 (Lp.c8 m3 (Lp.c8 m4 (Lp.c8 m5 (Lp.c8 m6 (Lp.c8 m7 (Lp.c8 m8 Lp.Cw))))))))) (Lp.c8 n0 (Lp.c8 n1 Lp.Cw)) (λbase=>Lp.Law.dvs (Lp.c8 b0 (Lp.c8 b1 (Lp.c8 b2 (Lp.c8 b3 (Lp.c8 b4 (Lp.c8 b5 (Lp.c8 b6 (Lp.c8 b7 (Lp.c8 b8 (Lp.c8 b9 (Lp.c8 b10 Lp.Cw))))))))))) xf) (λbase=>Lp.Law.dxs (Lp.c8 b0 (Lp.c8 b1 (Lp.c8 b2 (Lp.c8 b3 (Lp.c8 b4 (Lp.c8 b5 (Lp.c8 b6 (Lp.c8 b7 (Lp.c8 b8 (Lp.c8 b9 (Lp.c8 b10 Lp.Cw))))))))))) xf) rfl hmg rfl (λns hn=>Lr.Jv ns)
