import PyProof.Rows.All
import Wide.All
import OpenK.AllK
import Wide.FinOn
import Lean
import PyProof.EqAt
import PyProof.EqKinds
import PyProof.TupleCall
import PySem.Syntax
import PyProof.Rows.ZipGen
import PyProof.EnumMake
import PyProof.EnumFor
import PyProof.Rows.EnumRows
import PyProof.DictValues
import KE.KSortTup
import PyProof.Rows.SetFrom
import PyProof.WalksMore
import PyProof.FactsAll.set
import PyProof.ForAny
import PyProof.CollectWalk
import PyProof.ListRange
import PyProof.Rows.SortShell
import PyProof.AttrMissHeap
import PySem.Challenge.RW_lamprota_k02_books_refused
noncomputable section
local macro_rules | `(tactic| simp! [$ls,*] $[$l:location]?) => `(tactic| simp only [$ls,*] $[$l]?)
open PySem renaming wpAny_bind -> AA, wpAny_pure -> AI, wpAny_mono -> BI, wpAny_field -> BO, wpAny_callSpecial?_slot -> CC, wpAny_newObj_type -> CG, wpAny_Call_Name_kw -> CL, wpAny_seqItems -> CP, wpAny_loadPart_at -> CQ, wpAny_setField_rec -> Db, mem_of_lookup -> DE, wpAny_call_entry -> DG, wpAny_loadPart' -> DM, wpAny_holding -> DO, wpAny_truthy_bool -> DU, wpAny_comprehension_free -> EE, wpAny_passesOwn -> EF, richCompare_meets_room -> EK, sizeLine_eq -> FB, wpAny_updateSeq_pair -> FD, wpAny_execs_nil -> FE, wpAny_ite_split -> FJ, codeAny_mono -> FM, wpAny_newFunctionEnv_cells -> FU, call_meets -> FW, tupleKind_room_in1 -> FX, wpAny_setField -> FY, wpAny_pyIter_tuple -> FZ, wpAny_pyIter_list -> GF, wpAny_standAt -> GG, wpAny_onRaise -> GJ, wpAny_forIn_list -> GN, noFill_tuple_add -> GO, wpAny_typeOf -> GW, wpAny_rule -> GZ, wpAny_letGo -> HH
open List renaming getElem?_eq_getElem -> AB, prefix_refl -> AD, size_toArray -> AE, getElem?_eq_some_iff -> AF, length_map -> AG, mem_cons -> AJ, getElem?_append_left -> AK, all_eq_true -> AO, mem_cons_of_mem -> AR, mem_append_right -> AS, mem_cons_self -> AT, getElem?_map -> AU, mem_of_getElem? -> AV, map_cons -> AX, all_cons -> AY, getElem?_set_self -> AZ, getElem?_set_ne -> BB, append_nil -> BD, length_cons -> BJ, getElem?_append_right -> BK, length_append -> BM, not_mem_nil -> BP, length_nil -> BU, append_assoc -> BW, mem_map -> BX, map_map -> BY, mem_singleton -> BZ, getElem?_replicate -> CB, filterMap_cons -> CI, mem_or_eq_of_mem_set -> CK, zip_cons_cons -> CM, all_map -> CN, mem_append -> CT, nil_prefix -> CU, replicate_succ -> CV, any_cons -> CY, pairwise_cons -> Do, nodup_append -> DA, eq_of_mem_replicate -> DD, length_take -> DF, lookup_cons -> DH, all_nil -> DL, find?_cons -> DN, flatten_cons -> DV, mem_range'_1 -> DW, getD_eq_getElem?_getD -> DZ, map_set -> EA, drop_eq_getElem_cons -> EB, forIn_cons -> EG, take_of_length_le -> EO, eraseIdxIfInBounds_toArray -> ER, length_replicate -> ES, length_singleton -> ET, getElem?_eq_none -> EV, getElem?_toArray -> EW, mem_append_left -> FA, nodup_cons -> FF, of_mem_zip -> FG, map_nil -> FN, zip_nil_right -> FV, zip_nil_left -> Gt, reverse_cons -> GA, getElem?_take_of_lt -> GI, getElem_inj -> GM, eraseIdx_cons_succ -> GP, cons_append -> GQ, length_eq_zero_iff -> GS, drop_length -> GU, range_succ_eq_map -> GY, mem_filter -> HB, dropLast_eq_take -> HC, contains_iff_mem -> HD, mem_range -> HE
open PySem.Heap renaming get?_push_of_some -> AC, lt_size -> AH, get?_push_size -> AQ, size_push -> CO, get?_update_other -> CW, get?_update_self -> DR
open Nat renaming lt_of_lt_of_le -> AL, ne_of_lt -> AM, le_refl -> AN, lt_irrefl -> BQ, le_trans -> CF, le_of_lt -> DJ, ne_of_gt -> Ev, lt_succ_of_lt -> EM, lt_succ_self -> EY, le_succ -> GB, zero_le -> GD
open Bool renaming and_eq_true -> AW, false_ne_true -> BH, false_eq_true -> CA, and_true -> DB, true_and -> DC, beq_eq_decide_eq -> DT
open Option.some renaming inj -> BC, injEq -> BF
open PySem.W renaming mg_none_of -> BL, hideAll_none -> BR, hideAll_get -> CH, of_hideAll -> CZ, mg_of -> DP, cellsFrom_some -> EJ, callWith_K -> FT, codeRec_of -> HL
open PyProof.Rows renaming slot_tuple_getitem -> BN, callWith_type1 -> CD, boot_tuple -> GV, boot_list -> HA
open Int renaming emod_lt_of_pos -> BS, emod_nonneg -> BV, toNat_natCast -> CS, eq_ofNat_of_zero_le -> DI, fdiv_eq_ediv_of_nonneg -> FR
open Array renaming length_toList -> CJ, getElem?_toList -> DS, getElem?_eq_some_iff -> DY
open PySem.F renaming slot_tuple_iterator_next -> Da, args_tuple_add_2 -> ED, entry_tuple_add -> EI, slot_tuple_add -> EL, plainAttrs_list -> EN, typeOf_object_class -> EU, excBase_ValueError -> FC, slot_list_pop -> FH, args_tuple_iterator_next_1 -> FK, slot_zip_next -> FL, entry_tuple_iterator_next -> FO
open Option renaming map_eq_some_iff -> DK, map_some -> FI, isSome_map -> GC, isSome_iff_exists -> GH, bind_eq_some_iff -> GR
open PySem.AutoSeq1 renaming sub_tuple_tuple -> EC
open PySem.Obj renaming data_mapFields -> EH
open PySem.Paired renaming length -> EZ
open PySem.Calls renaming Name_function_global -> FP, spliced_cons -> FS, spliced_nil -> Go, callWith_builtin -> GX, evalArgs_plain -> HG
open Prod.mk renaming injEq -> GK
open PySem.Around renaming frames_deeper -> HF
open PySem.Heap.SameBut renaming update -> HI
open PySem.SeqAt.EqAt renaming int_str -> HJ, str_int -> HK, int_int -> HM
set_option Elab.async false
set_option linter.all false
set_option maxRecDepth 100000
namespace L2
open PySem PySem.Spec PyProof.Rows
abbrev Key:=Sum Int Str
def yc:Key->Value->Bool
 | .inl k,v=>Value.isInt k v
 | .inr x,v=>Value.isStrOf x v
def Qf (w:World):Key->Int
 | .inl k=>hashInt k
 | .inr x=>hashStr w x
theorem cj:∀{k:Key} {v:Value},yc k v=true->(∃i t,k=Sum.inl i/\v=Value.int i t)\/(∃x t,k=Sum.inr x/\v=Value.str x t)
 | .inl i,v,h=>by
  obtain⟨t,e⟩:=Value.isInt_shape (k:=i) (v:=v) h
  exact .inl ⟨i,t,rfl,e⟩
 | .inr x,v,h=>by
  obtain⟨t,e⟩:=Value.isStrOf_shape (x:=x) (v:=v) h
  exact .inr ⟨x,t,rfl,e⟩
theorem zm (i:Int) (t:Tok):yc (.inl i) (.int i t)=true:=by simp[yc,Value.isInt]
theorem zo (x:Str) (t:Tok):yc (.inr x) (.str x t)=true:=by simp[yc,Value.isStrOf]
theorem Hj (a b:Int):decide ((Sum.inl a:Key)=Sum.inl b)=(a==b):=by
 by_cases e:a=b
 ·subst e;simp
 ·have h:¬(Sum.inl a:Key)=Sum.inl b:=λq=>e (Sum.inl.inj q)
  rw[decide_eq_false h]
  exact(beq_eq_false_iff_ne.mpr e).symm
theorem Hk (a b:Str):decide ((Sum.inr a:Key)=Sum.inr b)=decide (a=b):=by
 by_cases e:a=b
 ·subst e;simp
 ·have h:¬(Sum.inr a:Key)=Sum.inr b:=λq=>e (Sum.inr.inj q)
  rw[decide_eq_false h,decide_eq_false e]
theorem Hl (a:Int) (b:Str):decide ((Sum.inl a:Key)=Sum.inr b)=false:=decide_eq_false (λq=>nomatch q)
theorem Hm (a:Str) (b:Int):decide ((Sum.inr a:Key)=Sum.inl b)=false:=decide_eq_false (λq=>nomatch q)
def dz (prog:Program) (w:World):PySem.KeyKind prog w Key where
 is:=yc
 hash:=Qf w
 inj:=λv a b ha hb=>by
  rcases cj ha with⟨i,t,rfl,rfl⟩ | ⟨x,t,rfl,rfl⟩
  ·rcases cj hb with⟨j,u,rfl,e⟩ | ⟨y,u,rfl,e⟩
   ·injection e with e1 _;rw[e1]
   ·exact nomatch e
  ·rcases cj hb with⟨j,u,rfl,e⟩ | ⟨y,u,rfl,e⟩
   ·exact nomatch e
   ·injection e with e1 _;rw[e1]
 byValue:=λk v h=>by
  rcases cj h with⟨i,t,rfl,rfl⟩ | ⟨x,t,rfl,rfl⟩<;>rfl
 pyHash:=λhv h=>by
  rcases cj hv with⟨i,t,rfl,rfl⟩ | ⟨x,t,rfl,rfl⟩
  ·exact wpAny_pyHash_int h
  ·exact wpAny_pyHash_str h
 eqBool:=λhu hv h=>by
  rcases cj hu with⟨i,t,rfl,rfl⟩ | ⟨x,t,rfl,rfl⟩
  ·rcases cj hv with⟨j,u,rfl,rfl⟩ | ⟨y,u,rfl,rfl⟩
   ·rw[Hj]at h;exact wpAny_eqBool_int h
   ·rw[Hl]at h;exact HJ i t y u _ _ _ _ h
  ·rcases cj hv with⟨j,u,rfl,rfl⟩ | ⟨y,u,rfl,rfl⟩
   ·rw[Hm]at h;exact HK x t j u _ _ _ _ h
   ·rw[Hk]at h;exact wpAny_eqBool_str h
 «strs»:=λk x t v h=>by
  rcases cj h with⟨i,u,rfl,e⟩ | ⟨y,u,rfl,e⟩
  ·exact nomatch e
  ·injection e with e1 _
   subst e1
   cases v<;>rfl
theorem ur (prog:Program) (w:World) (i:Int) (t:Tok):(dz prog w).is (.inl i) (.int i t)=true:=zm i t
theorem uu (prog:Program) (w:World) (x:Str) (t:Tok):(dz prog w).is (.inr x) (.str x t)=true:=zo x t
inductive V where
 | non | bl (b:Bool) | int (i:Int) | str (x:Str) | byt (b:Array UInt8) | flt (b:UInt64) | ref (a:Addr) | ty (n:String)
 deriving DecidableEq
def RelV:V->Value->Prop
 | .non,u=>u=Value.none
 | .bl b,u=>u=Value.bool b
 | .int i,u=>∃t,u=Value.int i t
 | .str x,u=>∃t,u=Value.str x t
 | .byt b,u=>∃t,u=Value.bytes b t
 | .flt b,u=>∃t,u=Value.float b t
 | .ref a,u=>u=Value.ref a
 | .ty n,u=>u=Value.type n
abbrev bw:List V->List Value->Prop:=Paired RelV
theorem bw.length {xs:List V} {us:List Value} (r:bw xs us):xs.length=us.length:=EZ r
theorem bw.get:∀{xs:List V} {us:List Value} {i:Nat} {x:V},bw xs us->xs[i]? = some x->∃u,us[i]? = some u/\RelV x u
 | _,_,_,_,.nil,e=>by simp at e
 | _,_,0,_,.cons r _,e=>by simp at e;subst e;exact⟨_,rfl,r⟩
 | _,_,i+1,x,.cons _ t,e=>by
  obtain⟨u,h1,h2⟩:=bw.get (i:=i) (x:=x) t (by simpa using e)
  exact⟨u,by simpa using h1,h2⟩
theorem bw.set {x:V} {u:Value} (r:RelV x u):∀{xs:List V} {us:List Value} (i:Nat),bw xs us->bw (xs.set i x) (us.set i u)
 | _,_,_,.nil=>.nil
 | _,_,0,.cons _ t=>.cons r t
 | _,_,i+1,.cons q t=>.cons q (bw.set r i t)
theorem bw.append:∀{xs ys:List V} {us ws:List Value},bw xs us->bw ys ws->bw (xs++ys) (us++ws)
 | _,_,_,_,.nil,s=>s
 | _,_,_,_,.cons r t,s=>.cons r (bw.append t s)
theorem bw.take:∀{xs:List V} {us:List Value} (n:Nat),bw xs us->bw (xs.take n) (us.take n)
 | _,_,0,_=>.nil
 | _,_,_+1,.nil=>.nil
 | _,_,n+1,.cons r t=>.cons r (bw.take n t)
theorem bw.drop:∀{xs:List V} {us:List Value} (n:Nat),bw xs us->bw (xs.drop n) (us.drop n)
 | _,_,0,r=>r
 | _,_,_+1,.nil=>.nil
 | _,_,n+1,.cons _ t=>bw.drop n t
def He:Option V->Option Value->Prop
 | some v,some u=>RelV v u
 | none,none=>True
 | _,_=>False
def KV {κ:Type}:List (κ×V)->List (κ×Value)->Prop:=Paired fun(p:κ×V) (q:κ×Value)=>p.1=q.1/\RelV p.2 q.2
def kV:Key->V
 | .inl i=>.int i
 | .inr x=>.str x
inductive HO where
 /-- a list -/
 | lst (xs:List V)
 /-- a tuple (never changes) -/
 | tup (xs:List V)
 /-- a dict whose keys are ints and texts;one whose keys are tuples of ints and texts (the empty one is both) -/
 | dK (kvs:List (Key×V)) | dT (kvs:List (List Key×V))
 /-- a set of ints: its members,its size -/
 | set (S:Int->Bool) (n:Nat)
 /-- an instance of the class at C,its dict at dx,its attributes -/
 | ins (C dx:Addr) (fs:List (Str×V))
 /-- the dict of the instance at x -/
 | own (x:Addr)
 /-- the dict of an exception -/
 | xd (fs:List (Str×V))
 /-- a bound method,f of x -/
 | met (f x:Addr)
 /-- a range object lo,lo+1,.. below hi -/
 | rng (lo hi:Int)
 /-- a thing that is known to the object (the script;a dict while a loop walks it): read,never written while it is so -/
 | frz (o:Obj) (u:HO)
 /-- a code object's table -/
 | tbl (ps:Array Value)
 /-- any other thing,by what is true of its one object (a def of one's own: SetO a S n:=HO.ext λh=>..) -/
 | ext (φ:Heap->Prop)
abbrev Hp:=Addr->Option HO
def upd (H:Hp) (a:Addr) (o:HO):Hp:=λb=>if b=a then some o else H b
theorem br {H:Hp} {a:Addr} {o:HO}:upd H a o a=some o:=by unfold upd;rw[if_pos rfl]
theorem aw {H:Hp} {a b:Addr} {o:HO} (h:b≠a):upd H a o b=H b:=by unfold upd;rw[if_neg h]
theorem Eo {H:Hp} {a:Addr} {o u:HO}:upd (upd H a o) a u=upd H a u:=by
 funext b;unfold upd;split<;>rfl
theorem o9 {H:Hp} {a b:Addr} {o u:HO} (h:H a=some o) (h':H b=some u) (d:o≠u):a≠b:=by
 intro e;subst e;rw[h]at h';exact d (BC h')
theorem ax {H:Hp} {a b:Addr} {o:HO} (h:H a=some o) (h':H b=none):a≠b:=by
 intro e;subst e;rw[h]at h';cases h'
def l6 (h:Heap) (a:Addr) (items:Array Value):Prop:=∃o,h.get? a=some o/\o.cls=.type "tuple"/\o.dict=none/\∃n,o.data=.seq items n
theorem l6.tup {h:Heap} {a:Addr} {items:Array Value} (x:l6 h a items):IsTup h a items:=let ⟨o,e,c,_,d⟩:=x;⟨o,e,c,d⟩
theorem l6.new (h:Heap) (items:Array Value):l6 (h.push {cls:=.type "tuple",data:=.seq items}) h.objs.size items:=⟨_,AQ _ rfl,rfl,rfl,_,rfl⟩
section
variable (P : Program) (w : World)
def fw (H:Hp) (h:Heap) (a:Addr):HO->Prop
 | .lst xs=>xs.length<=sizeLine/\∃(its:List Value) (n:Nat),bw xs its/\h.get? a=some {cls:=.type "list",data:=.seq its.toArray n}
 | .tup xs=>xs.length<=sizeLine/\∃its:List Value,bw xs its/\l6 h a its.toArray
 | .dK kvs=>kvs.length<=sizeLine/\(a==sysModules)=false/\∃vs,KV kvs vs/\h.DictOf (dz P w) a vs
 | .dT kvs=>kvs.length<=sizeLine/\(a==sysModules)=false/\∃xs:List (List Key×Addr×Value),
   Paired (fun(p:List Key×V) (q:List Key×Addr×Value)=>p.1=q.1/\H q.2.1=some (.tup (p.1.map kV))/\RelV p.2 q.2.2) kvs xs /\
   ∃o es ep,h.get? a=some o/\o.ExactDict/\o.data=.dict es ep/\es.toList=xs.map (entryOfKey (tupleKind (dz P w)))/\(xs.map (·.1)).Nodup
 | .set S n=>h.SetOf (intKind P w) a S n
 | .ins C dx fs=>H dx=some (.own a)/\fs.length<=1000/\dx≠a/\h.get? a=some (PySem.W.instObj C dx) /\
   ∃mA,h.Ns1 dx mA/\(∀f,He (fs.lookup f) (mA f))/\PySem.Within mA (fs.map (·.1))
 | .own _=>∃o,h.get? a=some o
 | .xd fs=>∃mA,h.Ns1 a mA/\∀f,He (fs.lookup f) (mA f)
 | .rng lo hi=>∃t u v,h.get? a=some {cls:=.type "range",data:=.fields #[.int lo t,.int hi u,.int 1 v]}
 | .frz o u=>h.get? a=some o/\fw H h a u
 | .tbl ps=>h.get? a=some {cls:=.none,data:=.fields ps}
 | .met f x=>h.get? a=some (PySem.W.methodObj (.ref f) (.ref x))
 | .ext φ=>φ h/\(∃o,h.get? a=some o)/\∀h1 h2:Heap,φ h1->(∀o,h1.get? a=some o->h2.get? a=some o)->φ h2
def HOk (H:Hp) (h:Heap):Prop:=∀a o,H a=some o->fw P w H h a o
end
section
variable {P : Program} {w : World} {H H' : Hp} {h h' : Heap} {a : Addr} {o : HO}
theorem fw.lt (x:fw P w H h a o):a<h.objs.size:=by
 cases o with
 | lst xs=>obtain⟨_,_,_,_,e⟩:=x;exact AH e
 | tup xs=>obtain⟨_,_,_,p⟩:=x;exact p.tup.lt
 | dK kvs=>obtain⟨_,_,_,_,o,_,_,e,_⟩:=x;exact AH e
 | dT kvs=>obtain⟨_,_,_,_,o,_,_,e,_⟩:=x;exact AH e
 | set S n=>obtain⟨o,_,_,_,e,_⟩:=x;exact AH e
 | ins C dx fs=>obtain⟨_,_,_,e,_⟩:=x;exact AH e
 | own y=>obtain⟨_,e⟩:=x;exact AH e
 | xd fs=>obtain⟨_,⟨_,_,_,e,_⟩,_⟩:=x;exact AH e
 | rng lo hi=>obtain⟨_,_,_,e⟩:=x;exact AH e
 | frz ob u=>obtain⟨e,_⟩:=x;exact AH e
 | tbl ps=>exact AH (show h.get? a=some _ from x)
 | met f y=>exact AH (show h.get? a=some _ from x)
 | ext φ=>obtain⟨_,⟨_,e⟩,_⟩:=x;exact AH e
theorem Paired.mapP {α β:Type} {F G:α->β->Prop}:∀{l₁:List α} {l₂:List β},Paired F l₁ l₂->(∀a b,F a b->G a b)->Paired G l₁ l₂
 | _,_,.nil,_=>.nil
 | _,_,.cons r t,f=>.cons (f _ _ r) (Paired.mapP t f)
theorem fw.stay (x:fw P w H h a o) (k:∀b u,(b=a\/H b=some (.own a))->h.get? b=some u->h'.get? b=some u)
  (ho:∀b,H b=some (.own a)->H' b=some (.own a)) (ht:∀b xs,H b=some (.tup xs)->H' b=some (.tup xs)):fw P w H' h' a o:=by
 induction o with
 | lst xs=>obtain⟨z,its,n,r,e⟩:=x;exact⟨z,its,n,r,k _ _ (.inl rfl) e⟩
 | tup xs=>obtain⟨z,its,r,ob,e,c⟩:=x;exact⟨z,its,r,ob,k _ _ (.inl rfl) e,c⟩
 | dK kvs=>obtain⟨z,y,vs,r,ob,es,ep,e,c⟩:=x;exact⟨z,y,vs,r,ob,es,ep,k _ _ (.inl rfl) e,c⟩
 | dT kvs =>
  obtain⟨z,y,xs,r,ob,es,ep,e,c⟩:=x
  exact⟨z,y,xs,Paired.mapP r λp q z=>⟨z.1,ht _ _ z.2.1,z.2.2⟩,ob,es,ep,k _ _ (.inl rfl) e,c⟩
 | set S n=>obtain⟨ob,es,ep,t,e,c⟩:=x;exact⟨ob,es,ep,t,k _ _ (.inl rfl) e,c⟩
 | ins C dx fs =>
  obtain⟨d,z,ne,e,mA,⟨od,es,ep,e2,c⟩,r⟩:=x
  exact⟨ho _ d,z,ne,k _ _ (.inl rfl) e,mA,⟨od,es,ep,k _ _ (.inr d) e2,c⟩,r⟩
 | own y=>obtain⟨ob,e⟩:=x;exact⟨ob,k _ _ (.inl rfl) e⟩
 | xd fs=>obtain⟨mA,⟨od,es,ep,e,c⟩,r⟩:=x;exact⟨mA,⟨od,es,ep,k _ _ (.inl rfl) e,c⟩,r⟩
 | rng lo hi=>obtain⟨t,u,v,e⟩:=x;exact⟨t,u,v,k _ _ (.inl rfl) e⟩
 | frz ob u ih=>obtain⟨e,q⟩:=x;exact⟨k _ _ (.inl rfl) e,ih q⟩
 | tbl ps =>
  have e:h.get? a=some {cls:=.none,data:=.fields ps}:=x
  show h'.get? a=some {cls:=.none,data:=.fields ps}
  exact k a _ (.inl rfl) e
 | met f y =>
  have e:h.get? a=some (PySem.W.methodObj (.ref f) (.ref y)):=x
  show h'.get? a=some (PySem.W.methodObj (.ref f) (.ref y))
  exact k a _ (.inl rfl) e
 | ext φ=>obtain⟨p,⟨o,e⟩,st⟩:=x;exact⟨st _ _ p λo q=>k _ _ (.inl rfl) q,⟨o,k _ _ (.inl rfl) e⟩,st⟩
theorem HOk.lt (x:HOk P w H h) (e:H a=some o):a<h.objs.size:=(x a o e).lt
theorem HOk.fresh (x:HOk P w H h) (e:h.objs.size<=a):H a=none:=by
 cases q:H a with
 | none=>rfl
 | some u=>exact absurd (AL (x.lt q) e) (BQ _)
theorem HOk.kept (x:HOk P w H h) (k:∀b u,h.get? b=some u->h'.get? b=some u):HOk P w H h':=λa o e =>
 (x a o e).stay (λb u _ q=>k b u q) (λ_ q=>q) λ_ _ q=>q
theorem HOk.laid (x:HOk P w H h) (k:∀b u,h.get? b=some u->h'.get? b=some u) (hp:h.objs.size<=a) (new:fw P w (upd H a o) h' a o):HOk P w (upd H a o) h':=λb u e=>by
 have hn:=x.fresh hp
 by_cases hb:b=a
 ·subst hb;rw[br]at e;cases e;exact new
 ·rw[aw hb]at e
  exact(x b u e).stay (λc v _ q=>k c v q) (λc q=>by rw[aw (ax q hn)];exact q) λc xs q=>by rw[aw (ax q hn)];exact q
end
def Rd (H:Hp) (a:Addr) (u:HO):Prop:=H a=some u\/∃o,H a=some (.frz o u)
theorem Rd.ok {P:Program} {w:World} {H:Hp} {h:Heap} {a:Addr} {u:HO} (r:Rd H a u) (x:HOk P w H h):fw P w H h a u:=by
 rcases r with r | ⟨o,r⟩
 ·exact x a u r
 ·obtain⟨_,q⟩:=x a _ r
  exact q
def Mut:Option HO->Prop
 | some (.lst _)=>True
 | some (.dK _)=>True
 | some (.dT _)=>True
 | some (.set _ _)=>True
 | some (.ins _ _ _)=>True
 | some (.ext _)=>True
 | _=>False
section
variable {P : Program} {w : World} {H : Hp} {h h' : Heap} {x e : Addr} {o' : HO}
theorem HOk.write (ok:HOk P w H h) (mu:Mut (H x)) (he:e=x\/H e=some (.own x)) (k:∀b u,b≠e->h.get? b=some u->h'.get? b=some u) (heo:∃u,h'.get? e=some u)
  (new:fw P w (upd H x o') h' x o'):HOk P w (upd H x o') h':=λb u q=>by
 have nown:∀c y,H c=some (.own y)->c≠x:=λc y r z=>by subst z;rw[r]at mu;exact mu
 have ntup:∀c xs,H c=some (.tup xs)->c≠x:=λc xs r z=>by subst z;rw[r]at mu;exact mu
 by_cases hb:b=x
 ·subst hb;rw[br]at q;cases q;exact new
 ·rw[aw hb]at q
  by_cases hbe:b=e
  ·have q':H b=some (.own x):=by
    rcases he with z | z
    ·exact absurd (hbe.trans z) hb
    ·rw[hbe];exact z
   rw[q]at q';cases q'
   obtain⟨v,hv⟩:=heo
   exact⟨v,by rw[hbe];exact hv⟩
  ·refine(ok b u q).stay (λc v hc r=>k c v ?_ r) (λc r=>by rw[aw (nown c b r)];exact r) λc xs r=>by rw[aw (ntup c xs r)];exact r
   rcases hc with rfl | hc
   ·exact hbe
   ·rintro rfl
    rcases he with z | z
    ·exact nown c b hc z
    ·rw[hc]at z;cases z;exact hb rfl
end
structure Un (fs ex:List Addr) (H H':Hp) (h h':Heap):Prop where
 keep:∀b o,h.get? b=some o->H b=none->b∉fs->b∉ex->h'.get? b=some o
 slot:∀b o,h.get? b=some o->H b=none->b∈fs->b∉ex->∃sl,h'.get? b=some {o with slots:=sl}
 free:∀b o,h.get? b=some o->H b=none->b∉ex->H' b=none
 there:∀b o,h.get? b=some o->b∉ex->∃o',h'.get? b=some o'
 tups:∀b xs,H b=some (.tup xs)->H' b=some (.tup xs)
 frzs:∀b o u,H b=some (.frz o u)->H' b=some (.frz o u)
 tbls:∀b ps,H b=some (.tbl ps)->∃more,H' b=some (.tbl (ps++more))
section
variable {fs fs' ex ex' : List Addr} {H H1 H2 : Hp} {h h1 h2 h' : Heap} {a x e : Addr} {o : HO}
theorem Un.any (u:Un fs ex H H1 h h1) {b:Addr} {ob:Obj} (q:h.get? b=some ob) (n:H b=none) (hx:b∉ex):∃sl,h1.get? b=some {ob with slots:=sl}:=by
 by_cases hb:b∈fs
 ·exact u.slot b ob q n hb hx
 ·exact⟨ob.slots,u.keep b ob q n hb hx⟩
theorem Un.kept (k:∀b u,h.get? b=some u->h'.get? b=some u):Un fs ex H H h h' :=
 ⟨λb ob q _ _ _=>k b ob q,λb ob q _ _ _=>⟨ob.slots,k b ob q⟩,λ_ _ _ n _=>n,λb ob q _=>⟨ob,k b ob q⟩,λ_ _ q=>q,λ_ _ _ q=>q,λ_ ps q=>⟨#[],by rw[q];simp⟩⟩
theorem Un.refl:Un fs ex H H h h:=Un.kept λ_ _ q=>q
theorem Un.laid (k:∀b u,h.get? b=some u->h'.get? b=some u) (hp:h.objs.size<=a) (hn:H a=none):Un fs ex H (upd H a o) h h' where
 keep:=λb u q _ _ _=>k b u q
 slot:=λb u q _ _ _=>⟨u.slots,k b u q⟩
 free:=λb u q n _=>by rw[aw (AM (AL (AH q) hp))];exact n
 there:=λb u q _=>⟨u,k b u q⟩
 tups:=λb xs q=>by rw[aw (ax q hn)];exact q
 frzs:=λb u xs q=>by rw[aw (ax q hn)];exact q
 tbls:=λb ps q=>⟨#[],by rw[aw (ax q hn),q];simp⟩
theorem Un.write (mu:Mut (H x)) (he:e=x\/H e=some (.own x)) (k:∀b u,b≠e->h.get? b=some u->h'.get? b=some u) (heo:∃u,h'.get? e=some u):Un fs ex H (upd H x o) h h':=by
 have hx:∀b,H b=none->b≠x:=λb n z=>by subst z;rw[n]at mu;exact mu
 have hb:∀b,H b=none->b≠e:=λb n z=>by
  subst z
  rcases he with r | r
  ·exact hx b n r
  ·rw[n]at r;cases r
 have hm:∀b u,H b=some u->¬Mut (some u)->b≠x:=λb u q nm z=>by subst z;rw[q]at mu;exact nm mu
 refine⟨λb u q n _ _=>k b u (hb b n) q,λb u q n _ _=>⟨u.slots,k b u (hb b n) q⟩,λb u q n _=>by rw[aw (hx b n)];exact n,λb u q _=>?_,
  λb xs q=>by rw[aw (hm b _ q λz=>z)];exact q,λb u xs q=>by rw[aw (hm b _ q λz=>z)];exact q,λb ps q=>⟨#[],by rw[aw (hm b _ q λz=>z),q];simp⟩⟩
 by_cases hbe:b=e
 ·subst hbe;exact heo
 ·exact⟨u,k b u hbe q⟩
end
def trk (h:Heap) (H:Hp):List Addr:=(List.range h.objs.size).filter λa=>(H a).isSome
def Bp (h:Heap) (H:Hp):Heap:=PySem.W.hideAll h (trk h H)
theorem zp (h:Heap) (H:Hp):(Bp h H).objs.size=h.objs.size:=PySem.W.hideAll_size _ _
theorem Bq {h:Heap} {H:Hp} {b:Addr} {o:Obj} (e:h.get? b=some o) (n:H b=none):(Bp h H).get? b=some o :=
 CH _ e λhm=>by
  have q:(H b).isSome=true:=(HB.mp hm).2
  rw[n]at q;simp at q
theorem Ep {h:Heap} {H:Hp} {b:Addr} {o:Obj} (e:(Bp h H).get? b=some o):h.get? b=some o/\H b=none:=by
 have e':h.get? b=some o:=CZ (trk h H) e
 refine⟨e',?_⟩
 cases q:H b with
 | none=>rfl
 | some x =>
  have hm:b∈trk h H:=HB.mpr ⟨HE.mpr (AH e'),by simp[q]⟩
  have z:(Bp h H).get? b=none:=BR (trk h H) hm
  rw[z]at e;cases e
def Er (g h:Heap) (L:Addr):List (Addr×Obj):=(List.range h.objs.size).filterMap λa=>if a=L\/(g.get? a).isSome=true then none else(h.get? a).map λo=>(a,o)
def rest (g h:Heap) (L d:Addr):List (Addr×Obj):=(Er g h L).filter λp=>decide (p.1≠d)
structure Mod (K:PySem.W.Frag) (mg:Str->Option Value) (base:Heap):Prop where
 kin:K.In base
 glob:base.Ns mainGlobals mg
 blt:∃mb,base.Ns builtinsNs mb/\∀x:Str,x≠"__name__"->mb x=bootBuiltins x
 nolimit:base.NoLimit
structure Cx where
 prog:Program
 w:World
 K:PySem.W.Frag
 mg:Str->Option Value
 base:Heap
 A:Around
 N:List Str
 s₀:Shared
 H₀:Hp
 env:Env
 outer:List Env
 stack:List Env
 ex:List Addr
 fn:Str->Bool
 calm:Bool
 pn:List (Addr×Obj)
 xe:Value->Shared->Prop
def frs (l:List Env):List Addr:=l.filterMap (·.frame)
abbrev Cx.fs (X:Cx):List Addr:=frs X.outer
def Vis (sc:Scope) (x:Str):Prop:=sc.names.lookup x=some .local\/sc.names.lookup x=some .cell\/sc.names.lookup x=some .free
def Loc (sc:Scope) (x:Str):Prop:=sc.names.lookup x=some .local\/sc.names.lookup x=some .cell
def Look (env:Env) (h:Heap) (m:Str->Option Value) (x:Str) (u:Value):Prop :=
 (env.kindOf x=some .local/\m x=some u)\/((env.kindOf x=some .cell\/env.kindOf x=some .free)/\∃c,env.cells.lookup x=some c/\h.IsCell c (some u))
structure Cx.Ok (X:Cx):Prop where
 mod:Mod X.K X.mg X.base
 kind:X.env.scope.kind=.function
 glob:X.env.globals=mainGlobals
 blt:X.env.builtins=builtinsNs
 above:X.s₀.heap.objs.size<=X.env.locals
 inj:∀x y c,X.env.cells.lookup x=some c->X.env.cells.lookup y=some c->x=y
 has:∀x,(X.env.kindOf x=some .cell\/X.env.kindOf x=some .free)->∃c,X.env.cells.lookup x=some c
 cab:∀x c,X.fn x=true->X.env.cells.lookup x=some c->X.s₀.heap.objs.size<=c
 hd:X.calm=true->X.A.handled=none
 frames:X.A.frames=some X.stack
 stk:X.stack=X.outer\/(X.stack=X.env::X.outer/\X.env.frame=some X.env.locals)
 exf:∀b∈X.ex,b≠X.env.locals/\∀x c,X.env.cells.lookup x=some c->c≠b
 bs:∀b o,X.base.get? b=some o->X.s₀.heap.get? b=some o/\X.H₀ b=none
 bsz:X.base.objs.size<=X.s₀.heap.objs.size
 noex:∀b o,X.base.get? b=some o->b∉X.ex
 exfs:∀b∈X.ex,b∉X.fs
 funs:X.s₀.heap.FunFrames X.base X.outer
 frf:∀b∈X.fs,X.H₀ b=none
structure Inv (X:Cx) (pins:List (Addr×Obj)) (σ:List (Option V)) (H:Hp) (s:Shared):Prop where
 ok:X.Ok
 os:s.os=X.s₀.os
 bare:AllBare s.gens
 base:Un X.fs X.ex X.H₀ H X.s₀.heap s.heap
 loc:∃m,s.heap.Ns X.env.locals m/\∀(i:Nat) (x:Str) (v:V),X.N[i]? = some x->σ[i]? = some (some v)->Vis X.env.scope x->∃u,RelV v u/\Look X.env s.heap m x u
 cell:∀x c,X.env.cells.lookup x=some c->∃v,s.heap.IsCell c v
 free:H X.env.locals=none
 freeC:∀x c,X.env.cells.lookup x=some c->H c=none
 pin:∀p∈X.pn++pins,s.heap.get? p.1=some p.2/\H p.1=none/\p.1≠X.env.locals/\p.1∉X.fs/\∀v,p.2.data≠.cell v
 hok:HOk X.prog X.w H s.heap
 len:σ.length=X.N.length
section
variable {X : Cx} {pins : List (Addr × Obj)} {σ : List (Option V)} {H H' : Hp} {s : Shared} {h' : Heap}
theorem Cx.Ok.nofr (ok:X.Ok) {b:Addr} {o:Obj} (e:X.base.get? b=some o):b∉X.fs:=λhb=>by
 have:=(ok.funs.mem hb).1
 rw[e]at this;cases this
theorem Inv.bs (I:Inv X pins σ H s):∀b o,X.base.get? b=some o->s.heap.get? b=some o/\H b=none:=λb o e =>
 ⟨I.base.keep b o (I.ok.bs b o e).1 (I.ok.bs b o e).2 (I.ok.nofr e) (I.ok.noex b o e),I.base.free b o (I.ok.bs b o e).1 (I.ok.bs b o e).2 (I.ok.noex b o e)⟩
theorem Inv.bk (I:Inv X pins σ H s):∀b o,X.base.get? b=some o->s.heap.get? b=some o:=λb o e=>(I.bs b o e).1
theorem Inv.mod (I:Inv X pins σ H s):Mod X.K X.mg X.base:=I.ok.mod
theorem Inv.kIn (I:Inv X pins σ H s):X.K.In s.heap:=I.ok.mod.kin.keeps I.bk
theorem Inv.fr (I:Inv X pins σ H s):∃m,Fr X.base X.env.locals s.heap m :=
 let ⟨m,hn,_⟩:=I.loc
 ⟨m,hn,I.bk,CF I.ok.bsz I.ok.above⟩
theorem Inv.lt (I:Inv X pins σ H s):X.env.locals<s.heap.objs.size:=let ⟨_,hn,_⟩:=I.loc;hn.lt
theorem Inv.sz (I:Inv X pins σ H s):X.s₀.heap.objs.size<=s.heap.objs.size:=CF I.ok.above (DJ I.lt)
theorem Inv.nofs (I:Inv X pins σ H s) {a:Addr} (h:s.heap.objs.size<=a):a∉X.fs:=λhb=>by
 obtain⟨_,o,ho,_⟩:=I.ok.funs.mem hb
 exact absurd (AL (AH ho) (CF I.sz h)) (BQ _)
theorem Inv.cne (I:Inv X pins σ H s):∀x c,X.env.cells.lookup x=some c->c≠X.env.locals:=λx c e z=>by
 obtain⟨v,o,ho,hd⟩:=I.cell x c e
 obtain⟨m,⟨o',es,ep,ho',hd',_⟩,_⟩:=I.loc
 rw[z,ho']at ho;cases ho;rw[hd']at hd;cases hd
theorem Inv.funs (I:Inv X pins σ H s):s.heap.FunFrames X.base X.outer:=by
 have all:∀(l:List Env),(∀b∈frs l,b∈X.fs)->X.s₀.heap.FunFrames X.base l->s.heap.FunFrames X.base l:=by
  intro l
  induction l with
  | nil=>intro _ _;trivial
  | cons env r ih =>
   intro hs hl
   obtain⟨hk,⟨L,o,hf,hn,ho,hd⟩,hr⟩:=hl
   have hL:L∈X.fs:=hs L (by unfold frs;rw[CI,hf];exact AT)
   obtain⟨sl,e⟩:=I.base.slot L o ho (I.ok.frf L hL) hL λz=>I.ok.exfs L z hL
   exact⟨hk,⟨L,_,hf,hn,e,hd⟩,ih (λb hb=>hs b (by unfold frs;rw[CI,hf];exact AR _ hb)) hr⟩
 exact all X.outer (λ_ hb=>hb) I.ok.funs
theorem Inv.stack (I:Inv X pins σ H s):s.heap.FunFrames X.base X.stack:=by
 rcases I.ok.stk with e | ⟨e,hf⟩
 ·rw[e];exact I.funs
 ·rw[e]
  obtain⟨m,hn,_⟩:=I.loc
  refine .cons (by rw[I.ok.kind];decide) hf hn ?_ I.funs
  exact Heap.get?_none_of_le (CF I.ok.bsz I.ok.above)
theorem Inv.stkSub (I:Inv X pins σ H s):∀b∈frs X.stack,b∈X.env.locals::X.fs:=λb hb=>by
 rcases I.ok.stk with e | ⟨e,hf⟩
 ·rw[e]at hb;exact AR _ hb
 ·rw[e]at hb
  unfold frs at hb
  rw[CI,hf]at hb
  exact hb
theorem Inv.stkFree (I:Inv X pins σ H s):∀b∈frs X.stack,H b=none:=λb hb=>by
 rcases AJ.mp (I.stkSub b hb)with e | hb
 ·rw[e];exact I.free
 ·obtain⟨_,o,ho,_⟩:=I.ok.funs.mem hb
  exact I.base.free b o ho (I.ok.frf b hb) λz=>I.ok.exfs b z hb
theorem Inv.step {g':Array GenState} {t':Nat} {d':Drawn} {ch:List Addr} (I:Inv X pins σ H s)
  (hch:∀b∈ch,(b∈X.ex\/X.s₀.heap.objs.size<=b)/\b≠X.env.locals/\(∀x c,X.env.cells.lookup x=some c->c≠b)/\∀p∈X.pn++pins,p.1≠b)
  (keep:∀b o,b≠X.env.locals->b∉X.fs->b∉ch->s.heap.get? b=some o->H b=none->h'.get? b=some o)
  (slot:∀b o,b≠X.env.locals->b∈X.fs->b∉ch->s.heap.get? b=some o->H b=none->∃sl,h'.get? b=some {o with slots:=sl}) (free:∀b o,b∉ch->s.heap.get? b=some o->H b=none->H' b=none)
  (there:∀b o,b∉ch->s.heap.get? b=some o->∃o',h'.get? b=some o')
  (tups:∀b xs,H b=some (.tup xs)->H' b=some (.tup xs)) (frzs:∀b o u,H b=some (.frz o u)->H' b=some (.frz o u)) (tbls:∀b ps,H b=some (.tbl ps)->∃more,H' b=some (.tbl (ps++more)))
  (ns:∀m,s.heap.Ns X.env.locals m->h'.Ns X.env.locals m) (hok:HOk X.prog X.w H' h') (hg:AllBare g') :
  Inv X pins σ H' {s with heap:=h',gens:=g',drawn:=d',toks:=t'}:=by
 have neL:∀b o,X.s₀.heap.get? b=some o->b≠X.env.locals:=λb o e=>AM (AL (AH e) I.ok.above)
 have neC:∀b o,X.s₀.heap.get? b=some o->b∉X.ex->b∉ch:=λb o e hx hb=>by
  rcases(hch b hb).1 with z | z
  ·exact hx z
  ·exact absurd (AL (AH e) z) (BQ _)
 have cellK:∀x c,X.env.cells.lookup x=some c->∀v,s.heap.IsCell c v->h'.IsCell c v:=λx c e v ⟨o,ho,hd⟩=>by
  have nch:c∉ch:=λz=>(hch c z).2.2.1 x c e rfl
  by_cases hc:c∈X.fs
  ·obtain⟨sl,q⟩:=slot c o (I.cne x c e) hc nch ho (I.freeC x c e)
   exact⟨_,q,hd⟩
  ·exact⟨o,keep c o (I.cne x c e) hc nch ho (I.freeC x c e),hd⟩
 refine⟨I.ok,I.os,hg,⟨λb o e n hb hx=>?_,λb o e n hb hx=>?_,λb o e n hx=>?_,λb o e hx=>?_,λb xs e=>tups b xs (I.base.tups b xs e),λb o xs e=>frzs b o xs (I.base.frzs b o xs e),λb ps e=>?_⟩,?_,λx c e=>?_,?_,λx c e=>?_,λp hp=>?_,hok,I.len⟩
 ·exact keep b o (neL b o e) hb (neC b o e hx) (I.base.keep b o e n hb hx) (I.base.free b o e n hx)
 ·obtain⟨sl,e1⟩:=I.base.slot b o e n hb hx
  obtain⟨sl',e2⟩:=slot b _ (neL b o e) hb (neC b o e hx) e1 (I.base.free b o e n hx)
  exact⟨sl',e2⟩
 ·obtain⟨o',e1⟩:=I.base.there b o e hx
  exact free b o' (neC b o e hx) e1 (I.base.free b o e n hx)
 ·obtain⟨o',e1⟩:=I.base.there b o e hx
  exact there b o' (neC b o e hx) e1
 ·obtain⟨m1,e1⟩:=I.base.tbls b ps e
  obtain⟨m2,e2⟩:=tbls b _ e1
  exact⟨m1++m2,by rw[e2,Array.append_assoc]⟩
 ·obtain⟨m,hn,hl⟩:=I.loc
  refine⟨m,ns m hn,λi x v e1 e2 e3=>?_⟩
  obtain⟨u,r,l⟩:=hl i x v e1 e2 e3
  refine⟨u,r,?_⟩
  rcases l with l | ⟨k,c,e,z⟩
  ·exact .inl l
  ·exact .inr ⟨k,c,e,cellK x c e _ z⟩
 ·obtain⟨v,z⟩:=I.cell x c e
  exact⟨v,cellK x c e v z⟩
 ·obtain⟨m,⟨o,_,_,ho,_⟩,_⟩:=I.loc
  exact free _ o (λz=>(hch _ z).2.1 rfl) ho I.free
 ·obtain⟨v,o,ho,hd⟩:=I.cell x c e
  exact free c o (λz=>(hch c z).2.2.1 x c e rfl) ho (I.freeC x c e)
 ·obtain⟨e,n,ne,nf,d⟩:=I.pin p hp
  have nch:p.1∉ch:=λz=>(hch p.1 z).2.2.2 p hp rfl
  exact⟨keep p.1 p.2 ne nf nch e n,free p.1 p.2 nch e n,ne,nf,d⟩
theorem Inv.un {t':Nat} (I:Inv X pins σ H s) (u:Un X.fs [] H H' s.heap h') (hok:HOk X.prog X.w H' h'):Inv X pins σ H' {s with heap:=h',toks:=t'}:=by
 obtain⟨m,⟨o,es,ep,ho,r⟩,_⟩:=id I.loc
 obtain⟨sl,hL⟩:=u.any ho I.free (by simp)
 exact I.step (g':=s.gens) (d':=s.drawn) (ch:=[]) (λ_ z=>nomatch z) (λb o _ hb _ e n=>u.keep b o e n hb (by simp)) (λb o _ hb _ e n=>u.slot b o e n hb (by simp)) (λb o _ e n=>u.free b o e n (by simp)) (λb o _ e=>u.there b o e (by simp)) u.tups u.frzs u.tbls (λm' hm=>by
  obtain⟨o',es',ep',ho',r'⟩:=hm
  rw[ho]at ho';cases ho'
  exact⟨_,es',ep',hL,r'⟩) hok I.bare
theorem Inv.call {g':Array GenState} {t':Nat} {d':Drawn} {ch:List Addr} (I:Inv X pins σ H s) (u:Un (frs X.stack) ch H H' s.heap h') (hok:HOk X.prog X.w H' h') (hg:AllBare g')
  (hch:∀b∈ch,(b∈X.ex\/X.s₀.heap.objs.size<=b)/\b≠X.env.locals/\(∀x c,X.env.cells.lookup x=some c->c≠b)/\∀p∈X.pn++pins,p.1≠b) :
  Inv X pins σ H' {s with heap:=h',gens:=g',drawn:=d',toks:=t'}:=by
 obtain⟨m,⟨o,es,ep,ho,r⟩,_⟩:=id I.loc
 obtain⟨sl,hL⟩:=u.any ho I.free λz=>(hch _ z).2.1 rfl
 exact I.step (ch:=ch) hch (λb o hL hb hc e n=>u.keep b o e n (λz=>(AJ.mp (I.stkSub b z)).elim hL hb) hc) (λb o _ _ hc e n=>u.any e n hc) (λb o hc e n=>u.free b o e n hc) (λb o hc e=>u.there b o e hc) u.tups u.frzs u.tbls (λm' hm=>by
  obtain⟨o',es',ep',ho',r'⟩:=hm
  rw[ho]at ho';cases ho'
  exact⟨_,es',ep',hL,r'⟩) hok hg
theorem Inv.turned {t':Nat} {it:Addr} (I:Inv X pins σ H s) (k:∀b o,b≠it->s.heap.get? b=some o->h'.get? b=some o) (hn:H it=none) (hL:it≠X.env.locals)
  (h1:it∈X.ex\/X.s₀.heap.objs.size<=it) (h2:∀x c,X.env.cells.lookup x=some c->c≠it) (h3:∀p∈X.pn++pins,p.1≠it):Inv X pins σ H {s with heap:=h',toks:=t'}:=by
 have nit:∀b u,H b=some u->b≠it:=λb u e z=>by rw[z,hn]at e;cases e
 refine I.step (g':=s.gens) (d':=s.drawn) (ch:=[it]) (λb hb=>?_) (λb o _ _ hc e _=>k b o (λz=>hc (by simp[z])) e) (λb o _ _ hc e _=>⟨o.slots,k b o (λz=>hc (by simp[z])) e⟩) (λ_ _ _ _ n=>n)
  (λb o hc e=>⟨o,k b o (λz=>hc (by simp[z])) e⟩) (λ_ _ e=>e) (λ_ _ _ e=>e) (λb ps e=>⟨#[],by rw[e];simp⟩) (λm hm=>?_) (λb u e=>?_) I.bare
 ·have e:b=it:=by simpa using hb
  subst e
  exact⟨h1,hL,h2,h3⟩
 ·obtain⟨o,es,ep,ho,r⟩:=hm
  exact⟨o,es,ep,k _ o (Ne.symm hL) ho,r⟩
 ·refine(I.hok b u e).stay (λc v hc q=>k c v ?_ q) (λ_ q=>q) λ_ _ q=>q
  rcases hc with z | z
  ·rw[z];exact nit b u e
  ·exact nit c _ z
theorem Inv.tok (I:Inv X pins σ H s) (t:Nat):Inv X pins σ H {s with toks:=t}:=I.un (h':=s.heap) (t':=t) Un.refl I.hok
theorem Inv.kept {t':Nat} (I:Inv X pins σ H s) (k:∀b u,s.heap.get? b=some u->h'.get? b=some u):Inv X pins σ H {s with heap:=h',toks:=t'}:=I.un (Un.kept k) (I.hok.kept k)
theorem Inv.laid {a:Addr} {o:HO} {t':Nat} (I:Inv X pins σ H s) (k:∀b u,s.heap.get? b=some u->h'.get? b=some u) (hp:s.heap.objs.size<=a) (new:fw X.prog X.w (upd H a o) h' a o) :
  Inv X pins σ (upd H a o) {s with heap:=h',toks:=t'}:=I.un (Un.laid k hp (I.hok.fresh hp)) (I.hok.laid k hp new)
theorem Inv.write {x e:Addr} {o:HO} {t':Nat} (I:Inv X pins σ H s) (mu:Mut (H x)) (he:e=x\/H e=some (.own x)) (k:∀b u,b≠e->s.heap.get? b=some u->h'.get? b=some u) (heo:∃u,h'.get? e=some u)
  (new:fw X.prog X.w (upd H x o) h' x o):Inv X pins σ (upd H x o) {s with heap:=h',toks:=t'}:=I.un (Un.write mu he k heo) (I.hok.write mu he k heo new)
theorem Inv.weak {σ':List (Option V)} (I:Inv X pins σ H s) (hl:σ'.length=σ.length) (w:∀(i:Nat) v,σ'[i]? = some (some v)->σ[i]? = some (some v)):Inv X pins σ' H s :=
 ⟨I.ok,I.os,I.bare,I.base,let ⟨m,hn,hl'⟩:=I.loc;⟨m,hn,λi x v e1 e2 e3=>hl' i x v e1 (w i v e2) e3⟩,I.cell,I.free,I.freeC,I.pin,I.hok,hl.trans I.len⟩
theorem Inv.pins_of {pins':List (Addr×Obj)} (I:Inv X pins σ H s) (h:∀p∈pins',s.heap.get? p.1=some p.2/\H p.1=none/\p.1≠X.env.locals/\p.1∉X.fs/\∀v,p.2.data≠.cell v):Inv X pins' σ H s :=
 ⟨I.ok,I.os,I.bare,I.base,I.loc,I.cell,I.free,I.freeC,λp hp=>(CT.mp hp).elim (λz=>I.pin p (FA _ z)) (h p),I.hok,I.len⟩
theorem qd {N:List Str} (hN:N.Nodup) {i j:Nat} {x:Str} (a:N[i]? = some x) (b:N[j]? = some x):i=j:=by
 obtain⟨h1,e1⟩:=AF.mp a
 obtain⟨h2,e2⟩:=AF.mp b
 exact(GM hN).mp (e1.trans e2.symm)
theorem rp {M:Model} {A:Around} {E:Value->Shared->Prop} {i:Nat} {x:Str} {v:V} {u:Value} {Q:Unit->Shared->Prop} (I:Inv X pins σ H s) (hN:X.N.Nodup) (hi:X.N[i]? = some x) (hx:Loc X.env.scope x) (r:RelV v u)
  (h:∀s',Inv X pins (σ.set i (some v)) H s'->(∃a,Heap.SameBut a s.heap s'.heap/\(a=X.env.locals\/X.env.cells.lookup x=some a))->Q () s') (hf:X.fn x=true\/X.env.scope.names.lookup x=some .local:=by first | exact .inl rfl | exact .inr rfl | assumption):wpAny M A (storeName X.env x u) Q E s:=by
 obtain⟨m,hn,hl⟩:=id I.loc
 have hcls:(X.env.scope.kind==.class || (X.env.scope.kind==.module&&X.env.locals != X.env.globals))=false:=by rw[I.ok.kind];rfl
 have hiσ:i<σ.length:=by rw[I.len];exact(AF.mp hi).1
 have cne:=I.cne
 have tracked:∀{a:Addr} {h':Heap},(∃o,s.heap.get? a=some o/\H a=none)->Heap.SameBut a s.heap h'->HOk X.prog X.w H h':=λ{a h'} ha hs b ob e=>by
  obtain⟨_,_,hfree⟩:=ha
  refine(I.hok b ob e).stay (λc w' hc q=>(hs.2 c ?_).trans q) (λ_ q=>q) λ_ _ q=>q
  rintro rfl
  rcases hc with rfl | hc
  ·rw[hfree]at e;cases e
  ·rw[hfree]at hc;cases hc
 rcases hx with hk | hk
 ·refine wpAny_storeName_local hk hn (λh' hn' hs=>?_) hcls
  obtain⟨oL,_,_,hoL,_⟩:=id hn
  refine h _ ⟨I.ok,I.os,I.bare,⟨λb o e n hb hx=>?_,λb o e n hb hx=>?_,I.base.free,λb o e hx=>?_,I.base.tups,I.base.frzs,I.base.tbls⟩,⟨_,hn',λj y v' e1 e2 e3=>?_⟩,λy c e=>?_,I.free,I.freeC,λp hp=>?_,tracked ⟨oL,hoL,I.free⟩ hs,by simpa using I.len⟩ ⟨_,hs,.inl rfl⟩
  ·exact(hs.2 b (AM (AL (AH e) I.ok.above))).trans (I.base.keep b o e n hb hx)
  ·obtain⟨sl,e1⟩:=I.base.slot b o e n hb hx
   exact⟨sl,(hs.2 b (AM (AL (AH e) I.ok.above))).trans e1⟩
  ·obtain⟨o',e1⟩:=I.base.there b o e hx
   exact⟨o',(hs.2 b (AM (AL (AH e) I.ok.above))).trans e1⟩
  ·by_cases hj:j=i
   ·subst hj
    rw[hi]at e1;cases e1
    rw[AZ hiσ]at e2
    cases e2
    exact⟨u,r,.inl ⟨hk,by simp⟩⟩
   ·rw[BB (Ne.symm hj)]at e2
    obtain⟨u',r',q⟩:=hl j y v' e1 e2 e3
    refine⟨u',r',?_⟩
    rcases q with⟨k,e⟩ | ⟨k,c,e,z⟩
    ·refine .inl ⟨k,?_⟩
     have:y≠x:=λe=>hj (qd hN e1 (e ▸ hi))
     simp[this,e]
    ·exact .inr ⟨k,c,e,z.sameBut hs (cne y c e)⟩
  ·obtain⟨w',z⟩:=I.cell y c e
   exact⟨w',z.sameBut hs (cne y c e)⟩
  ·obtain⟨e,n,ne,nf,d⟩:=I.pin p hp
   exact⟨(hs.2 p.1 ne).trans e,n,ne,nf,d⟩
 ·have hfn:X.fn x=true:=by
   rcases hf with z | z
   ·exact z
   ·rw[z]at hk;cases hk
  obtain⟨c,hc⟩:=I.ok.has x (.inl hk)
  obtain⟨w',z⟩:=I.cell x c hc
  refine wpAny_storeName_cell I.ok.kind hk hc z (λh' hc' hs=>?_)
  obtain⟨oc,hoc,hocd⟩:=id z
  refine h {s with heap:=h'} ⟨I.ok,I.os,I.bare,⟨λb o e n hb hx=>?_,λb o e n hb hx=>?_,I.base.free,λb o e hx=>?_,I.base.tups,I.base.frzs,I.base.tbls⟩,⟨m,hn.sameBut hs (Ne.symm (cne x c hc)),λj y v' e1 e2 e3=>?_⟩,λy c' e=>?_,I.free,I.freeC,λp hp=>?_,tracked ⟨oc,hoc,I.freeC x c hc⟩ hs,by simpa using I.len⟩ ⟨c,hs,.inr hc⟩
  ·exact(hs.2 b (AM (AL (AH e) (I.ok.cab x c hfn hc)))).trans (I.base.keep b o e n hb hx)
  ·obtain⟨sl,e1⟩:=I.base.slot b o e n hb hx
   exact⟨sl,(hs.2 b (AM (AL (AH e) (I.ok.cab x c hfn hc)))).trans e1⟩
  ·obtain⟨o',e1⟩:=I.base.there b o e hx
   exact⟨o',(hs.2 b (AM (AL (AH e) (I.ok.cab x c hfn hc)))).trans e1⟩
  ·by_cases hj:j=i
   ·subst hj
    rw[hi]at e1;cases e1
    rw[AZ hiσ]at e2
    cases e2
    exact⟨u,r,.inr ⟨.inl hk,c,hc,hc'⟩⟩
   ·rw[BB (Ne.symm hj)]at e2
    obtain⟨u',r',q⟩:=hl j y v' e1 e2 e3
    refine⟨u',r',?_⟩
    rcases q with q | ⟨k,c',e,z'⟩
    ·exact .inl q
    ·refine .inr ⟨k,c',e,z'.sameBut hs ?_⟩
     rintro rfl
     exact hj (qd hN e1 (I.ok.inj _ _ _ e hc ▸ hi))
  ·by_cases hcc:c'=c
   ·subst hcc;exact⟨_,hc'⟩
   ·obtain⟨w2,z2⟩:=I.cell y c' e
    exact⟨w2,z2.sameBut hs hcc⟩
  ·obtain⟨e,n,ne,nf,d⟩:=I.pin p hp
   refine⟨(hs.2 p.1 ?_).trans e,n,ne,nf,d⟩
   intro q
   rw[q,hoc]at e
   have q':oc=p.2:=BC e
   exact d w' (by rw[<-q'];exact hocd)
theorem qe {M:Model} {A:Around} {E:Value->Shared->Prop} {i:Nat} {x:Str} {v:V} {u:Value} {Q:Unit->Shared->Prop} (I:Inv X pins σ H s) (hN:X.N.Nodup) (hi:X.N[i]? = some x) (hx:Loc X.env.scope x) (r:RelV v u)
  (h:∀s',Inv X pins (σ.set i (some v)) H s'->Q () s') (hf:X.fn x=true\/X.env.scope.names.lookup x=some .local:=by first | exact .inl rfl | exact .inr rfl | assumption):wpAny M A (storeName X.env x u) Q E s :=
 rp I hN hi hx r (λs' I' _=>h s' I') hf
theorem Inv.call' {s':Shared} {ch:List Addr} (I:Inv X pins σ H s) (ho:s'.os=s.os) (u:Un (frs X.stack) ch H H' s.heap s'.heap) (hok:HOk X.prog X.w H' s'.heap) (hg:AllBare s'.gens)
  (hch:∀b∈ch,(b∈X.ex\/X.s₀.heap.objs.size<=b)/\b≠X.env.locals/\(∀x c,X.env.cells.lookup x=some c->c≠b)/\∀p∈X.pn++pins,p.1≠b):Inv X pins σ H' s':=by
 obtain⟨h',g',d',t',o'⟩:=s'
 have e:o'=s.os:=ho
 subst e
 exact I.call (g':=g') (t':=t') (d':=d') u hok hg hch
end
abbrev XK:=Value->Option Addr->Hp->Prop
abbrev St:=List (Option V)
abbrev VK:=V->Hp->Prop
abbrev TE:=St->Hp->VK->Prop
abbrev TT:=St->Hp->(Bool->Hp->Prop)->Prop
abbrev TA:=St->Hp->(List V->Hp->Prop)->Prop
structure Ends where
 nx:St->Hp->Prop
 rt:VK
 bk:St->Hp->Prop:=λ_ _=>False
 ct:St->Hp->Prop:=λ_ _=>False
abbrev TS:=Ends->St->Hp->Prop
def EP (X:Cx) (pins:List (Addr×Obj)) (σ:St) (Q:VK) (u:Value) (s':Shared):Prop:=∃v H',Inv X pins σ H' s'/\RelV v u/\Q v H'
def TP (X:Cx) (pins:List (Addr×Obj)) (σ:St) (Q:Bool->Hp->Prop) (b:Bool) (s':Shared):Prop:=∃H',Inv X pins σ H' s'/\Q b H'
def AP (X:Cx) (pins:List (Addr×Obj)) (σ:St) (Q:List V->Hp->Prop) (us:List Value) (s':Shared):Prop:=∃vs H',Inv X pins σ H' s'/\bw vs us/\Q vs H'
def SP (X:Cx) (pins:List (Addr×Obj)) (D:Ends) (f:Flow) (s':Shared):Prop :=
 match f with
 | .next=>∃σ' H',Inv X pins σ' H' s'/\D.nx σ' H'
 | .brk=>∃σ' H',Inv X pins σ' H' s'/\D.bk σ' H'
 | .cont=>∃σ' H',Inv X pins σ' H' s'/\D.ct σ' H'
 | .ret u=>∃v σ' H',Inv X pins σ' H' s'/\RelV v u/\D.rt v H'
def PE (X:Cx) (e:Expr) (t:TE):Prop :=
 ∀(pins:List (Addr×Obj)) (s:Shared) (σ:St) (H:Hp) (Q:VK),Inv X pins σ H s->t σ H Q->wpAny (model X.prog X.w) X.A (eval e X.env) (EP X pins σ Q) X.xe s
def PT (X:Cx) (e:Expr) (t:TT):Prop :=
 ∀(pins:List (Addr×Obj)) (s:Shared) (σ:St) (H:Hp) (Q:Bool->Hp->Prop),Inv X pins σ H s->t σ H Q->wpAny (model X.prog X.w) X.A (isTrue e X.env (eval e X.env)) (TP X pins σ Q) X.xe s
def PW (X:Cx) (e:Expr) (t:TT):Prop :=
 ∀(whole:Sem Value) (pins:List (Addr×Obj)) (s:Shared) (σ:St) (H:Hp) (Q:Bool->Hp->Prop),Inv X pins σ H s->t σ H Q->wpAny (model X.prog X.w) X.A (isTrue e X.env whole) (TP X pins σ Q) X.xe s
theorem PW.pt {X:Cx} {e:Expr} {t:TT} (h:PW X e t):PT X e t:=h _
def PA (X:Cx) (es:List Expr) (t:TA):Prop :=
 ∀(pos:Pos) (pins:List (Addr×Obj)) (s:Shared) (σ:St) (H:Hp) (Q:List V->Hp->Prop),Inv X pins σ H s->t σ H Q->wpAny (model X.prog X.w) X.A (spliced (backTo pos (starEach es X.env))) (AP X pins σ Q) X.xe s
def PS (X:Cx) (st:Stmt) (t:TS):Prop :=
 ∀(pins:List (Addr×Obj)) (s:Shared) (σ:St) (H:Hp) (D:Ends),Inv X pins σ H s->t D σ H->wpAny (model X.prog X.w) X.A (exec st X.env) (SP X pins D) X.xe s
def PSs (X:Cx) (st:List Stmt) (t:TS):Prop :=
 ∀(pins:List (Addr×Obj)) (s:Shared) (σ:St) (H:Hp) (D:Ends),Inv X pins σ H s->t D σ H->wpAny (model X.prog X.w) X.A (execs st X.env) (SP X pins D) X.xe s
theorem thn {α:Type} {t:Sem α} {Q Q':α->Shared->Prop} {M:Model} {A:Around} {E:Value->Shared->Prop} {s:Shared} (h:wpAny M A t Q E s) (hQ:∀a s,Q a s->Q' a s):wpAny M A t Q' E s:=BI h hQ λ_ _ x=>x
section
variable {X : Cx}
theorem bin {a b:Expr} {ta tb:TE} (ha:PE X a ta) (hb:PE X b tb) {pins:List (Addr×Obj)} {s:Shared} {σ:St} {H:Hp} {R:V->V->Hp->Prop} (I:Inv X pins σ H s) (h:ta σ H λx H1=>tb σ H1 λy H2=>R x y H2)
  {α:Type} {Q:α->Shared->Prop} {f:Value->Value->Sem α}
  (hf:∀v u s2 x y H2,Inv X pins σ H2 s2->RelV x v->RelV y u->R x y H2->wpAny (model X.prog X.w) X.A (f v u) Q X.xe s2) :
  wpAny (model X.prog X.w) X.A (eval a X.env) (λv s₁=>wpAny (model X.prog X.w) X.A (eval b X.env) (λu s₂=>wpAny (model X.prog X.w) X.A (f v u) Q X.xe s₂) X.xe s₁) X.xe s:=by
 refine thn (ha pins s σ H _ I h) λv s1 ⟨x,H1,I1,r1,q1⟩=>?_
 refine thn (hb pins s1 σ H1 _ I1 q1) λu s2 ⟨y,H2,I2,r2,q2⟩=>?_
 exact hf v u s2 x y H2 I2 r1 r2 q2
def Oc (i:Nat):TE:=λσ H Q=>∃v,σ[i]? = some (some v)/\Q v H
def tC (v:V):TE:=λ_ H Q=>Q v H
theorem Dy {i:Nat} {x:Str} {pos:Pos} (hN:X.N[i]? = some x) (hv:Vis X.env.scope x) (hd:(x==("__debug__":Str))=false:=by decide) (hcd:(x==("__classdict__":Str))=false:=by decide):PE X (.Name x pos) (Oc i):=by
 intro pins s σ H Q I h
 obtain⟨v,e,h⟩:=h
 obtain⟨m,hn,hl⟩:=I.loc
 obtain⟨u,r,l⟩:=hl i x v hN e hv
 have fin:EP X pins σ Q u s:=⟨v,H,I,r,h⟩
 rcases l with⟨hk,hm⟩ | ⟨hk,c,hc,hcell⟩
 ·exact wpAny_Name (wpAny_loadName_local I.ok.kind hk hn hm fin) hd
 ·rcases hk with hk | hk
  ·exact wpAny_Name (wpAny_loadName_cell I.ok.kind hk hc hcell fin) hd
  ·exact wpAny_Name (wpAny_loadName_free I.ok.kind hk hc hcell fin hcd) hd
theorem Hn {i j pos}:PE X (.Constant (.int i) j pos) (tC (.int i)):=λ_ _ _ H _ I h=>wpAny_Constant_int ⟨.int i,H,I.tok _,⟨_,rfl⟩,h⟩
theorem Ld {b j pos}:PE X (.Constant (.bool b) j pos) (tC (.bl b)):=λ_ _ _ H _ I h=>Constant_bool ⟨.bl b,H,I,rfl,h⟩
theorem Ho {x j pos}:PE X (.Constant (.str x) j pos) (tC (.str x)):=λ_ _ _ H _ I h=>Calls.Constant_str ⟨.str x,H,I.tok _,⟨_,rfl⟩,h⟩
def Gl (X:Cx) (x:Str):Prop:=X.env.kindOf x=some .globalImplicit
theorem kx {E:Value->Shared->Prop} {pins:List (Addr×Obj)} {s:Shared} {σ:St} {H:Hp} {x:Str} {u:Value} {pos:Pos} {Q:Value->Shared->Prop} (I:Inv X pins σ H s) (hg:Gl X x) (hm:X.mg x=some u) (h:Q u s)
  (hd:(x==("__debug__":Str))=false:=by decide):wpAny (model X.prog X.w) X.A (eval (.Name x pos) X.env) Q E s :=
 FP I.ok.kind hg (Calls.loadGlobal_global (by rw[I.ok.glob];exact I.mod.glob.keeps I.bk) hm h) hd
theorem mx {E:Value->Shared->Prop} {pins:List (Addr×Obj)} {s:Shared} {σ:St} {H:Hp} {x:Str} {u:Value} {pos:Pos} {Q:Value->Shared->Prop} (I:Inv X pins σ H s) (hg:Gl X x) (hm:X.mg x=none) (hv:bootBuiltins x=some u) (h:Q u s)
  (hn:x≠"__name__":=by decide) (hd:(x==("__debug__":Str))=false:=by decide):wpAny (model X.prog X.w) X.A (eval (.Name x pos) X.env) Q E s:=by
 obtain⟨mb,h1,h2⟩:=I.mod.blt
 exact FP I.ok.kind hg (Calls.loadGlobal_builtin (by rw[I.ok.glob];exact I.mod.glob.keeps I.bk) hm (by rw[I.ok.blt];exact h1.keeps I.bk) ((h2 x hn).trans hv) h) hd
theorem Es {x:Str} {v:V} {u:Value} {pos:Pos} (hg:Gl X x) (hm:X.mg x=some u) (r:RelV v u) (hd:(x==("__debug__":Str))=false:=by decide):PE X (.Name x pos) (tC v) :=
 λ_ _ _ H _ I h=>kx I hg hm ⟨v,H,I,r,h⟩ hd
theorem Et {x:Str} {v:V} {u:Value} {pos:Pos} (hg:Gl X x) (hm:X.mg x=none) (hv:bootBuiltins x=some u) (r:RelV v u) (hn:x≠"__name__":=by decide) (hd:(x==("__debug__":Str))=false:=by decide):PE X (.Name x pos) (tC v) :=
 λ_ _ _ H _ I h=>mx I hg hm hv ⟨v,H,I,r,h⟩ hn hd
variable {a b : Expr} {ta tb : TE} {pos : Pos}
variable {tA tB' : TT} {rest : List Expr}
def tOr (t u:TT):TT:=λσ H Q=>t σ H λc H1=>if c=true then Q true H1 else u σ H1 Q
def Qg (t:TT):TT:=λσ H Q=>t σ H λc H1=>Q (!c) H1
theorem Hq (ha:PT X a tA):PW X (.BoolOp .Or [a] pos) tA:=by
 intro wh pins s σ H Q I h
 refine isTrue_or (thn (ha pins s σ H Q I h) λc s1 e=>?_)
 cases c with
 | false=>exact isTrue_or_nil e
 | true=>exact e
theorem Le (ha:PT X a tA) (hb:PW X (.BoolOp .Or (b::rest) pos) tB'):PW X (.BoolOp .Or (a::b::rest) pos) (tOr tA tB'):=by
 intro wh pins s σ H Q I h
 refine isTrue_or (thn (ha pins s σ H _ I h) λc s1 ⟨H1,I1,q1⟩=>?_)
 cases c with
 | true=>exact⟨H1,I1,q1⟩
 | false=>exact hb wh pins s1 σ H1 Q I1 q1
theorem Hr (ha:PT X a tA):PT X (.UnaryOp .Not a pos) (Qg tA):=by
 intro pins s σ H Q I h
 exact isTrue_not (ha pins s σ H (λc H1=>Q (!c) H1) I h)
end
def SqL (K:PySem.W.Frag) (H:Hp) (a:Addr) (xs:List V):Prop :=
 Rd H a (.lst xs) \/
  ∃(o:Obj) (its:Array Value) (n:Nat),K.lookup a=some o/\o.cls=.type "list"/\o.dict=none/\o.data=.seq its n/\its.size<=sizeLine/\bw xs its.toList
def SqT (K:PySem.W.Frag) (H:Hp) (a:Addr) (xs:List V):Prop :=
 Rd H a (.tup xs) \/
  ∃(o:Obj) (its:Array Value) (n:Nat),K.lookup a=some o/\o.cls=.type "tuple"/\o.data=.seq its n/\its.size<=sizeLine/\bw xs its.toList/\o.dict=none
def Qh:Value->Option V
 | .none=>some .non
 | .bool b=>some (.bl b)
 | .int i _=>some (.int i)
 | .str x _=>some (.str x)
 | .bytes b _=>some (.byt b)
 | .float b _=>some (.flt b)
 | .ref a=>some (.ref a)
 | .type n=>some (.ty n)
 | _=>none
theorem RelV.abs {x:V} {u:Value} (r:RelV x u):Qh u=some x:=by
 cases x with
 | non=>cases r;rfl
 | bl _=>cases r;rfl
 | int _=>obtain⟨t,rfl⟩:=r;rfl
 | str _=>obtain⟨t,rfl⟩:=r;rfl
 | byt _=>obtain⟨t,rfl⟩:=r;rfl
 | flt _=>obtain⟨t,rfl⟩:=r;rfl
 | ref _=>cases r;rfl
 | ty _=>cases r;rfl
theorem RelV.inj {x y:V} {u:Value} (r:RelV x u) (q:RelV y u):x=y:=BC (r.abs.symm.trans q.abs)
theorem bw.inj:∀{xs ys:List V} {us:List Value},bw xs us->bw ys us->xs=ys
 | _,_,_,.nil,.nil=>rfl
 | _,_,_,.cons r t,.cons r' t'=>by rw[r.inj r',bw.inj t t']
section
variable {X : Cx} {pins : List (Addr × Obj)} {σ : St} {H : Hp} {s : Shared} {a : Addr} {xs ys : List V}
theorem SqL.of {K:PySem.W.Frag} (h:H a=some (.lst xs)):SqL K H a xs:=.inl (.inl h)
theorem SqT.of {K:PySem.W.Frag} (h:H a=some (.tup xs)):SqT K H a xs:=.inl (.inl h)
theorem Inv.list (I:Inv X pins σ H s) (h:SqL X.K H a xs):∃its:List Value,bw xs its/\PlainL s.heap a its.toArray/\xs.length<=sizeLine:=by
 rcases h with h | ⟨o,its,n,hk,hc,hd,hs,hz,r⟩
 ·obtain⟨z,its,n,r,e⟩:=h.ok I.hok
  exact⟨its,r,⟨_,n,e,rfl,rfl,rfl⟩,z⟩
 ·refine⟨its.toList,r,⟨o,n,I.kIn a o hk,hc,hd,by simpa using hs⟩,?_⟩
  have e:=r.length
  simp![CJ]at e
  lia
theorem Inv.tuple (I:Inv X pins σ H s) (h:SqT X.K H a xs):∃its:List Value,bw xs its/\IsTup s.heap a its.toArray/\xs.length<=sizeLine:=by
 rcases h with h | ⟨o,its,n,hk,hc,hs,hz,r,_⟩
 ·obtain⟨z,its,r,p⟩:=h.ok I.hok
  exact⟨its,r,p.tup,z⟩
 ·refine⟨its.toList,r,⟨o,I.kIn a o hk,hc,n,by simpa using hs⟩,?_⟩
  have e:=r.length
  simp![CJ]at e
  lia
theorem Inv.list_inj (I:Inv X pins σ H s) (h:SqL X.K H a xs) (h':SqL X.K H a ys):xs=ys:=by
 obtain⟨its,r,⟨o,n,e,_,_,d⟩,_⟩:=I.list h
 obtain⟨its',r',⟨o',n',e',_,_,d'⟩,_⟩:=I.list h'
 rw[e]at e';cases e'
 rw[d]at d'
 injection d' with d1 _
 have:its=its':=by simpa using congrArg Array.toList d1
 subst this
 exact r.inj r'
theorem Inv.tuple_inj (I:Inv X pins σ H s) (h:SqT X.K H a xs) (h':SqT X.K H a ys):xs=ys:=by
 obtain⟨its,r,⟨o,e,_,n,d⟩,_⟩:=I.tuple h
 obtain⟨its',r',⟨o',e',_,n',d'⟩,_⟩:=I.tuple h'
 rw[e]at e';cases e'
 rw[d]at d'
 injection d' with d1 _
 have:its=its':=by simpa using congrArg Array.toList d1
 subst this
 exact r.inj r'
end
abbrev Cx.wish (X:Cx) (E:Value->Shared->Prop):Cx:={X with xe:=E}
abbrev Cx.nox (X:Cx):Cx:=X.wish λ_ _=>False
theorem Cx.Ok.wish {X:Cx} (ok:X.Ok) (E:Value->Shared->Prop):(X.wish E).Ok :=
 ⟨ok.mod,ok.kind,ok.glob,ok.blt,ok.above,ok.inj,ok.has,ok.cab,ok.hd,ok.frames,ok.stk,ok.exf,ok.bs,ok.bsz,ok.noex,ok.exfs,ok.funs,ok.frf⟩
theorem Cx.Ok.unwish {X:Cx} {E:Value->Shared->Prop} (ok:(X.wish E).Ok):X.Ok :=
 ⟨ok.mod,ok.kind,ok.glob,ok.blt,ok.above,ok.inj,ok.has,ok.cab,ok.hd,ok.frames,ok.stk,ok.exf,ok.bs,ok.bsz,ok.noex,ok.exfs,ok.funs,ok.frf⟩
section
variable {X : Cx} {pins : List (Addr × Obj)} {σ : St} {H : Hp} {s : Shared} {E : Value -> Shared -> Prop}
theorem Inv.wish (I:Inv X pins σ H s) (E:Value->Shared->Prop):Inv (X.wish E) pins σ H s:=⟨I.ok.wish E,I.os,I.bare,I.base,I.loc,I.cell,I.free,I.freeC,I.pin,I.hok,I.len⟩
theorem Inv.unwish (I:Inv (X.wish E) pins σ H s):Inv X pins σ H s:=⟨I.ok.unwish,I.os,I.bare,I.base,I.loc,I.cell,I.free,I.freeC,I.pin,I.hok,I.len⟩
theorem SP.unwish {D:Ends} {f:Flow} {s':Shared} (h:SP (X.wish E) pins D f s'):SP X pins D f s':=by
 cases f with
 | next=>obtain⟨σ',H',I,q⟩:=h;exact⟨σ',H',I.unwish,q⟩
 | brk=>obtain⟨σ',H',I,q⟩:=h;exact⟨σ',H',I.unwish,q⟩
 | cont=>obtain⟨σ',H',I,q⟩:=h;exact⟨σ',H',I.unwish,q⟩
 | ret u=>obtain⟨v,σ',H',I,r,q⟩:=h;exact⟨v,σ',H',I.unwish,r,q⟩
theorem PE.nox {e:Expr} {t:TE} (h:PE X.nox e t):PE X e t:=λpins s σ H Q I hw =>
 BI (h pins s σ H Q (I.wish _) hw) (λ_ _ ⟨v,H',I',r,q⟩=>⟨v,H',I'.unwish,r,q⟩) λ_ _ z=>False.elim z
theorem PT.nox {e:Expr} {t:TT} (h:PT X.nox e t):PT X e t:=λpins s σ H Q I hw =>
 BI (h pins s σ H Q (I.wish _) hw) (λ_ _ ⟨H',I',q⟩=>⟨H',I'.unwish,q⟩) λ_ _ z=>False.elim z
theorem PSs.nox {st:List Stmt} {t:TS} (h:PSs X.nox st t):PSs X st t:=λpins s σ H D I hw =>
 BI (h pins s σ H D (I.wish _) hw) (λ_ _ q=>q.unwish) λ_ _ z=>False.elim z
end
section
variable {X : Cx} {st : Stmt} {rest : List Stmt} {t u : TS} {e : Expr} {te : TE} {pos : Pos}
def tNext:TS:=λD σ H=>D.nx σ H
def Qi (t u:TS):TS:=λD σ H=>t {D with nx:=u D} σ H
theorem zq:PSs X [] tNext:=λ_ _ σ H _ I h=>FE ⟨σ,H,I,h⟩
theorem we (h1:PS X st t) (h2:PSs X rest u):PSs X (st::rest) (Qi t u):=by
 intro pins s σ H D I h
 refine wpAny_execs_cons (thn (h1 pins s σ H {D with nx:=u D} I h) λf s1 q=>?_)
 cases f with
 | next =>
  obtain⟨σ',H',I',q⟩:=q
  exact h2 pins s1 σ' H' D I' q
 | ret v=>exact q
 | brk=>exact q
 | cont=>exact q
theorem Inv.quiet {pins:List (Addr×Obj)} {σ:St} {H:Hp} {s:Shared} (I:Inv X pins σ H s):interactive X.env=false:=by simp[interactive,I.ok.kind]
def Lg (te:TE):TS:=λD σ H=>te σ H λ_ H1=>D.nx σ H1
theorem Eu (he:PE X e te) (hs:swapsWith e none pos.line X.env=pure false:=by rfl):PS X (.Expr e pos) (Lg te):=by
 intro pins s σ H D I h
 exact wpAny_Expr_any (thn (he pins s σ H _ I h) λv s1 ⟨x,H1,I1,r1,q1⟩=>⟨σ,H1,I1,q1⟩) I.quiet hs
def Qj (te:TE):TS:=λD σ H=>te σ H D.rt
theorem D0 (he:PE X e te):PS X (.Return (some e) pos) (Qj te):=by
 intro pins s σ H D I h
 exact wpAny_Return_some (thn (he pins s σ H _ I h) λv s1 ⟨x,H1,I1,r1,q1⟩=>⟨x,σ,H1,I1,r1,q1⟩)
def Qk (c:TT) (t u:TS):TS:=λD σ H=>c σ H λb H1=>if b=true then t D σ H1 else u D σ H1
theorem Hs {c:Expr} {a b:List Stmt} {tc:TT} (hc:PT X c tc) (ha:PSs X a t) (hb:PSs X b u):PS X (.If c a b pos) (Qk tc t u):=by
 intro pins s σ H D I h
 refine wpAny_If (thn (hc pins s σ H _ I h) λd s1 ⟨H1,I1,q1⟩=>?_)
 cases d with
 | true=>exact ha pins s1 σ H1 D I1 q1
 | false=>exact hb pins s1 σ H1 D I1 q1
def tNever:TS:=λ_ _ _=>False
theorem Br:PS X st tNever:=λ_ _ _ _ _ _ h=>h.elim
end
abbrev TG:=V->St->Hp->(St->Hp->Prop)->Prop
abbrev TGs:=List V->St->Hp->(St->Hp->Prop)->Prop
def PG (X:Cx) (target:Expr) (t:TG):Prop :=
 ∀(pins:List (Addr×Obj)) (s:Shared) (σ:St) (H:Hp) (v:V) (u:Value) (Q:St->Hp->Prop),Inv X pins σ H s->RelV v u->t v σ H Q ->
  wpAny (model X.prog X.w) X.A (assign target X.env u) (λ_ s'=>∃σ' H',Inv X pins σ' H' s'/\Q σ' H') X.xe s
def PGs (X:Cx) (ts:List Expr) (t:TGs):Prop :=
 ∀(pins:List (Addr×Obj)) (s:Shared) (σ:St) (H:Hp) (vs:List V) (us:List Value) (Q:St->Hp->Prop),Inv X pins σ H s->bw vs us->t vs σ H Q ->
  wpAny (model X.prog X.w) X.A (assignInOrder ((assignEach ts X.env).map (·.2)) us) (λ_ s'=>∃σ' H',Inv X pins σ' H' s'/\Q σ' H') X.xe s
abbrev TSet:=V->V->V->Hp->(Hp->Prop)->Prop
def Ko (X:Cx) (t:TSet):Prop :=
 ∀(pins:List (Addr×Obj)) (s:Shared) (σ:St) (H:Hp) (o i v:V) (ov iv u:Value) (Q:Hp->Prop),Inv X pins σ H s->RelV o ov->RelV i iv->RelV v u->t o i v H Q ->
  wpAny (model X.prog X.w) X.A (setItem ov iv u) (λ_ s'=>∃H',Inv X pins σ H' s'/\Q H') X.xe s
section
variable {X : Cx} {pos : Pos}
def Ew (i:Nat):TG:=λv σ H Q=>Q (σ.set i (some v)) H
theorem zr {i:Nat} {x:Str} (hN:X.N.Nodup) (hi:X.N[i]? = some x) (hx:Loc X.env.scope x) (hf:X.fn x=true\/X.env.scope.names.lookup x=some .local:=by first | exact .inl rfl | exact .inr rfl | assumption):PG X (.Name x pos) (Ew i):=by
 intro pins s σ H v u Q I r h
 exact wpAny_assign_Name (qe I hN hi hx r (λs' I'=>⟨_,H,I',h⟩) hf)
def gNil:TGs:=λvs σ H Q=>vs=[]/\Q σ H
def Lh (t:TG) (u:TGs):TGs:=λvs σ H Q=>∃v r,vs=v::r/\t v σ H λσ' H'=>u r σ' H' Q
theorem Ey:PGs X [] gNil:=by
 intro pins s σ H vs us Q I r h
 obtain⟨e,h⟩:=h
 subst e
 cases r
 exact assignInOrder_nil ⟨σ,H,I,h⟩
theorem Bs {e:Expr} {es:List Expr} {t:TG} {u:TGs} (h1:PG X e t) (h2:PGs X es u)
  (hs:(assignEach (e::es) X.env).map (·.2)=assign e X.env::(assignEach es X.env).map (·.2):=by rfl):PGs X (e::es) (Lh t u):=by
 intro pins s σ H vs us Q I r h
 obtain⟨v,vr,e1,h⟩:=h
 subst e1
 cases r with
 | cons r rr =>
  rw[hs]
  refine assignInOrder_cons (thn (h1 pins s σ H _ _ _ I r h) λ_ s1 ⟨σ1,H1,I1,q1⟩=>?_)
  exact h2 pins s1 σ1 H1 _ _ Q I1 rr q1
def Ql (K:PySem.W.Frag) (n:Nat) (t:TGs):TG:=λv σ H Q=>∃a xs,v=.ref a/\SqT K H a xs/\xs.length=n/\t xs σ H Q
theorem Ht {es:List Expr} {k:Nat} {t:TGs} {n:Nat} (hc:X.calm=true) (h:PGs X es t)
  (hn:(assignEach es X.env).length=n:=by rfl) (hst:(assignEach es X.env).findIdx? (·.1)=none:=by rfl):PG X (.Tuple es k pos) (Ql X.K n t):=by
 intro pins s σ H v u Q I r hw
 obtain⟨a,xs,e1,hq,hl,hw⟩:=hw
 subst e1
 cases r
 obtain⟨its,rv,ht,hz⟩:=I.tuple hq
 refine assign_Tuple_tuple (I.ok.hd hc) ht (by simp[hn,<-hl,rv.length]) hst λh' hx=>?_
 have I1:Inv X pins σ H {s with heap:=h'}:=I.kept (t':=s.toks) λb o e=>hx b o (AM (AH e)) e
 exact h pins _ σ H xs _ Q I1 (by simpa using rv) hw
def Qm (to ti:TE) (t:TSet):TG:=λv σ H Q=>to σ H λo H1=>ti σ H1 λi H2=>t o i v H2 λH3=>Q σ H3
theorem Hu {o i:Expr} {to ti:TE} {t:TSet} (ho:PE X o to) (hi:PE X i ti) (hs:Ko X t)
  (ha:∀v,assign (.Subscript o i pos) X.env v=(do
   let ov <-holding [v] (eval o X.env)
   let iv <-holding [v,ov] (eval i X.env)
   standAt pos
   holding [v,ov,iv] (setItem ov iv v)
   release [v,ov,iv] []):=by intro _;rfl):PG X (.Subscript o i pos) (Qm to ti t):=by
 intro pins s σ H v u Q I r h
 rw[ha]
 refine AA (DO (thn (ho pins s σ H _ I h) λov s1 ⟨x,H1,I1,r1,q1⟩=>?_))
 refine AA (DO (thn (hi pins s1 σ H1 _ I1 q1) λiv s2 ⟨y,H2,I2,r2,q2⟩=>?_))
 refine AA (GG (AA (DO (thn (hs pins s2 σ H2 x y v ov iv u _ I2 r1 r2 r q2) λ_ s3 ⟨H3,I3,q3⟩=>?_))))
 exact wpAny_release ⟨σ,H3,I3,q3⟩
def Od (te:TE) (g:TG):TS:=λD σ H=>te σ H λx H1=>g x σ H1 D.nx
theorem D1 {tg e:Expr} {te:TE} {g:TG} (he:PE X e te) (hg:PG X tg g) (hs:swapsWithSole [tg] e pos.line X.env=pure false:=by rfl) (hw:swappedStores [tg] e X.env=pure none:=by rfl)
  (h1:(assignEach [tg] X.env).map (·.2)=[assign tg X.env]:=by rfl):PS X (.Assign [tg] e pos) (Od te g):=by
 intro pins s σ H D I h
 refine wpAny_Assign_stores (thn (he pins s σ H _ I h) λv s1 ⟨x,H1,I1,r1,q1⟩=>?_) hs hw
 rw[h1]
 exact thn (hg pins s1 σ H1 x v _ I1 r1 q1) λ_ s2 q=>q
theorem D2 {i:Nat} {x:Str} {e:Expr} {te:TE} {pos':Pos} (hN:X.N.Nodup) (hi:X.N[i]? = some x) (hx:Loc X.env.scope x) (he:PE X e te) (hs:swapsWith e (some (.Name x pos')) pos.line X.env=pure false:=by rfl) (hf:X.fn x=true\/X.env.scope.names.lookup x=some .local:=by first | exact .inl rfl | exact .inr rfl | assumption) :
  PS X (.Assign [.Name x pos'] e pos) (Od te (Ew i)):=by
 intro pins s σ H D I h
 refine wpAny_Assign_Name (thn (he pins s σ H _ I h) λv s1 ⟨y,H1,I1,r1,q1⟩=>?_) hs
 exact qe I1 hN hi hx r1 (λs2 I2=>⟨_,H1,I2,q1⟩) hf
end
structure It where
 go:Nat->Hp->Prop
 yld:Nat->Hp->V->Hp->Prop
 stop:Nat->Hp->Prop
def uv (X:Cx) (pins:List (Addr×Obj)) (H:Hp) (b:Addr):Prop :=
 H b=none/\b≠X.env.locals/\b∉X.fs/\(b∈X.ex\/X.s₀.heap.objs.size<=b)/\(∀x c,X.env.cells.lookup x=some c->c≠b)/\∀p∈X.pn++pins,p.1≠b
theorem Inv.fpOk {X:Cx} {pins:List (Addr×Obj)} {σ:St} {H H':Hp} {s:Shared} {b:Addr} (I:Inv X pins σ H s) (hb:s.heap.objs.size<=b) (hn:H' b=none):uv X pins H' b:=by
 refine⟨hn,Ev (AL I.lt hb),I.nofs hb,.inr (CF I.sz hb),λx c e z=>?_,λp hp z=>?_⟩
 ·obtain⟨v,q⟩:=I.cell x c e
  exact absurd (AL q.lt (by rw[z];exact hb)) (BQ _)
 ·exact absurd (AL (AH (I.pin p hp).1) (by rw[z];exact hb)) (BQ _)
structure Turn (P:Program) (w:World) (K:PySem.W.Frag) (tg:Expr) (J:It) (fp:List Addr) (it:Addr) (tn:Nat->Heap->Prop):Prop where
 mem:it∈fp
 obj:∀i h,tn i h->∀b∈fp,∃o,h.get? b=some o/\∀v,o.data≠.cell v
 keep:∀i h h',tn i h->(∀b∈fp,∀o,h.get? b=some o->h'.get? b=some o)->tn i h'
 item:∀(X:Cx),X.prog=P->X.w=w->X.K=K->X.calm=true->∀(i:Nat) (pins:List (Addr×Obj)) (s:Shared) (σ:St) (H:Hp) (E:Value->Shared->Prop),Inv X pins σ H s->(∀b∈fp,uv X pins H b)->tn i s.heap->J.go i H ->
  wpAny (model P w) X.A (pyNext (.ref it)) (λr s1=>∃u,r=some u /\
   wpAny (model P w) X.A (letOwnedTupleGo tg (.ref it) u) (λ_ s2=>∃x H',Inv X pins σ H' s2/\RelV x u/\J.yld i H x H'/\tn (i+1) s2.heap/\∀b∈fp,H' b=none) E s1) E s
 done:∀(X:Cx),X.prog=P->X.w=w->X.K=K->X.calm=true->∀(i:Nat) (pins:List (Addr×Obj)) (s:Shared) (σ:St) (H:Hp) (E:Value->Shared->Prop),Inv X pins σ H s->(∀b∈fp,uv X pins H b)->tn i s.heap->J.stop i H ->
  wpAny (model P w) X.A (pyNext (.ref it)) (λr s1=>r=none/\Inv X pins σ H s1) E s
 self:∀(A:Around) (i:Nat) (s:Shared) (Q:Value->Shared->Prop) (E:Value->Shared->Prop),tn i s.heap->Q (.ref it) s->wpAny (model P w) A (pyIter (.ref it)) Q E s
abbrev TI:=St->Hp->(It->Hp->Prop)->Prop
def PIE (X:Cx) (pins:List (Addr×Obj)) (σ:St) (tg:Expr) (R:It->Hp->Prop) (itv:Value) (s2:Shared):Prop :=
 ∃(it:Addr) (fp:List Addr) (tn:Nat->Heap->Prop) (J:It) (H':Hp),itv=.ref it/\Inv X pins σ H' s2/\Turn X.prog X.w X.K tg J fp it tn/\tn 0 s2.heap/\(∀b∈fp,uv X pins H' b)/\R J H'
def PI (X:Cx) (tg iter:Expr) (wi:TI):Prop :=
 ∀(pins:List (Addr×Obj)) (s:Shared) (σ:St) (H:Hp) (R:It->Hp->Prop),Inv X pins σ H s->wi σ H R ->
  wpAny (model X.prog X.w) X.A (eval iter X.env) (λv s1=>wpAny (model X.prog X.w) X.A (pyIter v) (PIE X pins σ tg R) X.xe s1) X.xe s
theorem Ez {M:Model} {A:Around} {E:Value->Shared->Prop} {s:Shared} {tg:Expr} {it:Addr} {u:Value} {o:Obj} {n:String} {vs:Array Value} {Q:Unit->Shared->Prop} (ho:s.heap.get? it=some o) (hc:o.cls=.type n) (hd:o.data=.fields vs)
  (hn:["enumerate","zip","dict_itemiterator","dict_reverseitemiterator","odict_iterator","itertools.zip_longest","itertools.pairwise"].contains n=false) (hQ:Q () s):wpAny M A (letOwnedTupleGo tg (.ref it) u) Q E s:=by
 unfold letOwnedTupleGo
 cases tg<;>first
  | exact AI hQ
  | (cases u<;>first
    | exact AI hQ
    | (
     refine AA (wpAny_load ho ?_)
     rw[hc,hd]
     show wpAny M A (if(["enumerate","zip","dict_itemiterator","dict_reverseitemiterator","odict_iterator","itertools.zip_longest","itertools.pairwise"].contains n&&vs[0]?==some (rawInt _))=true then _ else _) Q E s
     rw[if_neg (by intro h;rw[hn,Bool.false_and]at h;cases h)]
     exact AI hQ))
def Itl (K:PySem.W.Frag) (a:Addr):It :=
 ⟨λi H=>∃xs x,SqL K H a xs/\xs[i]? = some x,λi H x H'=>H'=H/\∀xs,SqL K H a xs->xs[i]? = some x,λi H=>∃xs,SqL K H a xs/\xs.length<=i⟩
def Itt (K:PySem.W.Frag) (a:Addr):It :=
 ⟨λi H=>∃xs x,SqT K H a xs/\xs[i]? = some x,λi H x H'=>H'=H/\∀xs,SqT K H a xs->xs[i]? = some x,λi H=>∃xs,SqT K H a xs/\xs.length<=i⟩
def Itr (lo:Int) (n:Nat):It:=⟨λi _=>i<n,λi H x H'=>H'=H/\x=.int (lo+i),λi _=>n<=i⟩
theorem zt {P:Program} {w:World} {K:PySem.W.Frag} {tg:Expr} (a it:Addr):Turn P w K tg (Itl K a) [it] it (λi h=>h.IsListIter it a i) where
 mem:=by simp
 obj:=λi h st b hb=>by
  have e:b=it:=by simpa using hb
  subst e
  obtain⟨o,e,c,d⟩:=st
  exact⟨o,e,λv z=>by rw[d]at z;cases z⟩
 keep:=λi h h' st k=>st.at λo e=>k it (by simp) o e
 item:=by
  intro X hP hw hK hc i pins s σ H E I hf st hg
  subst hP hw hK
  obtain⟨xs,x,hq,hx⟩:=hg
  obtain⟨its,rv,p,hz⟩:=I.list hq
  obtain⟨u,hu,ru⟩:=rv.get hx
  obtain⟨f0,f1,f2,f3,f4,f5⟩:=hf it (by simp)
  refine wpAny_pyNext_list_item st p.isList (x:=u) (by simpa using hu) λh' st' sb=>?_
  have I1:Inv X pins σ H {s with heap:=h'}:=I.turned (t':=s.toks) (λb o hb e=>(sb.2 b hb).trans e) f0 f1 f3 f4 f5
  obtain⟨o,e,c,d⟩:=id st'
  exact⟨u,rfl,Ez (s:={s with heap:=h'}) e c d (by decide) ⟨x,H,I1,ru,⟨rfl,λys hy=>by rw[I.list_inj hy hq];exact hx⟩,st',λb hb=>(hf b hb).1⟩⟩
 done:=by
  intro X hP hw hK hc i pins s σ H E I hf st hg
  subst hP hw hK
  obtain⟨xs,hq,hx⟩:=hg
  obtain⟨its,rv,p,hz⟩:=I.list hq
  obtain⟨f0,f1,f2,f3,f4,f5⟩:=hf it (by simp)
  have hl:=rv.length
  exact wpAny_pyNext_list_end (I.ok.hd hc) st p.isList (by simp;lia) λh' eb=>⟨rfl,I.turned (t':=s.toks) (λb o hb e=>eb b o hb e) f0 f1 f3 f4 f5⟩
 self:=λ_ _ _ _ _ st h=>wpAny_pyIter_listiter st h
theorem yd {P:Program} {w:World} {K:PySem.W.Frag} {tg:Expr} (a it:Addr):Turn P w K tg (Itt K a) [it] it (λi h=>h.IsTupleIter it a i) where
 mem:=by simp
 obj:=λi h st b hb=>by
  have e:b=it:=by simpa using hb
  subst e
  obtain⟨o,e,c,d⟩:=st
  exact⟨o,e,λv z=>by rw[d]at z;cases z⟩
 keep:=λi h h' st k=>st.at λo e=>k it (by simp) o e
 item:=by
  intro X hP hw hK hc i pins s σ H E I hf st hg
  subst hP hw hK
  obtain⟨xs,x,hq,hx⟩:=hg
  obtain⟨its,rv,p,hz⟩:=I.tuple hq
  obtain⟨u,hu,ru⟩:=rv.get hx
  obtain⟨f0,f1,f2,f3,f4,f5⟩:=hf it (by simp)
  refine wpAny_pyNext_tuple_item st (show s.heap.IsTuple a its.toArray from p) (x:=u) (by simpa using hu) λh' st' sb=>?_
  have I1:Inv X pins σ H {s with heap:=h'}:=I.turned (t':=s.toks) (λb o hb e=>(sb.2 b hb).trans e) f0 f1 f3 f4 f5
  obtain⟨o,e,c,d⟩:=id st'
  exact⟨u,rfl,Ez (s:={s with heap:=h'}) e c d (by decide) ⟨x,H,I1,ru,⟨rfl,λys hy=>by rw[I.tuple_inj hy hq];exact hx⟩,st',λb hb=>(hf b hb).1⟩⟩
 done:=by
  intro X hP hw hK hc i pins s σ H E I hf st hg
  subst hP hw hK
  obtain⟨xs,hq,hx⟩:=hg
  obtain⟨its,rv,p,hz⟩:=I.tuple hq
  obtain⟨f0,f1,f2,f3,f4,f5⟩:=hf it (by simp)
  have hl:=rv.length
  exact wpAny_pyNext_tuple_end (I.ok.hd hc) st (show s.heap.IsTuple a its.toArray from p) (by simp;lia) λh' eb=>⟨rfl,I.turned (t':=s.toks) (λb o hb e=>eb b o hb e) f0 f1 f3 f4 f5⟩
 self:=λ_ _ _ _ _ st h=>wpAny_pyIter_tupleiter st h
theorem ye {P:Program} {w:World} {K:PySem.W.Frag} {tg:Expr} (it:Addr) (lo:Int) (n:Nat):Turn P w K tg (Itr lo n) [it] it (λi h=>IsRangeIter h it (lo+(i:Nat)*1) ((n:Int)-(i:Nat)) 1) where
 mem:=by simp
 obj:=λi h st b hb=>by
  have e:b=it:=by simpa using hb
  subst e
  exact⟨_,st,λv z=>by
   have z':Data.fields _=Data.cell v:=z
   cases z'⟩
 keep:=λi h h' st k=>k it (by simp) _ st
 item:=by
  intro X hP hw hK hc i pins s σ H E I hf st hg
  subst hP hw hK
  obtain⟨f0,f1,f2,f3,f4,f5⟩:=hf it (by simp)
  have W:=Walks.range (prog:=X.prog) (w:=X.w) (I.ok.hd hc) it lo 1 n
  refine W.item i s _ _ hg st λv h' tk hv st' kk=>?_
  obtain⟨t,rfl⟩:=hv
  have I1:Inv X pins σ H {s with heap:=h',toks:=tk}:=I.turned (λb o hb e=>kk b o (by simpa using hb) e) f0 f1 f3 f4 f5
  refine⟨_,rfl,Ez (s:={s with heap:=h',toks:=tk}) (n:="range_iterator") st' rfl rfl (by decide) ⟨.int (lo+i),H,I1,⟨t,?_⟩,⟨rfl,rfl⟩,st',λb hb=>(hf b hb).1⟩⟩
  rw[Int.mul_one]
 done:=by
  intro X hP hw hK hc i pins s σ H E I hf st hg
  subst hP hw hK
  obtain⟨f0,f1,f2,f3,f4,f5⟩:=hf it (by simp)
  exact wpAny_pyNext_range_end (I.ok.hd hc) st (by have:n<=i:=hg;lia) λh' eb=>⟨rfl,I.turned (t':=s.toks) (λb o hb e=>eb b o hb e) f0 f1 f3 f4 f5⟩
 self:=λ_ _ _ _ _ st h=>wpAny_pyIter_rangeiter st h
section
variable {X : Cx} {tg : Expr}
theorem Bu {pins:List (Addr×Obj)} {σ:St} {H:Hp} {s:Shared} {R:It->Hp->Prop} {E:Value->Shared->Prop} {lo hi:Int} {t u v:Tok} {tk:Nat} (I:Inv X pins σ H s) (h1:-(2 ^ 62)<=lo) (h2:lo<2 ^ 62) (h3:-(2 ^ 62)<=hi) (h4:hi<2 ^ 62)
  (q:R (Itr lo (hi-lo).toNat) H):wpAny (model X.prog X.w) X.A (pyIter (.ref s.heap.objs.size)) (PIE X pins σ tg R) E {s with heap:=s.heap.push {cls:=.type "range",data:=.fields #[.int lo t,.int hi u,.int 1 v]},toks:=tk}:=by
 refine wpAny_pyIter_range (IsRange.new ..) (small_one h1 h2 h3 h4) ?_
 have I1:Inv X pins σ H {s with heap:=s.heap.push {cls:=.type "range",data:=.fields #[.int lo t,.int hi u,.int 1 v]},toks:=tk}:=I.kept λb o e=>AC _ e
 refine⟨(s.heap.push {cls:=.type "range",data:=.fields #[.int lo t,.int hi u,.int 1 v]}).objs.size,[(s.heap.push {cls:=.type "range",data:=.fields #[.int lo t,.int hi u,.int 1 v]}).objs.size],_,_,H,rfl,
  I1.kept (t':=tk) λb o e=>AC _ e,ye _ lo (hi-lo).toNat,?_,λb hb=>?_,q⟩
 ·have e1:lo+((0:Nat):Int)*1=lo:=by simp
  have e2:(((hi-lo).toNat:Nat):Int)-((0:Nat):Int)=Builtin.Range.rangeSize lo hi 1:=by rw[rangeSize_one];split<;>lia
  show IsRangeIter _ _ (lo+((0:Nat):Int)*1) ((((hi-lo).toNat:Nat):Int)-((0:Nat):Int)) 1
  rw[e1,e2]
  exact AQ _ rfl
 ·have e:b=(s.heap.push {cls:=.type "range",data:=.fields #[.int lo t,.int hi u,.int 1 v]}).objs.size:=by simpa using hb
  subst e
  exact I1.fpOk (AN _) (I1.hok.fresh (AN _))
def Li (ta:TA):TI:=λσ H R=>ta σ H λvs H1=>∃j:Int,vs=[.int j] /\ -(2 ^ 62)<=j/\j<2 ^ 62/\R (Itr 0 j.toNat) H1
theorem zu {a:Expr} {ta:TA} {p pos:Pos} (hg:Gl X "range") (hm:X.mg "range"=none) (ha:PA X [a] ta) (hs:starEach [a] X.env=[(false,eval a X.env)]:=by rfl):PI X tg (.Call (.Name "range" p) [a] [] pos) (Li ta):=by
 intro pins s σ H R I h
 refine Call_ (mx I hg hm boot_range (CD (thn (ha pos pins s σ H _ I h) λus s1 ⟨vs,H1,I1,r1,q1⟩=>?_) hs rfl))
 obtain⟨j,e,q1,q2,q⟩:=q1
 subst e
 cases r1 with
 | cons r rr =>
  cases rr
  obtain⟨t,rfl⟩:=r
  exact call_range_1 (Bu I1 (by lia) (by lia) q1 q2 (by simpa using q))
def Qn (wi:TI) (g:TG) (tb:TS):TS:=λD σ H=>wi σ H λJ H1=>∃W:Nat->Nat->St->Hp->Prop,(∃m,W 0 m σ H1)/\∀i m σ H,W i m σ H ->
 (J.stop i H/\D.nx σ H)\/(J.go i H/\∃N:St->Hp->Prop,(∀σ' H',N σ' H'->∃m',m'<m/\W (i+1) m' σ' H')/\∀x H',J.yld i H x H'->g x σ H' λσ2 H2=>tb {D with nx:=N,ct:=N,bk:=D.nx} σ2 H2)
def ph (fp:List Addr) (h:Heap):List (Addr×Obj):=fp.filterMap λb=>(h.get? b).map λo=>(b,o)
theorem d9 {fp:List Addr} {h:Heap} {b:Addr} {o:Obj} (hb:b∈fp) (e:h.get? b=some o):(b,o)∈ph fp h:=List.mem_filterMap.mpr ⟨b,hb,by rw[e];rfl⟩
theorem zv {fp:List Addr} {h:Heap} {p:Addr×Obj} (hp:p∈ph fp h):p.1∈fp/\h.get? p.1=some p.2:=by
 obtain⟨b,hb,e⟩:=List.mem_filterMap.mp hp
 cases q:h.get? b with
 | none=>rw[q]at e;cases e
 | some o =>
  rw[q]at e
  have e':(b,o)=p:=BC e
  subst e'
  exact⟨hb,q⟩
theorem Inv.pinned {pins:List (Addr×Obj)} {σ:St} {H:Hp} {s:Shared} {fp:List Addr} (I:Inv X pins σ H s) (hf:∀b∈fp,uv X pins H b) (ho:∀b∈fp,∃o,s.heap.get? b=some o/\∀v,o.data≠.cell v):Inv X (pins++ph fp s.heap) σ H s :=
 I.pins_of λp hp=>(CT.mp hp).elim (λz=>I.pin p (AS _ z)) λz=>by
  obtain⟨hb,e⟩:=zv z
  obtain⟨f0,f1,f2,_⟩:=hf p.1 hb
  obtain⟨o,e',d⟩:=ho p.1 hb
  rw[e]at e';cases e'
  exact⟨e,f0,f1,f2,d⟩
theorem Inv.unpinned {pins pl:List (Addr×Obj)} {σ:St} {H:Hp} {s:Shared} (I:Inv X (pins++pl) σ H s):Inv X pins σ H s:=I.pins_of λp hp=>I.pin p (AS _ (FA _ hp))
theorem Hv {iter:Expr} {body:List Stmt} {wi:TI} {g:TG} {tb:TS} {pos:Pos} (hp:PassesOwn (model X.prog X.w) X.A X.env X.xe) (hc:X.calm=true) (hi:PI X tg iter wi) (hg:PG X tg g) (hb:PSs X body tb)
  (hs:∀x,foldedSetIterable iter X.env x=pure x:=by intro _;rfl):PS X (.For tg iter body [] pos) (Qn wi g tb):=by
 intro pins s σ H D I h
 refine wpAny_For (thn (hi pins s σ H _ I h) λv s1 h1=>thn h1 λitv s2 h2=>?_) hs
 obtain⟨it,fp,tn,J,H2,e,I2,T,st2,f2,W,⟨m0,w0⟩,turn⟩:=h2
 subst e
 -- what stays true of the iterator's objects through the loop
 have stat:∀{H':Hp},(∀b∈fp,H' b=none)->∀b∈fp,uv X pins H' b:=λhn b hb=>⟨hn b hb,(f2 b hb).2⟩
 refine codeAny_forLoop_any (λn s'=>∃i σ' H',Inv X pins σ' H' s'/\tn i s'.heap/\(∀b∈fp,H' b=none)/\W i n σ' H') ?_ m0 ⟨0,σ,H2,I2,st2,λb hb=>(f2 b hb).1,w0⟩
 rintro n s3 ⟨i,σ3,H3,I3,st3,fr3,w3⟩
 rcases turn i n σ3 H3 w3 with⟨stop,qn⟩ | ⟨go,N,hN,step⟩
 ·refine EF hp (thn (T.done X rfl rfl rfl hc i pins s3 σ3 H3 X.xe I3 (stat fr3) st3 stop) λr s4 ⟨hr,I4⟩=>?_)
  subst hr
  exact FE ⟨σ3,H3,I4,qn⟩
 ·refine EF hp (thn (T.item X rfl rfl rfl hc i pins s3 σ3 H3 X.xe I3 (stat fr3) st3 go) λr s4 ⟨u,hr,h4⟩=>?_)
  subst hr
  refine EF hp (thn h4 λ_ s5 ⟨x,H5,I5,r5,y5,st5,fr5⟩=>?_)
  have I5':=I5.pinned (stat fr5) (T.obj _ _ st5)
  refine EF hp (thn (hg _ s5 σ3 H5 x u _ I5' r5 (step x H5 y5)) λ_ s6 ⟨σ6,H6,I6,q6⟩=>?_)
  refine EF hp (thn (hb _ s6 σ6 H6 _ I6 q6) λf s7 q7=>?_)
  have again:∀{σ7:St} {H7:Hp},Inv X (pins++ph fp s5.heap) σ7 H7 s7->N σ7 H7->∃m,m<n/\∃i σ' H',Inv X pins σ' H' s7/\tn i s7.heap/\(∀b∈fp,H' b=none)/\W i m σ' H':=λ{σ7 H7} I7 n7=>by
   obtain⟨m',hm,w7⟩:=hN σ7 H7 n7
   refine⟨m',hm,i+1,σ7,H7,I7.unpinned,T.keep _ _ _ st5 λb hb o e=>(I7.pin (b,o) (AS _ (AS _ (d9 hb e)))).1,λb hb=>?_,w7⟩
   obtain⟨o,e,d⟩:=T.obj _ _ st5 b hb
   exact(I7.pin (b,o) (AS _ (AS _ (d9 hb e)))).2.1
  cases f with
  | next=>obtain⟨σ7,H7,I7,n7⟩:=q7;exact again I7 n7
  | cont=>obtain⟨σ7,H7,I7,n7⟩:=q7;exact again I7 n7
  | brk=>obtain⟨σ7,H7,I7,q7⟩:=q7;exact⟨σ7,H7,I7.unpinned,q7⟩
  | ret v=>obtain⟨x7,σ7,H7,I7,r7,q7⟩:=q7;exact⟨x7,σ7,H7,I7.unpinned,r7,q7⟩
end
abbrev R2:=V->V->Hp->VK->Prop
def OpR (X:Cx) (f:Value->Value->Sem Value) (r:R2):Prop :=
 ∀(pins:List (Addr×Obj)) (s:Shared) (σ:St) (H:Hp) (x y:V) (v u:Value) (Q:VK),Inv X pins σ H s->RelV x v->RelV y u->r x y H Q ->
  wpAny (model X.prog X.w) X.A (f v u) (EP X pins σ Q) X.xe s
def UnR (X:Cx) (f:Value->Sem Value) (r:V->Hp->VK->Prop):Prop :=
 ∀(pins:List (Addr×Obj)) (s:Shared) (σ:St) (H:Hp) (x:V) (v:Value) (Q:VK),Inv X pins σ H s->RelV x v->r x H Q ->
  wpAny (model X.prog X.w) X.A (f v) (EP X pins σ Q) X.xe s
def d0 (X:Cx) (f:Value) (r:List V->Hp->VK->Prop):Prop :=
 ∀(pins:List (Addr×Obj)) (s:Shared) (σ:St) (H:Hp) (xs:List V) (us:List Value) (Q:VK),Inv X pins σ H s->bw xs us->r xs H Q ->
  wpAny (model X.prog X.w) X.A (call f us) (EP X pins σ Q) X.xe s
def Qo (X:Cx) (r:V->Hp->(Bool->Hp->Prop)->Prop):Prop :=
 ∀(pins:List (Addr×Obj)) (s:Shared) (σ:St) (H:Hp) (x:V) (v:Value) (Q:Bool->Hp->Prop),Inv X pins σ H s->RelV x v->r x H Q ->
  wpAny (model X.prog X.w) X.A (truthy v) (TP X pins σ Q) X.xe s
def tOp (r:R2) (ta tb:TE):TE:=λσ H Q=>ta σ H λx H1=>tb σ H1 λy H2=>r x y H2 Q
def tUn (r:V->Hp->VK->Prop) (ta:TE):TE:=λσ H Q=>ta σ H λx H1=>r x H1 Q
def rI (C:Int->Int->Prop) (g:Int->Int->V):R2:=λx y H Q=>∃i j,x=.int i/\y=.int j/\C i j/\Q (g i j) H
def rI0 (g:Int->Int->V):R2:=λx y H Q=>∃i j,x=.int i/\y=.int j/\Q (g i j) H
def rU (g:Int->V):V->Hp->VK->Prop:=λx H Q=>∃i,x=.int i/\Q (g i) H
section
variable {X : Cx} {a b c : Expr} {ta tb tc : TE} {pos : Pos}
theorem Oe (ha:PE X a ta) (hb:PE X b tb) {pins:List (Addr×Obj)} {s:Shared} {σ:St} {H:Hp} {R:V->V->Hp->Prop} (I:Inv X pins σ H s)
  (h:ta σ H λx H1=>tb σ H1 λy H2=>R x y H2) {Q:Value->Shared->Prop} {f:Value->Value->Sem Value}
  (hf:∀v u s2 x y H2,Inv X pins σ H2 s2->RelV x v->RelV y u->R x y H2->wpAny (model X.prog X.w) X.A (f v u) Q X.xe s2) :
  wpAny (model X.prog X.w) X.A (eval a X.env) (λv s₁=>wpAny (model X.prog X.w) X.A (eval b X.env) (λu s₂=>wpAny (model X.prog X.w) X.A (f v u) Q X.xe s₂) X.xe s₁) X.xe s:=by
 refine thn (ha pins s σ H _ I h) λv s1 ⟨x,H1,I1,r1,q1⟩=>?_
 refine thn (hb pins s1 σ H1 _ I1 q1) λu s2 ⟨y,H2,I2,r2,q2⟩=>?_
 exact hf v u s2 x y H2 I2 r1 r2 q2
theorem Lj {op:Operator} {r:R2} (ho:OpR X (binaryOp op) r) (ha:PE X a ta) (hb:PE X b tb):PE X (.BinOp a op b pos) (tOp r ta tb):=by
 intro pins s σ H Q I h
 exact wpAny_BinOp (Oe ha hb I h λv u s2 x y H2 I2 rx ry q=>ho pins s2 σ H2 x y v u Q I2 rx ry q)
theorem Lk {op:UnaryOp} {r:V->Hp->VK->Prop} (ho:UnR X (unaryOp op) r) (ha:PE X a ta):PE X (.UnaryOp op a pos) (tUn r ta):=by
 intro pins s σ H Q I h
 exact UnaryOp_ (thn (ha pins s σ H _ I h) λv s1 ⟨x,H1,I1,r1,q1⟩=>ho pins s1 σ H1 x v Q I1 r1 q1)
theorem opI {f:Value->Value->Sem Value} {C:Int->Int->Prop} {g:Int->Int->Int}
  (rule:∀(i j:Int) (t u:Tok) (s:Shared) (Q:Value->Shared->Prop) (E:Value->Shared->Prop),C i j->Q (.int (g i j) s.toks) {s with toks:=s.toks+1}->wpAny (model X.prog X.w) X.A (f (.int i t) (.int j u)) Q E s) :
  OpR X f (rI C λi j=>.int (g i j)):=by
 intro pins s σ H x y v u Q I rx ry h
 obtain⟨i,j,rfl,rfl,hc,q⟩:=h
 obtain⟨t,rfl⟩:=rx
 obtain⟨t',rfl⟩:=ry
 exact rule i j t t' s _ _ hc ⟨.int (g i j),H,I.tok _,⟨_,rfl⟩,q⟩
theorem Of {f:Value->Value->Sem Value} {g:Int->Int->Int}
  (rule:∀(i j:Int) (t u:Tok) (s:Shared) (Q:Value->Shared->Prop) (E:Value->Shared->Prop),Q (.int (g i j) s.toks) {s with toks:=s.toks+1}->wpAny (model X.prog X.w) X.A (f (.int i t) (.int j u)) Q E s) :
  OpR X f (rI0 λi j=>.int (g i j)):=by
 intro pins s σ H x y v u Q I rx ry h
 obtain⟨i,j,rfl,rfl,q⟩:=h
 obtain⟨t,rfl⟩:=rx
 obtain⟨t',rfl⟩:=ry
 exact rule i j t t' s _ _ ⟨.int (g i j),H,I.tok _,⟨_,rfl⟩,q⟩
theorem Kp {f:Value->Value->Sem Value} {g:Int->Int->Bool}
  (rule:∀(i j:Int) (t u:Tok) (s:Shared) (Q:Value->Shared->Prop) (E:Value->Shared->Prop),Q (.bool (g i j)) s->wpAny (model X.prog X.w) X.A (f (.int i t) (.int j u)) Q E s) :
  OpR X f (rI0 λi j=>.bl (g i j)):=by
 intro pins s σ H x y v u Q I rx ry h
 obtain⟨i,j,rfl,rfl,q⟩:=h
 obtain⟨t,rfl⟩:=rx
 obtain⟨t',rfl⟩:=ry
 exact rule i j t t' s _ _ ⟨.bl (g i j),H,I,rfl,q⟩
def Qp (i j:Int):Prop:=0<j/\j<1073741824
def Qq (i j:Int):Prop:=0<=j/\j<=1000000/\i.natAbs<2 ^ 64
def CMul (i j:Int):Prop:=(-(2 ^ 64)<i/\i<2 ^ 64)\/(-(2 ^ 64)<j/\j<2 ^ 64)
theorem CMul.ok {i j:Int} (h:CMul i j):IntMulOk i j:=by
 rcases h with⟨h1,h2⟩ | ⟨h1,h2⟩
 ·exact .of_left (intBits_le_64 h1 h2)
 ·exact .of_right (intBits_le_64 h1 h2)
theorem yf (k:Nat):(0:Int)<=2 ^ k:=by
 rw[two_pow_cast]
 exact Int.natCast_nonneg _
theorem op_add:OpR X (binaryOp .Add) (rI0 λi j=>.int (i+j)):=Of λ_ _ _ _ _ _ _ q=>add_int q
theorem op_sub:OpR X (binaryOp .Sub) (rI0 λi j=>.int (i-j)):=Of λ_ _ _ _ _ _ _ q=>sub_int q
theorem op_mul:OpR X (binaryOp .Mult) (rI CMul λi j=>.int (i*j)):=opI λ_ _ _ _ _ _ _ hc q=>mul_int q hc.ok
theorem E1:OpR X (binaryOp .FloorDiv) (rI Qp λi j=>.int (i / j)):=opI λi j _ _ _ _ _ hc q=>by
 have h1:(0:Int)<j:=hc.1
 have h2:j<1073741824:=hc.2
 exact floordiv_int (by lia) (by rw[FR i (by lia)];exact q) (.inl (PyProof.noPylong_small (by lia)))
theorem op_mod:OpR X (binaryOp .Mod) (rI (λ_ j=>0<j) λi j=>.int (i % j)):=opI λi j _ _ _ _ _ hc q=>by
 have h1:(0:Int)<j:=hc
 exact mod_int' (by lia) (by rw[Int.fmod_eq_emod_of_nonneg i (by lia)];exact q)
theorem op_pow:OpR X (binaryOp .Pow) (rI Qq λi j=>.int (i ^ j.toNat)):=opI λ_ _ _ _ _ _ _ hc q=>pow_int_small hc.1 hc.2.1 hc.2.2 q
theorem op_shr:OpR X (binaryOp .RShift) (rI (λ_ j=>0<=j) λi j=>.int (i / 2 ^ j.toNat)):=opI λi j _ _ _ _ _ hc q =>
 rshift_int hc (by rw[FR i (yf _)];exact q)
theorem unI {f:Value->Sem Value} {g:Int->Int}
  (rule:∀(i:Int) (t:Tok) (s:Shared) (Q:Value->Shared->Prop) (E:Value->Shared->Prop),Q (.int (g i) s.toks) {s with toks:=s.toks+1}->wpAny (model X.prog X.w) X.A (f (.int i t)) Q E s) :
  UnR X f (rU λi=>.int (g i)):=by
 intro pins s σ H x v Q I rx h
 obtain⟨i,rfl,q⟩:=h
 obtain⟨t,rfl⟩:=rx
 exact rule i t s _ _ ⟨.int (g i),H,I.tok _,⟨_,rfl⟩,q⟩
theorem Hw:UnR X (unaryOp .USub) (rU λi=>.int (-i)):=unI λ_ _ _ _ _ q=>neg_int q
theorem D3 {pins:List (Addr×Obj)} {σ:St} {H:Hp} {s:Shared} {Q:VK} {k k':Bool} (I:Inv X pins σ H s) (q:Q (.bl k) H) (e:k=k'):EP X pins σ Q (.bool k') s:=by
 subst e
 exact⟨.bl k,H,I,rfl,q⟩
theorem Ll:OpR X (compareOp .Lt) (rI0 λi j=>.bl (decide (i<j))):=Kp λ_ _ _ _ _ _ _ q=>lt_int q
theorem Lm:OpR X (compareOp .LtE) (rI0 λi j=>.bl (decide (i<=j))):=Kp λ_ _ _ _ _ _ _ q=>le_int q
theorem Ln:OpR X (compareOp .Gt) (rI0 λi j=>.bl (decide (j<i))):=Kp λ_ _ _ _ _ _ _ q=>gt_int q
theorem Lo:OpR X (compareOp .GtE) (rI0 λi j=>.bl (decide (j<=i))):=Kp λ_ _ _ _ _ _ _ q=>ge_int q
theorem Hx:OpR X (compareOp .Is) (λx y H Q=>y=.non/\Q (.bl (decide (x=.non))) H):=by
 intro pins s σ H x y v u Q I rx ry h
 obtain⟨rfl,q⟩:=h
 cases ry
 refine is_none_gen (D3 I q ?_)
 cases x<;>first
  | (cases rx;rfl)
  | (obtain⟨t,rfl⟩:=rx;rfl)
theorem E2:OpR X (compareOp .IsNot) (λx y H Q=>y=.non/\Q (.bl (!decide (x=.non))) H):=by
 intro pins s σ H x y v u Q I rx ry h
 obtain⟨rfl,q⟩:=h
 cases ry
 refine isnot_none_gen (D3 I q ?_)
 cases x<;>first
  | (cases rx;rfl)
  | (obtain⟨t,rfl⟩:=rx;rfl)
def Og (K:PySem.W.Frag) (x:V) (H:Hp) (k:Bool):Prop :=
 match x with
 | .non=>k=false
 | .bl b=>k=b
 | .int i=>k=(i != 0)
 | .str y=>y.length<=sizeLine/\k=((y.length:Int) != 0)
 | .byt y=>y.size<=sizeLine/\k=((y.size:Int) != 0)
 | .ref p=>(∃xs,SqL K H p xs/\k=!xs.isEmpty)\/(∃xs,SqT K H p xs/\k=!xs.isEmpty)\/∃kvs,H p=some (.dK kvs)/\k=!kvs.isEmpty
 | _=>False
theorem yg {κ:Type} {kvs:List (κ×V)} {vs:List (κ×Value)} (r:KV kvs vs):(!vs.isEmpty)=!kvs.isEmpty:=by
 cases r<;>rfl
theorem pj {xs:List V} {its:List Value} (r:bw xs its):(!its.toArray.isEmpty)=!xs.isEmpty:=by
 cases r<;>simp
theorem pk:(sizeLine:Nat)<2 ^ 63:=by rw[FB];decide
theorem Hy:Qo X (λx H Q=>∃k,Og X.K x H k/\Q k H):=by
 intro pins s σ H x v Q I rx h
 obtain⟨k,e,q⟩:=h
 have hl:=pk
 have hs:sizeLine=16777216:=FB
 cases x with
 | non =>
  cases rx
  have e':k=false:=e
  subst e'
  exact truthy_none ⟨H,I,q⟩
 | bl b =>
  cases rx
  have e':k=b:=e
  subst e'
  exact DU ⟨H,I,q⟩
 | int i =>
  obtain⟨t,rfl⟩:=rx
  have e':k=(i != 0):=e
  subst e'
  exact PySem.P.truthy_int ⟨H,I,q⟩
 | str y =>
  obtain⟨t,rfl⟩:=rx
  obtain⟨hy,e'⟩:y.length<=sizeLine/\k=((y.length:Int) != 0):=e
  subst e'
  exact PySem.P.truthy_str (by lia) ⟨H,I.tok _,q⟩
 | byt y =>
  obtain⟨t,rfl⟩:=rx
  obtain⟨hy,e'⟩:y.size<=sizeLine/\k=((y.size:Int) != 0):=e
  subst e'
  exact PySem.W.truthy_bytes (by lia) ⟨H,I.tok _,q⟩
 | ref p =>
  cases rx
  have e':(∃xs,SqL X.K H p xs/\k=!xs.isEmpty)\/(∃xs,SqT X.K H p xs/\k=!xs.isEmpty)\/∃kvs,H p=some (.dK kvs)/\k=!kvs.isEmpty:=e
  rcases e' with⟨xs,hx,e'⟩ | ⟨xs,hx,e'⟩ | ⟨kvs,hx,e'⟩
  ·subst e'
   obtain⟨its,r,pl,hz⟩:=I.list hx
   have hlen:=r.length
   exact wpAny_truthy_list pl.isList (by simp![AE];lia) ⟨H,I.tok _,by rw[pj r];exact q⟩
  ·subst e'
   obtain⟨its,r,pl,hz⟩:=I.tuple hx
   have hlen:=r.length
   exact truthy_tuple pl (by simp![AE];lia) ⟨H,I.tok _,by rw[pj r];exact q⟩
  ·subst e'
   obtain⟨hz,hS,vs,r,m⟩:kvs.length<=sizeLine/\(p==sysModules)=false/\∃vs,KV kvs vs/\s.heap.DictOf (dz X.prog X.w) p vs:=I.hok p _ hx
   have hlen:kvs.length=vs.length:=EZ r
   exact wpAny_truthy_dict hS m (by lia) ⟨H,I.tok _,by rw[yg r];exact q⟩
 | _=>exact(show False from e).elim
theorem Bv (ha:PE X a ta) (he:∀whole,isTrue a X.env whole=(do let v <-whole;standAt a.pos;holding [v] (truthy v))) :
  PT X a (λσ H Q=>ta σ H λx H'=>∃k,Og X.K x H' k/\Q k H'):=by
 intro pins s σ H Q I h
 exact isTrue_plain (thn (ha pins s σ H _ I h) λv s1 ⟨x,H1,I1,r1,q1⟩=>Hy pins s1 σ H1 x v Q I1 r1 q1) (he _)
theorem vals1 {x:V} {us:List Value} (r:bw [x] us):∃u,us=[u]/\RelV x u:=by
 cases r with
 | cons r1 r2=>cases r2;exact⟨_,rfl,r1⟩
theorem vals2 {x y:V} {us:List Value} (r:bw [x,y] us):∃u w',us=[u,w']/\RelV x u/\RelV y w':=by
 cases r with
 | cons r1 r2 =>
  cases r2 with
  | cons r3 r4=>cases r4;exact⟨_,_,rfl,r1,r3⟩
theorem zw (hc:X.calm=true):d0 X (.builtin "max") (λxs H Q=>∃i j,xs=[.int i,.int j]/\Q (.int (if j > i then j else i)) H):=by
 intro pins s σ H xs us Q I r h
 obtain⟨i,j,rfl,q⟩:=h
 obtain⟨u,w',rfl,⟨t,rfl⟩,⟨t',rfl⟩⟩:=vals2 r
 refine max_two_ints (I.ok.hd hc) λh' tk k=>⟨_,H,I.kept k,?_,q⟩
 by_cases hj:j > i
 ·rw[if_pos hj,if_pos hj];exact⟨_,rfl⟩
 ·rw[if_neg hj,if_neg hj];exact⟨_,rfl⟩
theorem zx (hc:X.calm=true):d0 X (.builtin "min") (λxs H Q=>∃i j,xs=[.int i,.int j]/\Q (.int (if j<i then j else i)) H):=by
 intro pins s σ H xs us Q I r h
 obtain⟨i,j,rfl,q⟩:=h
 obtain⟨u,w',rfl,⟨t,rfl⟩,⟨t',rfl⟩⟩:=vals2 r
 refine min_two_ints (I.ok.hd hc) λh' tk k=>⟨_,H,I.kept k,?_,q⟩
 by_cases hj:j<i
 ·rw[if_pos hj,if_pos hj];exact⟨_,rfl⟩
 ·rw[if_neg hj,if_neg hj];exact⟨_,rfl⟩
theorem zy:d0 X (.type "int") (λxs H Q=>(∃i,xs=[.int i]/\Q (.int i) H)\/∃k,xs=[.bl k]/\Q (.int (if k then 1 else 0)) H):=by
 intro pins s σ H xs us Q I r h
 rcases h with⟨i,rfl,q⟩ | ⟨k,rfl,q⟩
 ·obtain⟨u,rfl,t,rfl⟩:=vals1 r
  exact call_int_int ⟨.int i,H,I,⟨_,rfl⟩,q⟩
 ·obtain⟨u,rfl,r1⟩:=vals1 r
  cases r1
  exact call_int_bool ⟨.int (if k then 1 else 0),H,I.tok _,⟨_,rfl⟩,q⟩
end
structure Room (k:Nat) (A:Around):Prop where
 hd:A.handled=none
 dp:A.depth+3*k+5<recursionLimit
 un:A.units+16*k+200<cLine
theorem Room.deeper {k:Nat} {A:Around} (r:Room (k+1) A) (env:Env):Room k (A.deeper env) :=
 ⟨r.hd,by have:=r.dp;show A.depth+1+3*k+5<_;lia,by have:=r.un;show A.units+3+16*k+200<_;lia⟩
theorem Room.depth {k:Nat} {A:Around} (r:Room k A):A.depth<recursionLimit:=by have:=r.dp;lia
theorem Room.units {k:Nat} {A:Around} (r:Room k A):A.units+64<cLine:=by have:=r.un;lia
def tNil:TA:=λ_ H Q=>Q [] H
def Lq (ta:TE) (tr:TA):TA:=λσ H Q=>ta σ H λx H1=>tr σ H1 λxs H2=>Q (x::xs) H2
section
variable {X : Cx} {e : Expr} {es : List Expr} {te : TE} {t : TA} {pos : Pos}
theorem wj:PA X [] tNil:=λ_ _ _ _ H Q I h=>Go ⟨[],H,I,.nil,h⟩
theorem ky (ha:PE X e te) (hr:PA X es t) (hs:starEach (e::es) X.env=(false,eval e X.env)::starEach es X.env:=by rfl):PA X (e::es) (Lq te t):=by
 intro pos pins s σ H Q I h
 rw[hs]
 show wpAny _ _ (spliced ((false,eval e X.env)::backTo pos (starEach es X.env))) _ _ s
 refine FS (thn (ha pins s σ H _ I h) λu s1 ⟨x,H1,I1,r1,q1⟩=>?_)
 exact thn (hr pos pins s1 σ H1 _ I1 q1) λus s2 ⟨xs,H2,I2,r2,q2⟩=>⟨x::xs,H2,I2,.cons r1 r2,q2⟩
def Qr (t:TA):TE:=λσ H Q=>t σ H λxs H1=>xs.length<=sizeLine/\∀p,H1 p=none->Q (.ref p) (upd H1 p (.tup xs))
def Qs (t:TA):TE:=λσ H Q=>t σ H λxs H1=>xs.length<=sizeLine/\∀p,H1 p=none->Q (.ref p) (upd H1 p (.lst xs))
theorem Hz {x1} (h:PA X es t):PE X (.Tuple es x1 pos) (Qr t):=by
 intro pins s σ H Q I hq
 refine wpAny_Tuple_spliced (thn (h pos pins s σ H _ I hq) λus s1 ⟨xs,H1,I1,r,z,q⟩=>⟨by rw[<-r.length];exact z,?_⟩)
 have hf:H1 s1.heap.objs.size=none:=I1.hok.fresh (AN _)
 refine⟨.ref s1.heap.objs.size,upd H1 s1.heap.objs.size (.tup xs),I1.laid (t':=s1.toks) (λb u e=>AC _ e) (AN _) ?_,rfl,q _ hf⟩
 exact⟨z,us,r,⟨_,AQ _ rfl,rfl,rfl,_,rfl⟩⟩
theorem Ia (h:PA X es t):PE X (.List es pos) (Qs t):=by
 intro pins s σ H Q I hq
 refine wpAny_List_spliced (thn (h pos pins s σ H _ I hq) λus s1 ⟨xs,H1,I1,r,z,q⟩=>⟨by rw[<-r.length];exact z,?_⟩)
 have hf:H1 s1.heap.objs.size=none:=I1.hok.fresh (AN _)
 refine⟨.ref s1.heap.objs.size,upd H1 s1.heap.objs.size (.lst xs),I1.laid (t':=s1.toks) (λb u e=>AC _ e) (AN _) ?_,rfl,q _ hf⟩
 exact⟨z,us,0,r,AQ _ rfl⟩
end
abbrev Sp:=List V->Hp->VK->XK->Prop
abbrev CXT:=List Env->Hp->Shared->XK->Value->Shared->Prop
structure Env0 (P:Program) (w:World) (K:PySem.W.Frag) (mg:Str->Option Value) (base:Heap) (A:Around) (outer:List Env) (s:Shared) (H:Hp):Prop where
 frames:A.frames=some outer
 mod:Mod K mg base
 bs:∀b o,base.get? b=some o->s.heap.get? b=some o/\H b=none
 bsz:base.objs.size<=s.heap.objs.size
 funs:s.heap.FunFrames base outer
 frf:∀b∈frs outer,H b=none
 hok:HOk P w H s.heap
 bare:AllBare s.gens
def CE (outer:List Env) (P:Program) (w:World) (H:Hp) (s:Shared) (Q:VK) (u:Value) (s':Shared):Prop :=
 ∃v H',s'.os=s.os/\AllBare s'.gens/\Un (frs outer) [] H H' s.heap s'.heap/\HOk P w H' s'.heap/\RelV v u/\Q v H'
def CR (CX:CXT) (outer:List Env) (P:Program) (w:World) (H:Hp) (s:Shared) (Q:VK) (E:XK) (r:Result) (s':Shared):Prop :=
 match r with
 | .ok (.ret u)=>CE outer P w H s Q u s'
 | .ok _=>False
 | .error e=>CX outer H s E e s'
structure FnOk (P:Program) (w:World) (K:PySem.W.Frag) (mg:Str->Option Value) (base:Heap) (CX:CXT) (k:Nat) (f:Addr) (fd:FuncData) (ps:List Str) (sp:Sp):Prop where
 len:∀vs H Q E,sp vs H Q E->vs.length=ps.length
 run:∀(A:Around) (outer:List Env) (s:Shared) (H:Hp) (args:Args) (us:List Value) (vs:List V) (Q:VK) (E:XK),Room k A->Env0 P w K mg base A outer s H->BindsTo s fd args (ps.zip us)->bw vs us->sp vs H Q E ->
  codeAny (model P w) A (.call (.ref f) args) (CR CX outer P w H s Q E) s
theorem FnOk.imp {P:Program} {w:World} {K:PySem.W.Frag} {mg:Str->Option Value} {base:Heap} {CX:CXT} {k:Nat} {f:Addr} {fd:FuncData} {ps:List Str} {sp sp':Sp} (F:FnOk P w K mg base CX k f fd ps sp)
  (h:∀vs H Q E,sp' vs H Q E->sp vs H Q E):FnOk P w K mg base CX k f fd ps sp' :=
 ⟨λvs H Q E q=>F.len vs H Q E (h _ _ _ _ q),λA outer s H args us vs Q E hr he hb hv hs=>F.run A outer s H args us vs Q E hr he hb hv (h _ _ _ _ hs)⟩
section
variable {X : Cx} {pins : List (Addr × Obj)} {σ : St} {H : Hp} {s s' : Shared}
theorem Inv.env0 (I:Inv X pins σ H s):Env0 X.prog X.w X.K X.mg X.base X.A X.stack s H :=
 ⟨I.ok.frames,I.ok.mod,I.bs,CF I.ok.bsz I.sz,I.stack,I.stkFree,I.hok,I.bare⟩
theorem Inv.after {Q:VK} {u:Value} (I:Inv X pins σ H s) (h:CE X.stack X.prog X.w H s Q u s'):EP X pins σ Q u s':=by
 obtain⟨v,H',os,bare,un,hok,r,q⟩:=h
 obtain⟨hh,g,d,t,os'⟩:=s'
 obtain rfl:os'=s.os:=os
 exact⟨v,H',I.call (h':=hh) (g':=g) (d':=d) (t':=t) (ch:=[]) un hok bare (λb z=>absurd z (by simp)),r,q⟩
end
def Ib (sp:Sp) (dvs:List V) (E:XK) (t:TA):TE:=λσ H Q=>t σ H λvs H1=>sp (vs++dvs) H1 Q E
def Binds (K:PySem.W.Frag) (fd:FuncData) (ps:List Str) (ds:List Value):Prop :=
 ∀(s:Shared) (us:List Value),K.In s.heap->(us++ds).length=ps.length->BindsTo s fd ⟨us,[]⟩ (ps.zip (us++ds))
theorem Binds.all {K:PySem.W.Frag} {fd:FuncData} {ps:List Str} (h:∀us:List Value,us.length=ps.length->bindArgs fd ⟨us,[]⟩=pure (ps.zip us)):Binds K fd ps []:=λs us _ hl=>by
 rw[BD]at hl ⊢
 exact .of_eq (h us hl)
def zz (CX:CXT) (X:Cx) (E:XK):Prop:=∀(pins:List (Addr×Obj)) (σ:St) (H:Hp) (s:Shared) (e:Value) (s':Shared),Inv X pins σ H s->CX X.stack H s E e s'->X.xe e s'
section
variable {X : Cx} {CX : CXT} {k : Nat} {f C : Addr} {fd : FuncData} {ps : List Str} {sp : Sp} {dvs : List V} {ds : List Value} {E : XK} {x m : Str} {p pos apos : Pos} {e o : Expr} {es : List Expr} {ta : TE} {t : TA}
theorem Ic {pins:List (Addr×Obj)} {σ:St} {H:Hp} {s:Shared} {Q:VK} {us:List Value} {vs:List V} (F:FnOk X.prog X.w X.K X.mg X.base CX k f fd ps sp) (hr:Room k X.A) (hb:Binds X.K fd ps ds) (hd:bw dvs ds) (hx:zz CX X E)
  (I:Inv X pins σ H s) (r:bw vs us) (h:sp (vs++dvs) H Q E):wpAny (model X.prog X.w) X.A (call (.ref f) us) (EP X pins σ Q) X.xe s:=by
 have r2:bw (vs++dvs) (us++ds):=r.append hd
 have hl:(us++ds).length=ps.length:=by rw[<-r2.length];exact F.len _ _ _ _ h
 refine wpAny_call (FM (F.run X.A X.stack s H ⟨us,[]⟩ (us++ds) (vs++dvs) Q E hr I.env0 (hb s us I.kIn hl) r2 h) λr s' hq=>?_)
 cases r with
 | error e=>exact hx pins σ H s e s' I hq
 | ok fl =>
  cases fl with
  | ret u=>exact I.after hq
  | next=>exact False.elim hq
  | brk=>exact False.elim hq
  | cont=>exact False.elim hq
theorem E3 (F:FnOk X.prog X.w X.K X.mg X.base CX k f fd ps sp) (hr:Room k X.A) (hg:Gl X x) (hm:X.mg x=some (.ref f)) (hk:PySem.W.keepIn X.K (.ref f)=true) (hb:Binds X.K fd ps ds) (hd:bw dvs ds) (hx:zz CX X E)
  (ha:PA X (e::es) t) (hdb:(x==("__debug__":Str))=false:=by decide) (he:starEach (e::es) X.env=(false,eval e X.env)::starEach es X.env:=by rfl) (hpl:(backTo pos (starEach es X.env)).any (·.1)=false:=by rfl) :
  PE X (.Call (.Name x p) (e::es) [] pos) (Ib sp dvs E t):=by
 intro pins s σ H Q I h
 refine CL (kx I hg hm ?_ hdb)
 refine FT (h₀:=X.base) I.ok.mod.kin hk (thn (ha pos pins s σ H _ I h) λus s1 ⟨vs,H1,I1,r,q⟩=>⟨I1.kIn,?_⟩) he hpl
 exact Ic F hr hb hd hx I1 r q
structure Mk (K:PySem.W.Frag) (C f:Addr):Prop where
 makes:PySem.W.makesIn K C=true
 init:PySem.W.findIn K (.ref C) "__init__"=some (some (.ref f))
 fn:PySem.W.isFn K (.ref f)=true
 kp:PySem.W.keepIn K (.ref C)=true
end
structure FnScope (N P:List Str) (sc:Scope):Prop where
 kind:sc.kind=.function
 co:sc.isCoroutine=false
 gen:sc.isGenerator=false
 nd:N.Nodup
 pre:N.take P.length=P
 par:∀x∈P,sc.names.lookup x=some .local\/sc.names.lookup x=some .cell
 nofree:∀y∈sc.names,y.2≠.free
theorem rq {kindOf:Str->Option NameKind} {x:Str}:∀{binds:List (Str×Value)} {m:Str->Option Value},(∀v,(x,v)∉binds)->bindL kindOf binds m x=m x
 | [],_,_=>rfl
 | (n,v)::r,m,h=>by
  unfold bindL
  rw[rq λw hw=>h w (AR _ hw)]
  split
  ·have:x≠n:=by rintro rfl;exact h v AT
   simp[this]
  ·rfl
theorem rz {kindOf:Str->Option NameKind} {x:Str}:∀{binds:List (Str×Value)} {m:Str->Option Value},(∀v,(x,v)∉binds)->bindC kindOf binds m x=m x
 | [],_,_=>rfl
 | (n,v)::r,m,h=>by
  unfold bindC
  rw[rz λw hw=>h w (AR _ hw)]
  split
  ·rfl
  ·have:x≠n:=by rintro rfl;exact h v AT
   simp[this]
theorem r6 {kindOf:Str->Option NameKind} {x:Str} {v:Value}:∀{P:List Str} {vs:List Value} {i:Nat} {m:Str->Option Value},P.Nodup->P[i]? = some x->vs[i]? = some v->kindOf x=some .local ->
  bindL kindOf (P.zip vs) m x=some v
 | [],_,_,_,_,h,_,_=>by simp at h
 | _::_,[],_,_,_,_,h,_=>by simp at h
 | p::P,w::vs,0,m,nd,h1,h2,hk=>by
  simp at h1 h2;subst h1;subst h2
  show bindL kindOf ((p,w)::P.zip vs) m p=_
  unfold bindL
  rw[rq λv hv=>(FF.mp nd).1 (FG hv).1,if_pos hk]
  simp
 | p::P,w::vs,i+1,m,nd,h1,h2,hk=>by
  show bindL kindOf ((p,w)::P.zip vs) m x=_
  unfold bindL
  exact r6 (i:=i) (FF.mp nd).2 (by simpa using h1) (by simpa using h2) hk
theorem r8 {kindOf:Str->Option NameKind} {x:Str} {v:Value}:∀{P:List Str} {vs:List Value} {i:Nat} {m:Str->Option Value},P.Nodup->P[i]? = some x->vs[i]? = some v->kindOf x≠some .local ->
  bindC kindOf (P.zip vs) m x=some v
 | [],_,_,_,_,h,_,_=>by simp at h
 | _::_,[],_,_,_,_,h,_=>by simp at h
 | p::P,w::vs,0,m,nd,h1,h2,hk=>by
  simp at h1 h2;subst h1;subst h2
  show bindC kindOf ((p,w)::P.zip vs) m p=_
  unfold bindC
  rw[rz λv hv=>(FF.mp nd).1 (FG hv).1,if_neg hk]
  simp
 | p::P,w::vs,i+1,m,nd,h1,h2,hk=>by
  show bindC kindOf ((p,w)::P.zip vs) m x=_
  unfold bindC
  exact r8 (i:=i) (FF.mp nd).2 (by simpa using h1) (by simpa using h2) hk
def start (N:List Str) (vs:List V):St:=vs.map some++List.replicate (N.length-vs.length) none
def my (CX:CXT) (P:Program) (w:World) (K:PySem.W.Frag) (mg:Str->Option Value) (base:Heap) (N:List Str) (qual:Str) (scope:Scope) (f:Addr) (cd:Value) (A:Around) (outer:List Env) (s:Shared) (H:Hp) (E:XK):Cx where
 prog:=P
 w:=w
 K:=K
 mg:=mg
 base:=base
 A:=A.deeper (envOfC qual scope s.heap.objs.size f cd)
 N:=N
 s₀:=s
 H₀:=H
 env:=envOfC qual scope s.heap.objs.size f cd
 outer:=outer
 stack:=envOfC qual scope s.heap.objs.size f cd::outer
 ex:=[]
 calm:=true
 fn:=λ_=>true
 pn:=[]
 xe:=λe s'=>wpAny (model P w) (A.deeper (envOfC qual scope s.heap.objs.size f cd)) (leaving (envOfC qual scope s.heap.objs.size f cd) e) (λ_ s''=>CX outer H s E e s'') (λe' s''=>CX outer H s E e' s'') s'
theorem wm {sc:Scope} {n:Nat} {x:Str} (h:sc.names.lookup x=some .cell):∃c,(cellsFrom n sc.names []).lookup x=some c:=by
 have q:=EJ sc.names n [] (.inl h)
 exact GH.mp q
theorem r9 {CX:CXT} {P:Program} {w:World} {K:PySem.W.Frag} {mg:Str->Option Value} {base:Heap} {N ps:List Str} {qual:Str} {scope:Scope} {f:Addr} {cd:Value} {A:Around} {outer:List Env} {s s1:Shared} {H:Hp} {E:XK} {us:List Value} {vs:List V}
  (S:FnScope N ps scope) (hd:A.handled=none) (e0:Env0 P w K mg base A outer s H) (hl:vs.length=ps.length) (r:bw vs us)
  (x:InCallC s s.heap.objs.size (bindL (envOfC qual scope s.heap.objs.size f cd).kindOf (ps.zip us) λ_=>none) (cellsFrom (s.heap.objs.size+1) scope.names []) (bindC (envOfC qual scope s.heap.objs.size f cd).kindOf (ps.zip us) λ_=>none) s1) :
  Inv (my CX P w K mg base N qual scope f cd A outer s H E) [] (start N vs) H s1:=by
 have hpl:ps.length<=N.length:=by have:=congrArg List.length S.pre;rw[DF]at this;lia
 obtain⟨h1,tk,rfl,hk⟩:=x.done
 have noA:∀b:Addr,b∉(my CX P w K mg base N qual scope f cd A outer s H E).ex:=λb z=>absurd (show b∈([]:List Addr)from z) (by simp)
 refine⟨⟨e0.mod,S.kind,rfl,rfl,AN _,λy z c h1 h2=>?_,λy hy=>?_,λy c _ h=>?_,λ_=>hd,HF e0.frames,.inr ⟨rfl,rfl⟩,λb z=>absurd z (noA b),e0.bs,e0.bsz,λb _ _=>noA b,λb z=>absurd z (noA b),e0.funs,e0.frf⟩,
  rfl,e0.bare,Un.kept hk,⟨_,x.toInCall.ns,λi y v h1 h2 h3=>?_⟩,λy c h=>⟨_,x.cell y c h⟩,e0.hok.fresh (AN _),λy c h=>?_,λp hp=>absurd (show p∈([]:List (Addr×Obj))from hp) (by simp),e0.hok.kept hk,?_⟩
 ·exact name_of_addr x.apart (DE h1) (DE h2)
 ·have hy:scope.names.lookup y=some .cell\/scope.names.lookup y=some .free:=hy
  rcases hy with hy | hy
  ·exact wm hy
  ·exact absurd rfl (S.nofree _ (DE hy))
 ·exact DJ (x.above y c (DE h))
 ·have hi:i<vs.length:=by
   unfold start at h2
   by_cases hi:i<vs.length
   ·exact hi
   ·rw[BK (by simpa using hi)]at h2
    rw[CB]at h2
    split at h2<;>cases h2
  have ha:vs[i]? = some v:=by
   unfold start at h2
   rw[AK (by simpa using hi),AU]at h2
   cases e:vs[i]? with
   | none=>rw[e]at h2;cases h2
   | some a=>rw[e]at h2;cases h2;rfl
  obtain⟨u,hu,rv⟩:=r.get ha
  have hp:ps[i]? = some y:=by
   rw[<-S.pre,GI (by lia)];exact h1
  have ndP:ps.Nodup:=by rw[<-S.pre];exact S.nd.sublist (List.take_sublist _ _)
  refine⟨u,rv,?_⟩
  rcases S.par y (AV hp)with k | k
  ·exact .inl ⟨k,r6 ndP hp hu k⟩
  ·obtain⟨c,e⟩:=wm (n:=s.heap.objs.size+1) k
   refine .inr ⟨.inl k,c,e,?_⟩
   have q:=x.cell y c e
   rw[r8 ndP hp hu (by show scope.names.lookup y≠_;rw[k];decide)]at q
   exact q
 ·exact e0.hok.fresh (DJ (x.above y c (DE h)))
 ·unfold start
  show _=N.length
  rw[BM,AG,ES]
  lia
theorem Ie {CX:CXT} {P:Program} {w:World} {K:PySem.W.Frag} {mg:Str->Option Value} {base:Heap} {k:Nat} {f:Addr} {name qual:Str} {params:Arguments} {body:List Stmt} {scope:Scope} {dV kV doc pm cdv ct oc:Value} {an od:Option Addr}
  {osl:Array (Option Value)} {N ps:List Str} {sp:Sp} (lk:K.lookup f=some ⟨oc,od,.func (PySem.W.fnOf name qual params body scope dV kV doc pm an cdv ct),osl⟩) (hcd:PySem.W.codeIn K cdv qual=true) (S:FnScope N ps scope)
  (len:∀vs H Q E,sp vs H Q E->vs.length=ps.length)
  (hbody:∀(A:Around) (outer:List Env) (s:Shared) (H:Hp) (vs:List V) (Q:VK) (E:XK),Room k (A.deeper (envOfC qual scope s.heap.objs.size f cdv))->sp vs H Q E ->
   ∃t,PSs (my CX P w K mg base N qual scope f cdv A outer s H E) body t/\t {nx:=λ_ H'=>Q .non H',rt:=Q} (start N vs) H) :
  FnOk P w K mg base CX (k+1) f (PySem.W.fnOf name qual params body scope dV kV doc pm an cdv ct) ps sp:=by
 refine⟨len,λA outer s H args us vs Q E hr e0 hb r hsp=>?_⟩
 have hl:=len _ _ _ _ hsp
 have KX:K.In s.heap:=e0.mod.kin.keeps λb o e=>(e0.bs b o e).1
 have lim:s.heap.NoLimit:=e0.mod.nolimit.keeps λb o e=>(e0.bs b o e).1
 have hkind:∀y∈ps.zip us,scope.names.lookup y.1=some .local\/(scope.names.lookup y.1=some .cell/\((cellsFrom (s.heap.objs.size+1) scope.names []).lookup y.1).isSome=true):=fun⟨n,v⟩ hy=>by
  rcases S.par n (FG hy).1 with q | q
  ·exact .inl q
  ·exact .inr ⟨q,EJ _ _ _ (.inl q)⟩
 refine codeAny_call_function hr.depth (KX _ _ lk) rfl S.co S.gen rfl (HL KX hcd) (hb _ _ _ _ ?_)
 refine FU S.kind hkind λenv he s1 x=>?_
 subst he
 refine⟨lim.keeps x.toInCall.keep,codeAny_func ?_⟩
 obtain⟨t,ht,hq⟩:=hbody A outer s H vs Q E (hr.deeper _) hsp
 have I:Inv (my CX P w K mg base N qual scope f cdv A outer s H E) [] (start N vs) H s1:=r9 S hr.hd e0 hl r x
 refine BI (ht [] s1 (start N vs) H _ I hq) (λfl s' hs=>?_) λe s' hs=>hs
 have fin:∀{σ':St} {H':Hp} {v:V} {u:Value},Inv (my CX P w K mg base N qual scope f cdv A outer s H E) [] σ' H' s'->RelV v u->Q v H'->CE outer P w H s Q u s' :=
  λ{σ' H' v u} J rv q=>⟨v,H',J.os,J.bare,J.base,J.hok,rv,q⟩
 cases fl with
 | ret u =>
  obtain⟨v,σ',H',J,rv,q⟩:=hs
  exact fin J rv q
 | next =>
  obtain⟨σ',H',J,q⟩:=hs
  exact fin (v:=V.non) (u:=Value.none) J rfl q
 | brk =>
  obtain⟨_,_,_,q⟩:=hs
  exact False.elim q
 | cont =>
  obtain⟨_,_,_,q⟩:=hs
  exact False.elim q
section
variable {X : Cx} {x : Str} {p pos : Pos} {e : Expr} {es : List Expr} {t : TA} {id T : String} {r : List V -> Hp -> VK -> Prop}
def tCB (r:List V->Hp->VK->Prop) (t:TA):TE:=λσ H Q=>t σ H λvs H1=>r vs H1 Q
theorem jl (hc:d0 X (.builtin id) r) (hg:Gl X x) (hm:X.mg x=none) (hv:bootBuiltins x=some (.builtin id)) (ha:PA X (e::es) t) (hn:x≠"__name__":=by decide) (hdb:(x==("__debug__":Str))=false:=by decide)
  (he:starEach (e::es) X.env=(false,eval e X.env)::starEach es X.env:=by rfl) (hpl:(backTo pos (starEach es X.env)).any (·.1)=false:=by rfl):PE X (.Call (.Name x p) (e::es) [] pos) (tCB r t):=by
 intro pins s σ H Q I h
 refine CL (mx I hg hm hv ?_ hn hdb)
 exact PyProof.Rows.callWith_builtin1 (thn (ha pos pins s σ H _ I h) λus s1 ⟨vs,H1,I1,r1,q1⟩=>hc pins s1 σ H1 vs us Q I1 r1 q1) he hpl
theorem j9 (hc:d0 X (.type T) r) (hg:Gl X x) (hm:X.mg x=none) (hv:bootBuiltins x=some (.type T)) (ha:PA X (e::es) t) (hn:x≠"__name__":=by decide) (hdb:(x==("__debug__":Str))=false:=by decide)
  (he:starEach (e::es) X.env=(false,eval e X.env)::starEach es X.env:=by rfl) (hpl:(backTo pos (starEach es X.env)).any (·.1)=false:=by rfl):PE X (.Call (.Name x p) (e::es) [] pos) (tCB r t):=by
 intro pins s σ H Q I h
 refine CL (mx I hg hm hv ?_ hn hdb)
 exact CD (thn (ha pos pins s σ H _ I h) λus s1 ⟨vs,H1,I1,r1,q1⟩=>hc pins s1 σ H1 vs us Q I1 r1 q1) he hpl
end
end L2
namespace HT
open PySem PyProof.Rows
def lexLt:List Int->List Int->Bool
 | [],[]=>false
 | [],_::_=>true
 | _::_,[]=>false
 | x::xs,y::ys=>if x=y then lexLt xs ys else decide (x<y)
theorem fo (x y:Int) (xs ys:List Int):lexLt (x::xs) (y::ys)=if x=y then lexLt xs ys else decide (x<y):=rfl
theorem i4:lexLt [] []=false:=rfl
theorem g9 (y:Int) (ys:List Int):lexLt [] (y::ys)=true:=rfl
theorem h9 (x:Int) (xs:List Int):lexLt (x::xs) []=false:=rfl
theorem qf (A:Around) (s:Shared) (a:Int) (t:Tok) (c:Int) (u:Tok):∃e,SeqAt.EqAt A s (.int a t) (.int c u) e/\(e=true↔a=c) :=
 ⟨(a==c),HM a t c u,by simp⟩
theorem Bw (A:Around) (s:Shared) (a:Int) (t:Tok) (c:Int) (u:Tok) (prog:Program) (w:World) (E:Value->Shared->Prop) (Q:Value->Shared->Prop) (h:Q (.bool (decide (a<c))) s) :
  wpAny (model prog w) A (richCompare .Lt (.int a t) (.int c u)) Q E s :=
 (PyProof.Rows.lt_int h:wpAny (model prog w) A (compareOp .Lt (.int a t) (.int c u)) Q E s)
section
open PySem.SeqAt
open PySem.AutoSeq1 (wpAny_loadPart')
open PySem.MeetsSeq PySem.MeetsSeq2 PySem.MeetsSeq3
theorem qg (l b:Addr) (items items2:Array Value) (n n2:Nat) (dd dd2:Option Addr) (sl sl2:Array (Option Value)) (ns ms:List Int) (hi:IntsAre items.toList ns) (hj:IntsAre items2.toList ms) :
  Meets (Builtin.«tuple.__lt__» ⟨[.ref l,.ref b],[]⟩)
   (λ_ R s=>s.heap.get? l=some {cls:=.type "tuple",dict:=dd,data:=.seq items n,slots:=sl}/\s.heap.get? b=some {cls:=.type "tuple",dict:=dd2,data:=.seq items2 n2,slots:=sl2} /\
    R (.ok (.ret (.bool (lexLt ns ms)))) s) :=
 .of_wp λprog w A R s h=>by
  obtain⟨hp,g,d,tk,os⟩:=s;obtain⟨hl,hb,h⟩:=h
  have f2:=EC
  have z1:items.size=ns.length:=by rw[<-hi.length];simp
  have z2:items2.size=ms.length:=by rw[<-hj.length];simp
  wp_walk using DM hl,DM hb,GN _ (λrest b s'=>b.1=none/\s'=⟨hp,g,d,tk,os⟩/\∃(vs ws:List Value) (ns' ms':List Int),rest=vs.zip ws /\
   IntsAre vs ns'/\IntsAre ws ms'/\ns'.length+items2.size=ms'.length+items.size/\R (.ok (.ret (.bool (lexLt ns' ms')))) ⟨hp,g,d,tk,os⟩) _
  case turn =>
   rintro⟨y,x⟩ rest b s' ⟨hb',rfl,vs,ws,ns',ms',hz,hvi,hwi,hlen,hR⟩
   cases hvi with
   | nil=>rw[Gt]at hz;cases hz
   | cons a t hvi' =>
    cases hwi with
    | nil=>rw[FV]at hz;cases hz
    | cons c u hwi' =>
     rw[CM]at hz
     injection hz with hyx hrest
     injection hyx with hy hx
     subst hy hx
     rw[fo]at hR
     simp![BJ]at hlen
     obtain⟨e,he,hiff⟩:=qf A.in1 ⟨hp,g,d,tk,os⟩ a t c u
     refine AA (he prog w _ _ ?_)
     cases e with
     | true =>
      rw[if_pos (hiff.mp rfl)]at hR
      wp_walk
      exact⟨rfl,rfl,_,_,_,_,hrest,hvi',hwi',by lia,hR⟩
     | false =>
      rw[if_neg (λq=>absurd (hiff.mpr q) BH)]at hR
      have hri:=Bw A.in1 ⟨hp,g,d,tk,os⟩ a t c u prog w
      wp_walk using hri
      exact⟨_,rfl,by simpa using hR⟩
  case fin =>
   rintro⟨b1,b2⟩ s' ⟨hb',rfl,vs,ws,ns',ms',hz,hvi,hwi,hlen,hR⟩
   simp only at hb'
   subst hb'
   have hv:lexLt ns' ms'=decide (items.size<items2.size):=by
    cases hvi with
    | nil =>
     cases hwi with
     | nil =>
      simp![BU]at hlen
      rw[i4]
      exact(decide_eq_false (by lia)).symm
     | cons c u hw =>
      simp![BU,BJ]at hlen
      rw[g9]
      exact(decide_eq_true (by lia)).symm
    | cons a t hv =>
     cases hwi with
     | nil =>
      simp![BU,BJ]at hlen
      rw[h9]
      exact(decide_eq_false (by lia)).symm
     | cons c u hw =>
      rw[CM]at hz
      cases hz
   rw[hv]at hR
   wp_walk
   exact⟨_,rfl,by simpa[Builtin.Tuple.tupleCompareSizes]using hR⟩
  case h =>
   exact⟨rfl,rfl,items.toList,items2.toList,ns,ms,rfl,hi,hj,by lia,h⟩
end
section
variable {prog : Program} {w : World} {A : Around} {E : Value -> Shared -> Prop} {s : Shared}
theorem yh {l b:Addr} {items items2:Array Value} {ns ms:List Int} {Q:Value->Shared->Prop} (hl:IsTup s.heap l items) (hb:IsTup s.heap b items2) (hi:IntsAre items.toList ns) (hj:IntsAre items2.toList ms)
  (hu:A.units<cLine) (h:Q (.bool (lexLt ns ms)) s):wpAny (model prog w) A (compareOp .Lt (.ref l) (.ref b)) Q E s:=by
 obtain⟨⟨cls,dd,data,sl⟩,ho,hc,n,hd⟩:=id hl
 obtain⟨⟨cls2,dd2,data2,sl2⟩,ho2,hc2,n2,hd2⟩:=id hb
 simp only at hc hd hc2 hd2
 subst hc hd hc2 hd2
 exact EK (op:=.Lt) ⟨_,ho,rfl⟩ ⟨_,ho2,rfl⟩ PySem.F.slot_tuple_lt PySem.F.entry_tuple_lt (PySem.F.args_tuple_lt_2 _ _) (qg l b items items2 n n2 dd dd2 sl sl2 ns ms hi hj)
  ⟨ho,ho2,show Value.bool (lexLt ns ms)≠Value.notImplemented/\Q (.bool (lexLt ns ms)) s from⟨(λx=>nomatch x),h⟩⟩ hu
theorem E4 {t b:Addr} {vs ws:List Value} {Q:Value->Shared->Prop} (ht:IsTup s.heap t vs.toArray) (hb:IsTup s.heap b ws.toArray) (hv:vs≠[])
  (h1:ws=[]->Q (.ref t) s) (h2:ws≠[]->Q (.ref s.heap.objs.size) {s with heap:=s.heap.push {cls:=.type "tuple",data:=.seq (vs++ws).toArray}})
  (hsz:vs.length+ws.length<=sizeLine):wpAny (model prog w) A (binaryOp .Add (.ref t) (.ref b)) Q E s:=by
 obtain⟨⟨cls,dd,data,sl⟩,ho,hc,n,hd⟩:=id ht
 obtain⟨⟨cls2,dd2,data2,sl2⟩,ho2,hc2,n2,hd2⟩:=id hb
 simp only at hc hd hc2 hd2
 subst hc hd hc2 hd2
 have e:vs.toArray++ws.toArray=(vs++ws).toArray:=by simp
 by_cases hw:ws=[]
 ·exact concat_meets ⟨_,ho,rfl⟩ ⟨_,ho2,rfl⟩ GO seq_tuple_add EL EI (ED _ _)
   (tuple_addW1 t b vs.toArray ws.toArray n n2 dd dd2 sl sl2 (by simpa using hv) (by simp[hw])) ⟨ho,ho2,h1 hw⟩
 ·refine concat_meets ⟨_,ho,rfl⟩ ⟨_,ho2,rfl⟩ GO seq_tuple_add EL EI (ED _ _)
   (tuple_addW2 t b vs.toArray ws.toArray n n2 dd dd2 sl sl2 (by simpa using hv) (by simpa using hw) (by rw[AE,AE];exact hsz)) ⟨ho,ho2,?_⟩
  rw[e]
  exact h2 hw
def sIx (n d:Nat):Option Int->Nat
 | none=>d
 | some v=>if v<0 then(v+(n:Int)).toNat else min v.toNat n
theorem Ig (n d:Nat) (hd:d<=n) (o:Option Int):sIx n d o<=n:=by
 cases o with
 | none=>exact hd
 | some v =>
  show(if v<0 then(v+(n:Int)).toNat else min v.toNat n)<=n
  by_cases hv:v<0
  ·rw[if_pos hv];lia
  ·rw[if_neg hv];exact Nat.min_le_right _ _
theorem z5 (v:Int) (n d:Nat):(if v<0 then max (v+(n:Int)) 0 else min v (n:Int))=((sIx n d (some v):Nat):Int):=by
 show(if v<0 then max (v+(n:Int)) 0 else min v (n:Int))=(((if v<0 then(v+(n:Int)).toNat else min v.toNat n):Nat):Int)
 by_cases hv:v<0
 ·simp![if_pos hv];lia
 ·simp![if_neg hv];lia
theorem yi (lo hi:Option Int) (n:Nat):Builtin.Slice.sliceAdjust lo hi 1 (n:Int)=(((sIx n 0 lo:Nat):Int),((sIx n n hi:Nat):Int)):=by
 have h1:¬((1:Int)<0):=by lia
 unfold Builtin.Slice.sliceAdjust
 simp![h1,if_false]
 refine Prod.ext ?_ ?_
 ·cases lo with
  | none=>rfl
  | some v=>exact z5 v n 0
 ·cases hi with
  | none=>rfl
  | some v=>exact z5 v n n
theorem yj (i j:Nat):Builtin.Slice.slicePlaces (i:Int) (j:Int) 1=j-i:=by
 unfold Builtin.Slice.slicePlaces
 have h1:(1:Int) > 0:=by lia
 simp![h1,if_true,Int.ediv_one]
 split<;>lia
theorem pq {v:Value} {o:Option Int} {Q:Option Int->Shared->Prop} (p:IsPart v o) (h:Q o s):wpAny (model prog w) A (Builtin.Slice.slicePartIndex v) Q E s:=by
 cases p with
 | none=>exact slicePart_none h
 | int i t=>exact slicePart_int h
theorem jc {sl:Addr} {vl vu:Value} {lo hi:Option Int} {n:Nat} {Q:Int×Int×Nat->Shared->Prop} (hs:s.heap.IsSliceOf sl vl vu .none) (pl:IsPart vl lo) (pu:IsPart vu hi)
  (h:Q (((sIx n 0 lo:Nat):Int),1,sIx n n hi-sIx n 0 lo) s):wpAny (model prog w) A (Builtin.Slice.sliceApplied (.ref sl) (pure (n:Int))) Q E s:=by
 obtain⟨os,hos,hcs,hds⟩:=id hs
 unfold Builtin.Slice.sliceApplied Builtin.Slice.sliceFields
 refine AA (AA (BO hos hds (x:=vl) rfl (AA (BO hos hds (x:=vu) rfl (AA (BO hos hds (x:=.none) rfl (AI ?_)))))))
 refine AA (slicePart_none ?_)
 show wpAny _ _ (if((1:Int)==0)=true then _ else _) _ _ s
 rw[if_neg (by decide)]
 refine AA (pq pl (AA (pq pu (AA (AI ?_)))))
 show wpAny _ _ (match Builtin.Slice.sliceAdjust lo hi 1 (n:Int)with | (lo,hi)=>pure (lo,(1:Int),Builtin.Slice.slicePlaces lo hi 1)) _ _ s
 rw[yi lo hi n]
 show wpAny _ _ (pure (((sIx n 0 lo:Nat):Int),(1:Int),Builtin.Slice.slicePlaces ((sIx n 0 lo:Nat):Int) ((sIx n n hi:Nat):Int) 1)) _ _ s
 rw[yj]
 exact AI h
theorem By (xs:Array Value) (i k:Nat):((List.range k).filterMap fun(m:Nat)=>xs[((i:Int)+(m:Int)*1).toNat]?).toArray=((xs.toList.drop i).take k).toArray:=by
 have e:(fun(m:Nat)=>xs[((i:Int)+(m:Int)*1).toNat]?)=λm=>xs[i+m]?:=by
  funext m
  have:((i:Int)+(m:Int)*1).toNat=i+m:=by lia
  rw[this]
 rw[e]
 have:=pick_run xs i k
 rw[List.filterMap_map]at this
 have e2:((λx=>xs[x]?)∘λx=>i+x)=λm=>xs[i+m]?:=rfl
 rw[e2]at this
 rw[this]
theorem k6 {t sl:Addr} {items:Array Value} {vl vu:Value} {lo hi:Option Int} {Q:Value->Shared->Prop} (ht:IsTup s.heap t items) (hs:s.heap.IsSliceOf sl vl vu .none) (pl:IsPart vl lo) (pu:IsPart vu hi)
  (hw:¬(sIx items.size 0 lo=0/\sIx items.size items.size hi=items.size))
  (h:Q (.ref s.heap.objs.size) {s with heap:=s.heap.push {cls:=.type "tuple",data:=.seq ((items.toList.drop (sIx items.size 0 lo)).take (sIx items.size items.size hi-sIx items.size 0 lo)).toArray}})
  (hsz:items.size<=sizeLine):wpAny (model prog w) A (getItem (.ref t) (.ref sl)) Q E s:=by
 have htake:sizeOk (.seq ((items.toList.drop (sIx items.size 0 lo)).take (sIx items.size items.size hi-sIx items.size 0 lo)).toArray):=by
  show((items.toList.drop (sIx items.size 0 lo)).take (sIx items.size items.size hi-sIx items.size 0 lo)).toArray.size<=sizeLine
  rw[AE,DF,List.length_drop,CJ]
  lia
 have hj:sIx items.size items.size hi<=items.size:=Ig _ _ (AN _) hi
 obtain⟨os,hos,hcs,hds⟩:=id hs
 have hTs:s.TypeIs (.ref sl) "slice":=⟨os,hos,hcs⟩
 unfold getItem
 try with_reducible refine DO ?_
 first | refine AA (AI ?_) | skip
 refine AA (wpAny_sequenceKey ht.typeIs (by decide) ?_)
 refine AA (CC (name:=Str.ofString "__getitem__") ht.typeIs BN
  (DG BN ht.typeIs entry_tuple_getitem ?_ (args_tuple_getitem _ _)))
 show wpAny _ _ (Builtin.Tuple.tupleItemsOf (.ref t)>>=_) _ _ s
 refine AA (tupleItemsOf_ ht ?_)
 refine AA (GW hTs ?_)
 rw[if_pos (by decide)]
 refine AA (jc hs pl pu ?_)
 have hno:¬((((sIx items.size 0 lo:Nat):Int)==0&&(1:Int)==1&&(sIx items.size items.size hi-sIx items.size 0 lo)==items.size)=true):=by
  intro q
  rw[AW,AW]at q
  have q1:((sIx items.size 0 lo:Nat):Int)=0:=eq_of_beq q.1.1
  have q2:sIx items.size items.size hi-sIx items.size 0 lo=items.size:=eq_of_beq q.2
  exact hw ⟨by lia,by lia⟩
 show wpAny _ _ (if(((sIx items.size 0 lo:Nat):Int)==0&&(1:Int)==1&&(sIx items.size items.size hi-sIx items.size 0 lo)==items.size)=true then _ else _) _ _ s
 rw[if_neg hno,By]
 first
  | exact AA (m:=Builtin.Tuple.tupleExact _) (CG (AI ⟨_,rfl,AI h⟩) htake)
  | exact AA (m:=Builtin.Tuple.tupleExact _) (CG (AA (AI (AI ⟨_,rfl,AI h⟩))) htake)
  | exact AA (AA (m:=Builtin.Tuple.tupleExact _) (CG (AI (AI ⟨_,rfl,AI h⟩)) htake))
  | exact AA (AA (m:=Builtin.Tuple.tupleExact _) (CG (AI ⟨_,rfl,AI h⟩) htake))
end
end HT
namespace L2
open PySem PySem.Spec PyProof.Rows
abbrev TO:=St->Hp->(Option Int->Hp->Prop)->Prop
def PO (X:Cx) (e:Option Expr) (t:TO):Prop :=
 ∀(pins:List (Addr×Obj)) (s:Shared) (σ:St) (H:Hp) (Q:Option Int->Hp->Prop),Inv X pins σ H s->t σ H Q ->
  wpAny (model X.prog X.w) X.A (evalPart e X.env) (λu s'=>∃o H',Inv X pins σ H' s'/\IsPart u o/\Q o H') X.xe s
def tNoPart:TO:=λ_ H Q=>Q none H
def Ls (t:TE):TO:=λσ H Q=>t σ H λx H1=>∃i,x=.int i/\Q (some i) H1
theorem intsAre_of {ns:List Int}:∀{us:List Value},bw (ns.map V.int) us->IntsAre us ns:=by
 induction ns with
 | nil=>intro us r;rw[FN]at r;cases r;exact .nil
 | cons n ns ih =>
  intro us r
  rw[AX]at r
  cases r with
  | cons r1 r2 =>
   obtain⟨t,e⟩:=r1
   subst e
   exact .cons n t (ih r2)
section
variable {X : Cx} {e : Expr} {te : TE} {lo hi : Option Expr} {tl th : TO} {pos p2 : Pos}
theorem E5:PO X none tNoPart:=by
 intro pins s σ H Q I h
 rw[evalPart_none]
 exact AI ⟨none,H,I,.none,h⟩
theorem E6 (h:PE X e te):PO X (some e) (Ls te):=by
 intro pins s σ H Q I hw
 rw[evalPart_some]
 refine thn (h pins s σ H _ I hw) λu s1 ⟨x,H1,I1,r1,q1⟩=>?_
 obtain⟨i,rfl,q⟩:=q1
 obtain⟨t,rfl⟩:=r1
 exact⟨some i,H1,I1,.int i t,q⟩
def SlR (X:Cx) (r:V->Option Int->Option Int->Hp->VK->Prop):Prop :=
 ∀(pins:List (Addr×Obj)) (s:Shared) (σ:St) (H:Hp) (x:V) (v vl vu:Value) (lo hi:Option Int) (sl:Addr) (Q:VK),Inv X pins σ H s->RelV x v->s.heap.IsSliceOf sl vl vu .none->IsPart vl lo->IsPart vu hi->r x lo hi H Q ->
  ∃T id,typeLookup (.type T) "__getitem__"=pure (some (.builtin id))/\s.TypeIs v T/\wpAny (model X.prog X.w) X.A (getItem v (.ref sl)) (EP X pins σ Q) X.xe s
def tSl (r:V->Option Int->Option Int->Hp->VK->Prop) (te:TE) (tl th:TO):TE:=λσ H Q=>te σ H λx H1=>tl σ H1 λl H2=>th σ H2 λu H3=>r x l u H3 Q
theorem Bz {r:V->Option Int->Option Int->Hp->VK->Prop} (hr:SlR X r) (he:PE X e te) (hl:PO X lo tl) (hu:PO X hi th):PE X (.Subscript e (.Slice lo hi none p2) pos) (tSl r te tl th):=by
 intro pins s σ H Q I h
 refine Subscript_ (thn (he pins s σ H _ I h) λv s1 ⟨x,H1,I1,r1,q1⟩=>?_)
 refine wpAny_Slice (thn (hl pins s1 σ H1 _ I1 q1) λvl s2 ⟨l,H2,I2,pl,q2⟩=>thn (hu pins s2 σ H2 _ I2 q2) λvu s3 ⟨u,H3,I3,pu,q3⟩=>?_)
 rw[evalPart_none]
 refine AI ?_
 have I4:Inv X pins σ H3 {s3 with heap:=s3.heap.push {cls:=.type "slice",data:=.fields #[vl,vu,.none]}}:=I3.kept (t':=s3.toks) λb ob q=>AC _ q
 obtain⟨T,id,hT,ht,hg⟩:=hr pins {s3 with heap:=s3.heap.push {cls:=.type "slice",data:=.fields #[vl,vu,.none]}} σ H3 x v vl vu l u s3.heap.objs.size Q I4 r1 (Heap.IsSliceOf.new ..) pl pu q3
 show wpAny (model X.prog X.w) X.A (subscriptTail e (.Slice lo hi none p2) v (.ref s3.heap.objs.size)) (EP X pins σ Q) X.xe {s3 with heap:=s3.heap.push {cls:=.type "slice",data:=.fields #[vl,vu,.none]}}
 exact tail_any (ops:=[.ref s3.heap.objs.size,v]) ht hT hg (by with_unfolding_all rfl)
def D4 (xs:List V) (lo hi:Option Int):List V:=(xs.drop (HT.sIx xs.length 0 lo)).take (HT.sIx xs.length xs.length hi-HT.sIx xs.length 0 lo)
theorem mz (xs:List V) (lo hi:Option Int):(D4 xs lo hi).length<=xs.length:=by
 unfold D4
 rw[DF,List.length_drop]
 lia
def Qt (K:PySem.W.Frag):V->Option Int->Option Int->Hp->VK->Prop:=λx lo hi H Q=>∃a xs,x=.ref a/\SqT K H a xs /\
 ¬(HT.sIx xs.length 0 lo=0/\HT.sIx xs.length xs.length hi=xs.length)/\∀p,H p=none->Q (.ref p) (upd H p (.tup (D4 xs lo hi)))
theorem Ih:SlR X (Qt X.K):=by
 intro pins s σ H x v vl vu lo hi sl Q I rx hs pl pu h
 obtain⟨a,xs,rfl,hx,hw,q⟩:=h
 cases rx
 obtain⟨its,r,ht,hz⟩:=I.tuple hx
 have hlen:its.toArray.size=xs.length:=by rw[AE];exact r.length.symm
 refine⟨"tuple",_,BN.lookup,ht.typeIs,?_⟩
 refine HT.k6 ht hs pl pu (by rw[hlen];exact hw) ?_ (by rw[hlen];exact hz)
 rw[hlen]
 refine⟨.ref s.heap.objs.size,_,I.laid (t':=s.toks) (o:=.tup (D4 xs lo hi)) (λb ob q=>AC _ q) (AN _) ?_,rfl,q _ (I.hok.fresh (AN _))⟩
 exact⟨CF (mz xs lo hi) hz,_,(r.drop (HT.sIx xs.length 0 lo)).take (HT.sIx xs.length xs.length hi-HT.sIx xs.length 0 lo),l6.new _ _⟩
def Qu (K:PySem.W.Frag):R2:=λx y H Q=>∃a b ns ms,x=.ref a/\y=.ref b/\SqT K H a (ns.map V.int)/\SqT K H b (ms.map V.int)/\Q (.bl (HT.lexLt ns ms)) H
theorem Ii (hu:X.A.units<cLine):OpR X (compareOp .Lt) (Qu X.K):=by
 intro pins s σ H x y v u Q I rx ry h
 obtain⟨a,b,ns,ms,rfl,rfl,ha,hb,q⟩:=h
 cases rx
 cases ry
 obtain⟨its,r1,p1,_⟩:=I.tuple ha
 obtain⟨its2,r2,p2,_⟩:=I.tuple hb
 have i1:IntsAre its.toArray.toList ns:=intsAre_of r1
 have i2:IntsAre its2.toArray.toList ms:=intsAre_of r2
 exact HT.yh p1 p2 i1 i2 hu ⟨.bl (HT.lexLt ns ms),H,I,rfl,q⟩
def Lu (K:PySem.W.Frag):R2:=λx y H Q=>∃a b xs ys,x=.ref a/\y=.ref b/\SqT K H a xs/\SqT K H b ys/\xs≠[]/\xs.length+ys.length<=sizeLine /\
 (ys=[]->Q (.ref a) H)/\(ys≠[]->∀p,H p=none->Q (.ref p) (upd H p (.tup (xs++ys))))
theorem bw.nil_iff {xs:List V} {us:List Value} (r:bw xs us):us=[]↔xs=[]:=by
 cases r with
 | nil=>simp
 | cons _ _=>simp
theorem E7:OpR X (binaryOp .Add) (Lu X.K):=by
 intro pins s σ H x y v u Q I rx ry h
 obtain⟨a,b,xs,ys,rfl,rfl,ha,hb,hx,hz,q1,q2⟩:=h
 cases rx
 cases ry
 obtain⟨its,r1,p1,_⟩:=I.tuple ha
 obtain⟨its2,r2,p2,_⟩:=I.tuple hb
 refine HT.E4 p1 p2 (λz=>hx (r1.nil_iff.mp z)) (λz=>⟨.ref a,H,I,rfl,q1 (r2.nil_iff.mp z)⟩) (λz=>?_) (by rw[<-r1.length,<-r2.length];exact hz)
 refine⟨.ref s.heap.objs.size,_,I.laid (t':=s.toks) (o:=.tup (xs++ys)) (λb ob q=>AC _ q) (AN _) ?_,rfl,q2 (λw=>z (r2.nil_iff.mpr w)) _ (I.hok.fresh (AN _))⟩
 exact⟨by rw[BM];exact hz,_,r1.append r2,l6.new _ _⟩
end
def ixN (n:Nat) (i:Int):Option Nat:=if 0<=i then(if i<n then some i.toNat else none)else if -(n:Int)<=i then some (i+n).toNat else none
def atI {α:Type} (xs:List α) (i:Int):Option α:=(ixN xs.length i).bind λj=>xs[j]?
theorem z6 {n:Nat} {i:Int} {j:Nat} (h:ixN n i=some j):seqIndex? i n=some j/\j<n /\ -(n:Int)<=i/\i<n:=by
 unfold ixN at h
 by_cases h0:0<=i
 ·rw[if_pos h0]at h
  by_cases h1:i<n
  ·rw[if_pos h1]at h
   have e:i.toNat=j:=BC h
   exact⟨by rw[seqIndex_of h0 h1,e],by lia,by lia,h1⟩
  ·rw[if_neg h1]at h;cases h
 ·rw[if_neg h0]at h
  by_cases h1:-(n:Int)<=i
  ·rw[if_pos h1]at h
   have e:(i+n).toNat=j:=BC h
   exact⟨by rw[seqIndex_neg (by lia) h1,e],by lia,h1,by lia⟩
  ·rw[if_neg h1]at h;cases h
theorem uw {α:Type} {xs:List α} {i:Int} {v:α} (h:atI xs i=some v):∃j,seqIndex? i xs.length=some j/\xs[j]? = some v/\j<xs.length /\ -(xs.length:Int)<=i/\i<xs.length:=by
 unfold atI at h
 cases e:ixN xs.length i with
 | none=>rw[e]at h;cases h
 | some j =>
  rw[e]at h
  obtain⟨h1,h2,h3,h4⟩:=z6 e
  exact⟨j,h1,h,h2,h3,h4⟩
def ux (b:Expr):Prop:=∀o i,subscripted b false o i=operate [o,i] (getItem o i)
def IxR (X:Cx) (r:R2):Prop :=
 ∀(value slice:Expr) (pins:List (Addr×Obj)) (s:Shared) (σ:St) (H:Hp) (x y:V) (v u:Value) (Q:VK),Inv X pins σ H s->RelV x v->RelV y u->r x y H Q ->
  subscripted slice false v u=operate [v,u] (getItem v u)->wpAny (model X.prog X.w) X.A (subscriptTail value slice v u) (EP X pins σ Q) X.xe s
def MtR (X:Cx) (id:String) (r:V->List V->Hp->VK->Prop):Prop :=
 ∀(pins:List (Addr×Obj)) (s:Shared) (σ:St) (H:Hp) (x:V) (xs:List V) (v:Value) (us:List Value) (Q:VK),Inv X pins σ H s->RelV x v->bw xs us->r x xs H Q ->
  wpAny (model X.prog X.w) X.A (call (.builtin id) (v::us)) (EP X pins σ Q) X.xe s
section
variable {X : Cx} {a b : Expr} {ta tb : TE} {pos : Pos}
theorem IxR.or {r r':R2} (h:IxR X r) (h':IxR X r'):IxR X (λx y H Q=>r x y H Q\/r' x y H Q):=by
 intro value slice pins s σ H x y v u Q I rx ry q hs
 rcases q with q | q
 ·exact h value slice pins s σ H x y v u Q I rx ry q hs
 ·exact h' value slice pins s σ H x y v u Q I rx ry q hs
theorem Lv {r:R2} (hr:IxR X r) (ha:PE X a ta) (hb:PE X b tb) (hs:ux b):PE X (.Subscript a b pos) (tOp r ta tb):=by
 intro pins s σ H Q I h
 exact Subscript_ (Oe ha hb I h λv u s2 x y H2 I2 rx ry q=>hr a b pins s2 σ H2 x y v u Q I2 rx ry q (hs _ _))
def Oh (K:PySem.W.Frag):R2:=λx y H Q=>∃p xs i v,x=.ref p/\y=.int i/\SqL K H p xs/\atI xs i=some v/\Q v H
def Oi (K:PySem.W.Frag):R2:=λx y H Q=>∃p xs i v,x=.ref p/\y=.int i/\SqT K H p xs/\atI xs i=some v/\Q v H
def rIxS:R2:=λx y H Q=>∃z i c,x=.str z/\y=.int i/\z.length<=sizeLine/\atI z.cps.toList i=some c/\Q (.str ⟨#[c]⟩) H
theorem E8:IxR X (Oh X.K):=by
 intro value slice pins s σ H x y v u Q I rx ry h hs
 obtain⟨p,xs,i,z,rfl,rfl,hq,he,q⟩:=h
 cases rx
 obtain⟨t,rfl⟩:=ry
 obtain⟨its,r,pl,hz⟩:=I.list hq
 obtain⟨j,h1,h2,h3,h4,h5⟩:=uw he
 obtain⟨w,ew,rw'⟩:=r.get h2
 have hl:=r.length
 have hn:=pk
 have fin:EP X pins σ Q w s:=⟨z,H,I,rw',q⟩
 by_cases h0:0<=i
 ·have hj:i.toNat=j:=by
   rw[seqIndex_of h0 h5]at h1
   exact BC h1
  exact item_listR pl.isList h0 (by lia) (by rw[hj];simpa using ew) fin hs
 ·have hj:(i+(its.toArray.size:Int)).toNat=j:=by
   rw[seqIndex_neg (by lia) h4]at h1
   rw[AE,<-hl]
   exact BC h1
  exact subscriptTail_builtinR (x:=w) pl.isList.typeIs slot_list_getitem.lookup
   (wpAny_getItem_list_neg (Q:=λr s'=>r=w/\EP X pins σ Q r s') pl.isList (by lia) (by rw[AE]<;>lia) (by lia) (by rw[hj];simpa using ew) ⟨rfl,fin⟩) hs
theorem Ij:IxR X (Oi X.K):=by
 intro value slice pins s σ H x y v u Q I rx ry h hs
 obtain⟨p,xs,i,z,rfl,rfl,hq,he,q⟩:=h
 cases rx
 obtain⟨t,rfl⟩:=ry
 obtain⟨its,r,pl,hz⟩:=I.tuple hq
 obtain⟨j,h1,h2,h3,h4,h5⟩:=uw he
 obtain⟨w,ew,rw'⟩:=r.get h2
 have hl:=r.length
 have hn:=pk
 have fin:EP X pins σ Q w s:=⟨z,H,I,rw',q⟩
 exact subscriptTail_builtinR (x:=w) pl.typeIs slot_tuple_getitem.lookup
  (getItem_tuple (j:=j) (Q:=λr s'=>r=w/\EP X pins σ Q r s') pl (by lia) (by lia) (by rw[AE,<-hl];exact h1) (by simpa using ew) ⟨rfl,fin⟩) hs
theorem Ik:IxR X rIxS:=by
 intro value slice pins s σ H x y v u Q I rx ry h hs
 obtain⟨z,i,c,rfl,rfl,hz,he,q⟩:=h
 obtain⟨t,rfl⟩:=rx
 obtain⟨t',rfl⟩:=ry
 obtain⟨j,h1,h2,h3,h4,h5⟩:=uw he
 have hl:z.cps.toList.length=z.length:=by simp[Str.length]
 rw[hl]at h1 h4 h5
 have hn:=pk
 exact tail_any (typeIs_str s z t) slot_str_getitem.lookup (getItem_str (c:=c) (by
  have e1:decide (i < -(2 ^ 63:Int))=false:=decide_eq_false (by lia)
  have e2:decide (i≥2 ^ 63)=false:=decide_eq_false (by lia)
  rw[e1,e2,Bool.or_false]) (by rw[h1];simpa using h2) ⟨.str ⟨#[c]⟩,H,I.tok _,⟨_,rfl⟩,q⟩) hs
def rIx (K:PySem.W.Frag):R2:=λx y H Q=>Oh K x y H Q\/Oi K x y H Q\/rIxS x y H Q
theorem Il:IxR X (rIx X.K):=E8.or (Ij.or Ik)
theorem yk (its:List Value) (n j:Nat) (u:Value):Obj.mapSeq (·.setIfInBounds j u) {cls:=.type "list",data:=.seq its.toArray n}={cls:=.type "list",data:=.seq (its.set j u).toArray n}:=by
 simp[Obj.mapSeq]
theorem Inv.lst {pins:List (Addr×Obj)} {σ:St} {H:Hp} {s:Shared} {p:Addr} {xs:List V} (I:Inv X pins σ H s) (h:H p=some (.lst xs)) :
  ∃(its:List Value) (n:Nat),bw xs its/\s.heap.get? p=some {cls:=.type "list",data:=.seq its.toArray n}/\xs.length<=sizeLine:=by
 obtain⟨z,its,n,r,e⟩:=I.hok p _ h
 exact⟨its,n,r,e,z⟩
theorem Inv.lstUpd {pins:List (Addr×Obj)} {σ:St} {H:Hp} {s:Shared} {p:Addr} {xs ys:List V} {its its':List Value} {n n':Nat} {f:Obj->Obj} (I:Inv X pins σ H s) (h:H p=some (.lst xs))
  (ho:s.heap.get? p=some {cls:=.type "list",data:=.seq its.toArray n}) (hf:f {cls:=.type "list",data:=.seq its.toArray n}={cls:=.type "list",data:=.seq its'.toArray n'}) (r:bw ys its') (hz:ys.length<=sizeLine) (t:Nat) :
  Inv X pins σ (upd H p (.lst ys)) {s with heap:=s.heap.update p f,toks:=t}:=by
 have e:(s.heap.update p f).get? p=some {cls:=.type "list",data:=.seq its'.toArray n'}:=by
  rw[DR f ho (by rw[hf]<;>rfl),hf]
 refine I.write (x:=p) (e:=p) (by rw[h];trivial) (.inl rfl) (λb u hb q=>(CW _ _ (Ne.symm hb)).trans q) ⟨_,e⟩ ?_
 exact⟨hz,its',n',r,e⟩
def rSetL:V->V->V->Hp->(Hp->Prop)->Prop:=λo i v H Q=>∃p xs k j,o=.ref p/\i=.int k/\H p=some (.lst xs)/\ixN xs.length k=some j/\Q (upd H p (.lst (xs.set j v)))
theorem set_list:Ko X rSetL:=by
 intro pins s σ H o i v ov iv u Q I ro ri rv h
 obtain⟨p,xs,k,j,rfl,rfl,hp,hj,q⟩:=h
 cases ro
 obtain⟨t,rfl⟩:=ri
 obtain⟨its,n,r,ho,hz⟩:=I.lst hp
 obtain⟨h1,h2,h3,h4⟩:=z6 hj
 have hl:=r.length
 have hn:=pk
 have I':Inv X pins σ (upd H p (.lst (xs.set j v))) {s with heap:=s.heap.update p (Obj.mapSeq (·.setIfInBounds j u))} :=
  I.lstUpd hp ho (yk its n j u) (r.set rv j) (by rw[List.length_set];exact hz) s.toks
 by_cases h0:0<=k
 ·have hk:k.toNat=j:=by
   rw[seqIndex_of h0 h4]at h1
   exact BC h1
  exact PySem.W.ki_setAt ho h0 (by lia) (by rw[AE,<-hl];exact h4) (by rw[hk];exact⟨_,I',q⟩)
 ·have hk:(k+(its.toArray.size:Int)).toNat=j:=by
   rw[seqIndex_neg (by lia) h3]at h1
   rw[AE,<-hl]
   exact BC h1
  exact PySem.W.ki_setBack ho (by lia) (by rw[AE,<-hl];exact h3) (by lia) (by rw[hk];exact⟨_,I',q⟩)
theorem sa (lo hi:Option Int) (n:Nat):(sliceBounds lo hi none n).1=((HT.sIx n 0 lo:Nat):Int)/\(sliceBounds lo hi none n).2.1=((HT.sIx n n hi:Nat):Int)/\(sliceBounds lo hi none n).2.2=1:=by
 refine⟨?_,?_,rfl⟩
 ·cases lo with
  | none=>simp[sliceBounds,HT.sIx]
  | some i =>
   simp![sliceBounds,HT.sIx,Option.getD_none,show(1:Int) > 0 by decide,if_true]
   by_cases h:i<0
   ·simp![h,if_true]<;>lia
   ·simp![h,if_false]<;>lia
 ·cases hi with
  | none=>simp[sliceBounds,HT.sIx]
  | some i =>
   simp![sliceBounds,HT.sIx,Option.getD_none,show(1:Int) > 0 by decide,if_true]
   by_cases h:i<0
   ·simp![h,if_true]<;>lia
   ·simp![h,if_false]<;>lia
theorem qh (its:List Value) (lo hi:Option Int):slicePick its.toArray lo hi none=((its.drop (HT.sIx its.length 0 lo)).take (HT.sIx its.length its.length hi-HT.sIx its.length 0 lo)).toArray:=by
 obtain⟨h1,h2,h3⟩:=sa lo hi its.toArray.size
 unfold slicePick
 rw[h1,h2,h3]
 simp![sliceRange_one,pick_run,AE]<;>rfl
def Qv (K:PySem.W.Frag):V->Option Int->Option Int->Hp->VK->Prop:=λx lo hi H Q=>∃a xs,x=.ref a/\SqL K H a xs/\∀p,H p=none->Q (.ref p) (upd H p (.lst (D4 xs lo hi)))
theorem E9:SlR X (Qv X.K):=by
 intro pins s σ H x v vl vu lo hi sl Q I rx hs pl pu h
 obtain⟨a,xs,rfl,hx,q⟩:=h
 cases rx
 obtain⟨its,r,ht,hz⟩:=I.list hx
 have hlen:=r.length
 refine⟨"list",_,slot_list_getitem.lookup,ht.isList.typeIs,?_⟩
 refine wpAny_getItem_list_slice ht.isList hs pl pu .none (by simp) ?_ (by rw[AE]<;>lia)
 rw[qh,<-hlen]
 refine⟨.ref s.heap.objs.size,_,I.laid (t':=s.toks) (o:=.lst (D4 xs lo hi)) (λb ob q=>AC _ q) (AN _) ?_,rfl,q _ (I.hok.fresh (AN _))⟩
 exact⟨CF (mz xs lo hi) hz,_,0,(r.drop (HT.sIx xs.length 0 lo)).take (HT.sIx xs.length xs.length hi-HT.sIx xs.length 0 lo),AQ _ rfl⟩
def pd:V->Bool
 | .non=>true
 | .bl _=>true
 | .int _=>true
 | .str _=>true
 | _=>false
def eqV:V->V->Bool
 | .non,.non=>true
 | .bl a,.bl b=>a==b
 | .bl a,.int b=>(if a then 1 else 0)==b
 | .int a,.bl b=>a==(if b then 1 else 0)
 | .int a,.int b=>a==b
 | .str a,.str b=>a==b
 | _,_=>false
theorem Im {A:Around} {s:Shared} {y x:V} {u v:Value} (ry:RelV y u) (rx:RelV x v) (fy:pd y=true) (fx:pd x=true):SeqAt.EqAt A s u v (eqV y x):=by
 cases y with
 | non =>
  cases ry
  cases x with
  | non=>cases rx;exact SeqAt.EqAt.same _
  | bl b=>cases rx;exact SeqAt.EqAt.none_bool b
  | int b=>obtain⟨t,rfl⟩:=rx;exact SeqAt.EqAt.none_int b t
  | str b=>obtain⟨t,rfl⟩:=rx;exact SeqAt.EqAt.none_str b t
  | _=>exact absurd (show false=true from fx) BH
 | bl a =>
  cases ry
  cases x with
  | non=>cases rx;exact SeqAt.EqAt.bool_none a
  | bl b=>cases rx;exact SeqAt.EqAt.bool_bool a b
  | int b=>obtain⟨t,rfl⟩:=rx;exact SeqAt.EqAt.bool_int a b t
  | str b=>obtain⟨t,rfl⟩:=rx;exact SeqAt.EqAt.bool_str a b t
  | _=>exact absurd (show false=true from fx) BH
 | int a =>
  obtain⟨t',rfl⟩:=ry
  cases x with
  | non=>cases rx;exact SeqAt.EqAt.int_none a t'
  | bl b=>cases rx;exact SeqAt.EqAt.int_bool a t' b
  | int b=>obtain⟨t,rfl⟩:=rx;exact HM a t' b t
  | str b=>obtain⟨t,rfl⟩:=rx;exact HJ a t' b t
  | _=>exact absurd (show false=true from fx) BH
 | str a =>
  obtain⟨t',rfl⟩:=ry
  cases x with
  | non=>cases rx;exact SeqAt.EqAt.str_none a t'
  | bl b=>cases rx;exact SeqAt.EqAt.str_bool a t' b
  | int b=>obtain⟨t,rfl⟩:=rx;exact HK a t' b t
  | str b=>obtain⟨t,rfl⟩:=rx;exact SeqAt.EqAt.str_str a t' b t
  | _=>exact absurd (show false=true from fx) BH
 | _=>exact absurd (show false=true from fy) BH
def eqU (x:V) (u:Value):Bool:=match u with
 | .none=>eqV .non x
 | .bool b=>eqV (.bl b) x
 | .int i _=>eqV (.int i) x
 | .str z _=>eqV (.str z) x
 | _=>false
theorem D5 {x y:V} {u:Value} (r:RelV y u) (f:pd y=true):eqU x u=eqV y x:=by
 cases y with
 | non=>cases r;rfl
 | bl b=>cases r;rfl
 | int i=>obtain⟨t,rfl⟩:=r;rfl
 | str z=>obtain⟨t,rfl⟩:=r;rfl
 | _=>exact absurd (show false=true from f) BH
theorem nc {x:V}:∀{xs:List V} {us:List Value},bw xs us->xs.all pd=true->us.any (eqU x)=xs.any λy=>eqV y x
 | _,_,.nil,_=>rfl
 | y::xs,u::us,.cons r t,f=>by
  rw[AY,AW]at f
  rw[CY,CY,D5 r f.1,nc t f.2]
theorem ka {A:Around} {s:Shared} {x:V} {v:Value} (rx:RelV x v) (fx:pd x=true):∀{xs:List V} {us:List Value},bw xs us->xs.all pd=true->∀u∈us,SeqAt.EqAt A s u v (eqU x u)
 | _,_,.nil,_=>λu hu=>by cases hu
 | y::xs,u::us,.cons r t,f=>λu' hu=>by
  rw[AY,AW]at f
  rcases AJ.mp hu with rfl | hu
  ·rw[D5 r f.1];exact Im r rx f.1 fx
  ·exact ka rx fx t f.2 u' hu
def inV (x:V) (xs:List V):Bool:=xs.any λy=>eqV y x
def rIn (K:PySem.W.Frag) (neg:Bool):R2:=λx y H Q=>∃p xs,y=.ref p/\(SqL K H p xs\/SqT K H p xs)/\pd x=true/\xs.all pd=true/\Q (.bl (if neg then !inV x xs else inV x xs)) H
theorem z7:OpR X (compareOp .In) (rIn X.K false):=by
 intro pins s σ H x y v u Q I rx ry h
 obtain⟨p,xs,rfl,hq,fx,fs,q⟩:=h
 cases ry
 rcases hq with hq | hq
 ·obtain⟨its,r,pl,hz⟩:=I.list hq
  refine SeqAt.in_listAt (eqU x) pl.isList (λw hw=>ka rx fx r fs w (by simpa using hw)) ⟨.bl _,H,I,rfl,?_⟩
  rw[show its.toArray.any (eqU x)=its.any (eqU x)by simp,nc r fs]
  exact q
 ·obtain⟨its,r,pl,hz⟩:=I.tuple hq
  refine SeqAt.in_tupleAt (eqU x) pl (λw hw=>ka rx fx r fs w (by simpa using hw)) ⟨.bl _,H,I,rfl,?_⟩
  rw[show its.toArray.any (eqU x)=its.any (eqU x)by simp,nc r fs]
  exact q
theorem sd:OpR X (compareOp .NotIn) (rIn X.K true):=by
 intro pins s σ H x y v u Q I rx ry h
 obtain⟨p,xs,rfl,hq,fx,fs,q⟩:=h
 cases ry
 rcases hq with hq | hq
 ·obtain⟨its,r,pl,hz⟩:=I.list hq
  refine SeqAt.notIn_listAt (eqU x) pl.isList (λw hw=>ka rx fx r fs w (by simpa using hw)) ⟨.bl _,H,I,rfl,?_⟩
  rw[show its.toArray.any (eqU x)=its.any (eqU x)by simp,nc r fs]
  exact q
 ·obtain⟨its,r,pl,hz⟩:=I.tuple hq
  refine SeqAt.notIn_tupleAt (eqU x) pl (λw hw=>ka rx fx r fs w (by simpa using hw)) ⟨.bl _,H,I,rfl,?_⟩
  rw[show its.toArray.any (eqU x)=its.any (eqU x)by simp,nc r fs]
  exact q
theorem se:d0 X (.builtin "len") (λxs H Q=>∃p ys,xs=[.ref p]/\(SqL X.K H p ys\/SqT X.K H p ys)/\Q (.int ys.length) H):=by
 intro pins s σ H xs us Q I r h
 obtain⟨p,ys,rfl,hq,q⟩:=h
 obtain⟨u,rfl,rx⟩:=vals1 r
 cases rx
 have hn:=pk
 rcases hq with hq | hq
 ·obtain⟨its,r',pl,hz⟩:=I.list hq
  have hlen:=r'.length
  exact Calls.call_len_list pl.isList (by simp![AE]<;>lia) ⟨.int ys.length,H,I.tok _,⟨s.toks+1,by rw[AE,hlen]⟩,q⟩
 ·obtain⟨its,r',pl,hz⟩:=I.tuple hq
  have hlen:=r'.length
  exact len_tuple pl (by simp![AE]<;>lia) ⟨.int ys.length,H,I.tok _,⟨s.toks+1,by rw[AE,hlen]⟩,q⟩
theorem sf:d0 X (.type "list") (λxs H Q=>∃p ys,xs=[.ref p]/\(SqL X.K H p ys\/SqT X.K H p ys)/\∀l,H l=none->Q (.ref l) (upd H l (.lst ys))):=by
 intro pins s σ H xs us Q I r h
 obtain⟨p,ys,rfl,hq,q⟩:=h
 obtain⟨u,rfl,rx⟩:=vals1 r
 cases rx
 have fin:∀(its:List Value),bw ys its->ys.length<=sizeLine->∀(h':Heap) (c':Nat),(∀b o',s.heap.get? b=some o'->h'.get? b=some o') ->
   h'.get? s.heap.objs.size=some {cls:=.type "list",dict:=none,data:=.seq its.toArray c',slots:=#[]}->EP X pins σ Q (.ref s.heap.objs.size) {s with heap:=h'}:=λits r' hz h' c' kp e =>
  ⟨.ref s.heap.objs.size,_,I.laid (t':=s.toks) kp (AN _) (show fw X.prog X.w _ h' _ (.lst ys)from⟨hz,its,c',r',e⟩),rfl,q _ (I.hok.fresh (AN _))⟩
 rcases hq with hq | hq
 ·obtain⟨its,r',pl,hz⟩:=I.list hq
  have hlen:=r'.length
  obtain⟨o,ho,hc,n,hd⟩:=pl.isList
  exact call_list_seq p (.inl rfl) ho hc hd (λh' c' kp e=>fin its r' hz h' c' kp e) (by simp![AE]<;>lia)
 ·obtain⟨its,r',pl,hz⟩:=I.tuple hq
  have hlen:=r'.length
  obtain⟨o,ho,hc,n,hd⟩:=pl
  exact call_list_seq p (.inr rfl) ho hc hd (λh' c' kp e=>fin its r' hz h' c' kp e) (by simp![AE]<;>lia)
theorem kc:d0 X (.type "tuple") (λxs H Q=>∃p ys,xs=[.ref p]/\((SqL X.K H p ys/\∀l,H l=none->Q (.ref l) (upd H l (.tup ys)))\/(SqT X.K H p ys/\Q (.ref p) H))):=by
 intro pins s σ H xs us Q I r h
 obtain⟨p,ys,rfl,h⟩:=h
 obtain⟨u,rfl,rx⟩:=vals1 r
 cases rx
 rcases h with⟨hq,q⟩ | ⟨hq,q⟩
 ·obtain⟨its,r',pl,hz⟩:=I.list hq
  have hlen:=r'.length
  refine call_tuple_list pl.isList (λh' kp=>?_) (by simp![AE]<;>lia)
  have I1:Inv X pins σ H {s with heap:=h'}:=I.kept (t':=s.toks) kp
  have I2:Inv X pins σ (upd H h'.objs.size (.tup ys)) {s with heap:=h'.push {cls:=.type "tuple",data:=.seq its.toArray}} :=
   I1.laid (t':=s.toks) (λb o e=>AC _ e) (AN _) (show fw X.prog X.w _ _ _ (.tup ys)from⟨hz,its,r',l6.new _ _⟩)
  exact⟨.ref h'.objs.size,_,I2,rfl,q _ (I1.hok.fresh (AN _))⟩
 ·obtain⟨its,r',pl,hz⟩:=I.tuple hq
  exact call_tuple_same pl ⟨.ref p,H,I,rfl,q⟩
def tyV (K:PySem.W.Frag) (T:String) (x:V) (H:Hp):Prop:=match x with
 | .str _=>T="str"
 | .int _=>T="int"
 | .ref p=>(T="list"/\∃xs,SqL K H p xs)\/(T="tuple"/\∃o,K.lookup p=some o/\o.cls=.type "tuple"/\o.dict=none) \/
   (T="dict"/\((∃kvs,H p=some (.dK kvs))\/∃kvs,H p=some (.dT kvs)))\/(T="set"/\∃S n,H p=some (.set S n))
 | _=>False
theorem D6 {pins:List (Addr×Obj)} {σ:St} {H:Hp} {s:Shared} {T:String} {x:V} {v:Value} (I:Inv X pins σ H s) (r:RelV x v) (ty:tyV X.K T x H) :
  s.TypeIs v T/\∀a,v=.ref a->∃ob,s.heap.get? a=some ob/\ob.dict=none:=by
 cases x with
 | str z =>
  obtain⟨t,rfl⟩:=r
  cases(show T="str" from ty)
  exact⟨typeIs_str s z t,λ_ e=>nomatch e⟩
 | int i =>
  obtain⟨t,rfl⟩:=r
  cases(show T="int" from ty)
  exact⟨typeIs_int s i t,λ_ e=>nomatch e⟩
 | ref p =>
  cases r
  rcases ty with⟨rfl,xs,hq⟩ | ⟨rfl,o,hk,hc,hd⟩ | ⟨rfl,hk⟩ | ⟨rfl,S,n,hk⟩
  ·obtain⟨its,_,pl,_⟩:=I.list hq
   refine⟨pl.isList.typeIs,λa e=>?_⟩
   cases e
   obtain⟨o,n,e,c,hd,_⟩:=pl
   exact⟨o,e,hd⟩
  ·refine⟨⟨o,I.kIn p o hk,hc⟩,λa e=>?_⟩
   cases e
   exact⟨o,I.kIn _ o hk,hd⟩
  ·have z:∃o,s.heap.get? p=some o/\o.ExactDict:=by
    rcases hk with⟨kvs,hk⟩ | ⟨kvs,hk⟩
    ·obtain⟨_,_,_,_,o,_,_,e,ex,_⟩:=I.hok p _ hk
     exact⟨o,e,ex⟩
    ·obtain⟨_,_,_,_,o,_,_,e,ex,_⟩:=I.hok p _ hk
     exact⟨o,e,ex⟩
   obtain⟨o,e,ex⟩:=z
   refine⟨⟨o,e,ex.1⟩,λa e2=>?_⟩
   cases e2
   exact⟨o,e,ex.2.1⟩
  ·obtain⟨o,_,_,_,e,ex,_⟩:=I.hok p _ hk
   refine⟨⟨o,e,ex.1⟩,λa e2=>?_⟩
   cases e2
   exact⟨o,e,ex.2.1⟩
 | _=>exact False.elim ty
def Oj (K:PySem.W.Frag) (T:String) (r:V->List V->Hp->VK->Prop) (to:TE):TE:=λσ H Q=>to σ H λx H1=>tyV K T x H1/\r x [] H1 Q
def tBM (K:PySem.W.Frag) (T:String) (r:V->List V->Hp->VK->Prop) (to:TE) (t:TA):TE:=λσ H Q=>to σ H λx H1=>tyV K T x H1/\t σ H1 λxs H2=>r x xs H2 Q
variable {o e : Expr} {es : List Expr} {to : TE} {t : TA} {name : Str} {apos cpos : Pos} {T id : String} {r : V -> List V -> Hp -> VK -> Prop}
theorem Io (pa:PlainAttrs T) (slot:Slot T name id) (hty:typeOf (.builtin id)=pure (.type "method_descriptor")) (hm:MtR X id r) (ho:PE X o to)
  (hbase:attributeBase o name X.env (eval o X.env)=eval o X.env:=by rfl) (hline:(apos.endLine==cpos.line)=true:=by rfl):PE X (.Call (.Attribute o name apos) [] [] cpos) (Oj X.K T r to):=by
 intro pins s σ H Q I h
 refine wpAny_Call_method0_late hbase hline (thn (ho pins s σ H _ I h) λv s1 ⟨x,H1,I1,r1,ty,q1⟩=>?_)
 obtain⟨h1,h2⟩:=D6 I1 r1 ty
 exact⟨T,id,pa,slot,hty,h1,h2,GX rfl (PySem.evalArgs_none (hm pins s1 σ H1 x [] v [] Q I1 r1 .nil q1))⟩
theorem Fb (pa:PlainAttrs T) (slot:Slot T name id) (hty:typeOf (.builtin id)=pure (.type "method_descriptor")) (hm:MtR X id r) (ho:PE X o to) (ha:PA X (e::es) t)
  (hbase:attributeBase o name X.env (eval o X.env)=eval o X.env:=by rfl)
  (hfew:((backTo cpos (starEach (e::es) X.env)).all (λx=>!x.1)&&(backToKw cpos (keywordEach [] X.env)).all (λx=>x.1.isSome)
   && decide ((e::es).length+([]:List Keyword).length+(if([]:List Keyword).isEmpty then 0 else 1)<30))=true:=by rfl)
  (hline:(apos.endLine==cpos.line)=true:=by rfl) (hs:starEach (e::es) X.env=(false,eval e X.env)::starEach es X.env:=by rfl) (hplain:(backTo cpos (starEach es X.env)).any (·.1)=false:=by rfl) :
  PE X (.Call (.Attribute o name apos) (e::es) [] cpos) (tBM X.K T r to t):=by
 intro pins s σ H Q I h
 refine wpAny_Call_method_late hbase hfew hline rfl (thn (ho pins s σ H _ I h) λv s1 ⟨x,H1,I1,r1,ty,q1⟩=>?_)
 obtain⟨h1,h2⟩:=D6 I1 r1 ty
 refine⟨T,id,pa,slot,hty,h1,h2,?_⟩
 have hA:=ha cpos pins s1 σ H1 _ I1 q1
 rw[hs]at hA ⊢
 refine GX (by show(false || (backTo cpos (starEach es X.env)).any (·.1))=false;rw[hplain]<;>rfl) (HG ?_)
 exact thn hA λus s2 ⟨vs,H2,I2,r2,q2⟩=>hm pins s2 σ H2 x vs v us Q I2 r1 r2 q2
end
def MtM (X:Cx) (id:String) (r:V->List V->Hp->VK->Prop):Prop :=
 ∀(pins:List (Addr×Obj)) (s:Shared) (σ:St) (H:Hp) (x:V) (xs:List V) (v:Value) (us:List Value) (Q:VK),Inv X pins σ H s->RelV x v->bw xs us->r x xs H Q ->
  wpAny (model X.prog X.w) X.A (call (.builtin id) (v::us)) (EP X pins σ Q) X.xe s
theorem bw.one:∀{x:V} {us:List Value},bw [x] us->∃u,us=[u]/\RelV x u
 | _,_,.cons r .nil=>⟨_,rfl,r⟩
theorem bw.zero:∀{us:List Value},bw [] us->us=[]
 | _,.nil=>rfl
theorem bw.dropLast {xs:List V} {us:List Value} (h:bw xs us):bw xs.dropLast us.dropLast:=by
 induction h with
 | nil=>exact .nil
 | cons r t ih =>
  cases t with
  | nil=>exact .nil
  | cons q t'=>exact .cons r ih
theorem bw.eraseIdx:∀{xs:List V} {us:List Value} (i:Nat),bw xs us->bw (xs.eraseIdx i) (us.eraseIdx i)
 | _,_,_,.nil=>.nil
 | _,_,0,.cons _ t=>t
 | _,_,i+1,.cons r t=>.cons r (bw.eraseIdx i t)
theorem bw.reverse {xs:List V} {us:List Value} (h:bw xs us):bw xs.reverse us.reverse:=by
 induction h with
 | nil=>exact .nil
 | cons r t ih=>rw[GA,GA];exact bw.append ih (.cons r .nil)
theorem bw.rep {xs:List V} {us:List Value} (h:bw xs us):∀k:Nat,bw (List.replicate k xs).flatten (List.replicate k us).flatten
 | 0=>.nil
 | k+1=>by
  rw[CV,CV,DV,DV]
  exact bw.append h (bw.rep h k)
theorem yl {α:Type} (l:List α):l.eraseIdx (l.length-1)=l.dropLast:=by
 induction l with
 | nil=>rfl
 | cons a r ih =>
  cases r with
  | nil=>rfl
  | cons b r =>
   have e:(a::b::r).length-1=((b::r).length-1)+1:=by
    have h1:(a::b::r).length=r.length+2:=rfl
    have h2:(b::r).length=r.length+1:=rfl
    lia
   rw[e,GP,ih]
   all_goals rfl
theorem sg {α:Type}:∀(l:List α) (i:Nat),(l.eraseIdx i).length<=l.length
 | [],_=>AN _
 | _::_,0=>GB _
 | _::r,i+1=>Nat.succ_le_succ (sg r i)
theorem foldl_rep (its:List Value):∀(k:Nat) (acc:List Value),
  List.foldl (λx1 x2=>x1++x2) acc.toArray (List.replicate k its.toArray)=(acc++(List.replicate k its).flatten).toArray
 | 0,acc=>by simp
 | k+1,acc=>by
  have e:acc.toArray++its.toArray=(acc++its).toArray:=by simp
  have e2:(acc++its)++(List.replicate k its).flatten=acc++(List.replicate (k+1) its).flatten:=by
   rw[CV,DV,BW]
  rw[<-e2,<-foldl_rep its k (acc++its),<-e,CV,List.foldl_cons]
section
variable {X : Cx} {pins : List (Addr × Obj)} {σ : St} {H : Hp} {s : Shared} {l b : Addr} {xs ys zs : List V}
theorem Inv.lset {its its':List Value} {n:Nat} {f:Array Value->Array Value} {t':Nat} (I:Inv X pins σ H s) (hH:H l=some (.lst xs))
  (e:s.heap.get? l=some {cls:=.type "list",data:=.seq its.toArray n}) (hf:f its.toArray=its'.toArray) (hv:bw ys its') (hz:ys.length<=sizeLine) :
  Inv X pins σ (upd H l (.lst ys)) {s with heap:=s.heap.update l (Obj.mapSeq f),toks:=t'}:=by
 have q:=PySem.IsL.update e f
 rw[hf]at q
 refine I.write (x:=l) (e:=l) (by rw[hH];exact trivial) (.inl rfl) (λb' u hb hu=>(CW s.heap (Obj.mapSeq f) (Ne.symm hb)).trans hu) ⟨_,q⟩ ?_
 exact⟨hz,its',_,hv,q⟩
theorem Inv.lnew {its:List Value} {t':Nat} (I:Inv X pins σ H s) (hv:bw ys its) (hz:ys.length<=sizeLine) :
  Inv X pins σ (upd H s.heap.objs.size (.lst ys)) {s with heap:=s.heap.push {cls:=.type "list",data:=.seq its.toArray},toks:=t'} :=
 I.laid (λ_ _ q=>AC _ q) (AN _) ⟨hz,its,0,hv,AQ _ rfl⟩
theorem Inv.fresh (I:Inv X pins σ H s):H s.heap.objs.size=none:=I.hok.fresh (AN _)
theorem Inv.lstM (I:Inv X pins σ H s) (hH:H l=some (.lst xs)):xs.length<=sizeLine/\∃(its:List Value) (n:Nat),bw xs its/\xs.length=its.length/\s.heap.get? l=some {cls:=.type "list",data:=.seq its.toArray n}:=by
 obtain⟨z,its,n,r,e⟩:=I.hok l _ hH
 exact⟨z,its,n,r,r.length,e⟩
theorem B1 {n:Nat} (h:n<=sizeLine):Builtin.List.listTooLong n=false:=by
 unfold Builtin.List.listTooLong
 exact decide_eq_false (by lia)
end
section
variable {X : Cx}
def rAppend:V->List V->Hp->VK->Prop:=λx vs H Q=>∃l xs y,x=.ref l/\vs=[y]/\H l=some (.lst xs)/\xs.length<sizeLine/\Q .non (upd H l (.lst (xs++[y])))
theorem z8:MtM X "list.append" rAppend:=by
 intro pins s σ H x vs v us Q I rx rv h
 obtain⟨l,xs,y,rfl,rfl,hH,hz,q⟩:=h
 cases rx
 obtain⟨u,rfl,ru⟩:=rv.one
 obtain⟨z,its,n,r,hl,e⟩:=I.lstM hH
 refine FW F.slot_list_append ⟨_,e,rfl⟩ F.entry_list_append (F.args_list_append_2 _ _) (PySem.list_append l its.toArray n u (by rw[AE];lia)) ⟨e,?_⟩
 refine⟨.non,_,I.lset (its':=its++[u]) hH e (by simp) (r.append (.cons ru .nil)) ?_,rfl,q⟩
 rw[BM,ET]
 lia
def rPop:V->List V->Hp->VK->Prop:=λx vs H Q=>∃l xs y,x=.ref l/\vs=[]/\H l=some (.lst xs)/\xs[xs.length-1]? = some y/\Q y (upd H l (.lst xs.dropLast))
theorem Ip:MtM X "list.pop" rPop:=by
 intro pins s σ H x vs v us Q I rx rv h
 obtain⟨l,xs,y,rfl,rfl,hH,hy,q⟩:=h
 cases rx
 have hus:=rv.zero
 subst hus
 obtain⟨z,its,n,r,hl,e⟩:=I.lstM hH
 obtain⟨u,hu,ru⟩:=r.get hy
 have hy':its.toArray[its.toArray.size-1]? = some u:=by
  show its.toArray[its.length-1]? = some u
  rw[<-DS,<-hl]
  exact hu
 refine FW FH ⟨_,e,rfl⟩ F.entry_list_pop (F.args_list_pop_1 _) (MeetsSeq.list_pop_last l its.toArray n u hy' (by rw[AE];lia)) ⟨e,?_⟩
 refine⟨y,_,I.lset (its':=its.dropLast) hH e ?_ r.dropLast ?_,ru,q⟩
 ·show its.toArray.eraseIdxIfInBounds (its.toArray.size-1)=its.dropLast.toArray
  rw[AE,ER,yl]
 ·rw[List.length_dropLast]
  lia
def rPopAt:V->List V->Hp->VK->Prop:=λx vs H Q=>∃l xs i k y,x=.ref l/\vs=[.int i]/\H l=some (.lst xs) /\ -(2 ^ 63)<=i/\i<2 ^ 63/\seqIndex? i xs.length=some k/\xs[k]? = some y/\Q y (upd H l (.lst (xs.eraseIdx k)))
theorem B2:MtM X "list.pop" rPopAt:=by
 intro pins s σ H x vs v us Q I rx rv h
 obtain⟨l,xs,i,k,y,rfl,rfl,hH,h1,h2,hk,hy,q⟩:=h
 cases rx
 obtain⟨u,rfl,ru⟩:=rv.one
 obtain⟨t,rfl⟩:=ru
 obtain⟨z,its,n,r,hl,e⟩:=I.lstM hH
 obtain⟨w,hw,rw'⟩:=r.get hy
 refine FW FH ⟨_,e,rfl⟩ F.entry_list_pop (F.args_list_pop_2 _ _)
  (MeetsSeq.list_pop_at l its.toArray n i t k w (fitsIndex_both h1 h2) (by rw[AE,<-hl];exact hk) (by rw[<-DS];exact hw) (by rw[AE];lia)) ⟨e,?_⟩
 refine⟨y,_,I.lset (its':=its.eraseIdx k) hH e ?_ (r.eraseIdx k) ?_,rw',q⟩
 ·show its.toArray.eraseIdxIfInBounds k=(its.eraseIdx k).toArray
  rw[ER]
 ·have:=sg xs k
  lia
theorem len_rep {α:Type} (xs:List α) (k:Nat):(List.replicate k xs).flatten.length=k*xs.length:=by
 induction k with
 | zero=>simp
 | succ k ih=>rw[CV,DV,BM,ih,Nat.succ_mul,Nat.add_comm]
end
section
variable {κ : Type} [DecidableEq κ]
def wo (kvs:List (κ×V)) (k:κ):Option V:=(kvs.find? λkv=>decide (kv.1=k)).map (·.2)
def putK (kvs:List (κ×V)) (k:κ) (v:V):List (κ×V) :=
 if(kvs.any λkv=>decide (kv.1=k))=true then kvs.map (λkv=>if kv.1=k then(kv.1,v)else kv)else kvs++[(k,v)]
theorem mn {p:κ×V} {r:List (κ×V)} {k:κ} (e:p.1=k):wo (p::r) k=some p.2:=by simp[wo,DN,e]
theorem mq {p:κ×V} {r:List (κ×V)} {k:κ} (e:¬p.1=k):wo (p::r) k=wo r k:=by simp[wo,DN,e]
theorem wq (k:κ):∀kvs:List (κ×V),(kvs.any λkv=>decide (kv.1=k))=(wo kvs k).isSome
 | []=>rfl
 | p::r=>by
  rw[CY]
  by_cases e:p.1=k
  ·simp![mn e,decide_eq_true e,Bool.true_or,Option.isSome_some]
  ·rw[mq e,decide_eq_false e,Bool.false_or];exact wq k r
theorem ng (kvs:List (κ×V)) (k:κ) (v:V):(putK kvs k v).length<=kvs.length+1:=by
 unfold putK
 split
 ·rw[AG];lia
 ·rw[BM,BJ,BU];lia
theorem He.isSome_eq {o:Option V} {u:Option Value} (r:He o u):o.isSome=u.isSome:=by
 cases o with
 | none=>cases u with
  | none=>rfl
  | some _=>exact(show False from r).elim
 | some _=>cases u with
  | none=>exact(show False from r).elim
  | some _=>rfl
theorem KV.val {kvs:List (κ×V)} {vs:List (κ×Value)} (r:KV kvs vs) (k:κ):He (wo kvs k) (valueAt vs k):=by
 unfold KV at r
 induction r with
 | nil=>exact True.intro
 | @cons p q ps qs h t ih =>
  obtain⟨h1,h2⟩:=h
  by_cases e:p.1=k
  ·have e':q.1=k:=h1.symm.trans e
   have b:valueAt (q::qs) k=some q.2:=by simp[valueAt,DN,e']
   rw[mn e,b];exact h2
  ·have e':¬q.1=k:=λz=>e (h1.trans z)
   have b:valueAt (q::qs) k=valueAt qs k:=by simp[valueAt,DN,e']
   rw[mq e,b];exact ih
theorem KV.any {kvs:List (κ×V)} {vs:List (κ×Value)} (r:KV kvs vs) (k:κ):(kvs.any λkv=>decide (kv.1=k))=vs.any λkv=>decide (kv.1=k):=by
 unfold KV at r
 induction r with
 | nil=>rfl
 | cons h t ih=>rw[CY,CY,ih,h.1]
theorem KV.repl {kvs:List (κ×V)} {vs:List (κ×Value)} (r:KV kvs vs) (k:κ) {y:V} {u:Value} (ry:RelV y u) :
  KV (kvs.map λkv=>if kv.1=k then(kv.1,y)else kv) (vs.map λkv=>if kv.1=k then(kv.1,u)else kv):=by
 unfold KV at r ⊢
 induction r with
 | nil=>exact .nil
 | @cons p q ps qs h t ih =>
  rw[AX,AX]
  refine .cons ?_ ih
  obtain⟨h1,h2⟩:=h
  by_cases e:p.1=k
  ·rw[if_pos e,if_pos (h1.symm.trans e)];exact⟨h1,ry⟩
  ·rw[if_neg e,if_neg (λz=>e (h1.trans z))];exact⟨h1,h2⟩
theorem KV.put {kvs:List (κ×V)} {vs:List (κ×Value)} (r:KV kvs vs) (k:κ) {y:V} {u:Value} (ry:RelV y u):KV (putK kvs k y) (stored vs k u):=by
 unfold putK stored
 rw[r.any k]
 by_cases e:(vs.any λkv=>decide (kv.1=k))=true
 ·rw[if_pos e,if_pos e];exact r.repl k ry
 ·rw[if_neg e,if_neg e];exact Paired.snoc r ⟨rfl,ry⟩
theorem KV.length {kvs:List (κ×V)} {vs:List (κ×Value)} (r:KV kvs vs):kvs.length=vs.length:=EZ r
end
theorem B5 {P:Program} {w:World} {k:Key} {u:Value} (r:RelV (kV k) u):(dz P w).is k u=true:=by
 cases k with
 | inl i=>obtain⟨t,e⟩:=(show ∃t,u=Value.int i t from r);subst e;exact ur P w i t
 | inr x=>obtain⟨t,e⟩:=(show ∃t,u=Value.str x t from r);subst e;exact uu P w x t
theorem si {P:Program} {w:World}:∀{ks:List Key} {us:List Value},bw (ks.map kV) us->ItemsAre (dz P w) ks us
 | [],_,r=>by rw[FN]at r;cases r;exact .nil
 | k::ks,_,r=>by
  rw[AX]at r
  cases r with
  | cons h t=>exact .cons (B5 h) (si t)
abbrev KT (H:Hp):List (List Key×V)->List (List Key×Addr×Value)->Prop:=Paired λp q=>p.1=q.1/\H q.2.1=some (.tup (p.1.map kV))/\RelV p.2 q.2.2
theorem KT.val {H:Hp} {kvs:List (List Key×V)} {xs:List (List Key×Addr×Value)} (r:KT H kvs xs) (k:List Key):He (wo kvs k) ((atKey xs k).map (·.2)):=by
 induction r with
 | nil=>exact True.intro
 | @cons p q ps qs h t ih =>
  obtain⟨h1,_,h2⟩:=h
  by_cases e:p.1=k
  ·have e':q.1=k:=h1.symm.trans e
   have b:atKey (q::qs) k=some q.2:=by simp[atKey,DN,e']
   rw[mn e,b];exact h2
  ·have e':¬q.1=k:=λz=>e (h1.trans z)
   have b:atKey (q::qs) k=atKey qs k:=by simp[atKey,DN,e']
   rw[mq e,b];exact ih
theorem KT.repl {H:Hp} {kvs:List (List Key×V)} {xs:List (List Key×Addr×Value)} (r:KT H kvs xs) (k:List Key) {y:V} {u:Value} (ry:RelV y u) :
  KT H (kvs.map λkv=>if kv.1=k then(kv.1,y)else kv) (xs.map (putAt k u)):=by
 induction r with
 | nil=>exact .nil
 | @cons p q ps qs h t ih =>
  rw[AX,AX]
  refine .cons ?_ ih
  obtain⟨h1,h2,h3⟩:=h
  unfold putAt
  by_cases e:p.1=k
  ·rw[if_pos e,if_pos (h1.symm.trans e)];exact⟨h1,h2,ry⟩
  ·rw[if_neg e,if_neg (λz=>e (h1.trans z))];exact⟨h1,h2,h3⟩
theorem KT.put {H:Hp} {kvs:List (List Key×V)} {xs:List (List Key×Addr×Value)} (r:KT H kvs xs) (k:List Key) {b:Addr} {y:V} {u:Value} (hb:H b=some (.tup (k.map kV))) (ry:RelV y u) :
  KT H (putK kvs k y) (storedH xs k b u):=by
 have e:(kvs.any λkv=>decide (kv.1=k))=(atKey xs k).isSome:=by
  rw[wq,(r.val k).isSome_eq,GC]
 unfold putK storedH
 rw[e]
 by_cases q:(atKey xs k).isSome=true
 ·rw[if_pos q,if_pos q];exact r.repl k ry
 ·rw[if_neg q,if_neg q];exact Paired.snoc r ⟨rfl,hb,ry⟩
theorem KT.keeps {H H':Hp} {kvs:List (List Key×V)} {xs:List (List Key×Addr×Value)} (r:KT H kvs xs) (ht:∀b ys,H b=some (.tup ys)->H' b=some (.tup ys)):KT H' kvs xs :=
 Paired.mapP r λ_ _ z=>⟨z.1,ht _ _ z.2.1,z.2.2⟩
section
variable {P : Program} {w : World} {H : Hp} {h : Heap} {a : Addr}
theorem Iq {u:HO} (ok:HOk P w H h) (e:Rd H a u):fw P w H h a u:=e.ok ok
theorem Fc {kvs:List (Key×V)} (ok:HOk P w H h) (e:Rd H a (.dK kvs)):kvs.length<=sizeLine/\(a==sysModules)=false/\∃vs,KV kvs vs/\h.DictOf (dz P w) a vs :=
 show fw P w H h a (.dK kvs)from Iq ok e
theorem Lw {kvs:List (Key×V)} (ok:HOk P w H h) (e:H a=some (.dK kvs)):kvs.length<=sizeLine/\(a==sysModules)=false/\∃vs,KV kvs vs/\h.DictOf (dz P w) a vs:=Fc ok (.inl e)
theorem wt {ks:List Key} (ok:HOk P w H h) (e:H a=some (.tup (ks.map kV))):(tupleKind (dz P w)).is h ks a:=by
 obtain⟨_,its,r,o,h1,h2,_,n,h3⟩:=(show fw P w H h a (.tup (ks.map kV))from ok a _ e)
 exact⟨o,its.toArray,n,h1,h2,h3,by simpa using si r⟩
theorem Fd {kvs:List (List Key×V)} (ok:HOk P w H h) (e:Rd H a (.dT kvs)):kvs.length<=sizeLine/\(a==sysModules)=false /\
  ∃xs,KT H kvs xs/\h.DictOfH (tupleKind (dz P w)) a xs:=by
 obtain⟨z,y,xs,r,o,es,ep,h1,h2,h3,h4,h5⟩:=(show fw P w H h a (.dT kvs)from Iq ok e)
 refine⟨z,y,xs,r,o,es,ep,h1,h2,h3,h4,λx hx=>?_,h5⟩
 have all:∀{l:List (List Key×V)} {m:List (List Key×Addr×Value)},KT H l m->∀x∈m,(tupleKind (dz P w)).is h x.1 x.2.1:=by
  intro l m q
  induction q with
  | nil=>intro x hx;exact nomatch hx
  | @cons p q ps qs hq t ih =>
   intro x hx
   rcases AJ.mp hx with e | hx
   ·subst e
    exact wt ok (by rw[<-hq.1];exact hq.2.1)
   ·exact ih x hx
 exact all r x hx
theorem Lx {kvs:List (List Key×V)} (ok:HOk P w H h) (e:H a=some (.dT kvs)):kvs.length<=sizeLine/\(a==sysModules)=false /\
  ∃xs,KT H kvs xs/\h.DictOfH (tupleKind (dz P w)) a xs:=Fd ok (.inl e)
end
def Hf (H:Hp) (a:Addr) (y:V) (r:Option V):Prop :=
 (∃kvs k,Rd H a (.dK kvs)/\y=kV k/\r=wo kvs k)\/∃kvs k b,Rd H a (.dT kvs)/\y=.ref b/\H b=some (.tup (k.map kV))/\r=wo kvs k
def Kq (H:Hp) (a:Addr) (y v:V) (H':Hp):Prop :=
 (∃kvs k,H a=some (.dK kvs)/\y=kV k/\kvs.length<sizeLine/\H'=upd H a (.dK (putK kvs k v))) \/
 ∃kvs k b,H a=some (.dT kvs)/\y=.ref b/\H b=some (.tup (k.map kV))/\kvs.length<sizeLine/\H'=upd H a (.dT (putK kvs k v))
theorem Hf.k {H:Hp} {a:Addr} {kvs:List (Key×V)} {k:Key} (e:H a=some (.dK kvs)):Hf H a (kV k) (wo kvs k):=.inl ⟨kvs,k,.inl e,rfl,rfl⟩
theorem Kq.k {H:Hp} {a:Addr} {kvs:List (Key×V)} {k:Key} {v:V} (e:H a=some (.dK kvs)) (hl:kvs.length<sizeLine):Kq H a (kV k) v (upd H a (.dK (putK kvs k v))):=.inl ⟨kvs,k,e,rfl,hl,rfl⟩
section
variable {X : Cx} {pins : List (Addr × Obj)} {σ : St} {H : Hp} {s : Shared} {a : Addr} {y v : V} {u r : Value} {o : Option V} {A : Around} {E : Value -> Shared -> Prop}
theorem Qw {Q:Value->Shared->Prop} (hu:A.units+1<cLine) (I:Inv X pins σ H s) (g:Hf H a y o) (ry:RelV y u) (h:∀s',Inv X pins σ H s'->Q (.bool o.isSome) s') :
  wpAny (model X.prog X.w) A (compareOp .In u (.ref a)) Q E s:=by
 rcases g with⟨kvs,k,e,ey,l⟩ | ⟨kvs,k,b,e,ey,eb,l⟩
 ·subst ey
  obtain⟨z,hd,vs,rel,dd⟩:=Fc I.hok e
  refine wpAny_in_of (B5 ry) hd dd.mapOf ?_
  rw[<-(rel.val k).isSome_eq,<-l]
  exact h _ (I.tok _)
 ·subst ey
  cases(show u=Value.ref b from ry)
  obtain⟨z,hd,xs,rel,dd⟩:=Fd I.hok e
  refine wpAny_in_heap (FX hu) (wt I.hok eb) hd dd ?_
  have q:=(rel.val k).isSome_eq
  rw[GC]at q
  rw[<-q,<-l]
  exact h _ (I.tok _)
theorem Fe {Q:Value->Shared->Prop} (hu:A.units+1<cLine) (I:Inv X pins σ H s) (g:Hf H a y o) (ry:RelV y u) (h:∀s',Inv X pins σ H s'->Q (.bool (!o.isSome)) s') :
  wpAny (model X.prog X.w) A (compareOp .NotIn u (.ref a)) Q E s:=by
 rcases g with⟨kvs,k,e,ey,l⟩ | ⟨kvs,k,b,e,ey,eb,l⟩
 ·subst ey
  obtain⟨z,hd,vs,rel,dd⟩:=Fc I.hok e
  refine wpAny_notIn_of (B5 ry) hd dd.mapOf ?_
  rw[<-(rel.val k).isSome_eq,<-l]
  exact h _ (I.tok _)
 ·subst ey
  cases(show u=Value.ref b from ry)
  obtain⟨z,hd,xs,rel,dd⟩:=Fd I.hok e
  refine wpAny_notIn_heap (FX hu) (wt I.hok eb) hd dd ?_
  have q:=(rel.val k).isSome_eq
  rw[GC]at q
  rw[<-q,<-l]
  exact h _ (I.tok _)
theorem z9 {h':Heap} {t':Nat} {ob:HO} (I:Inv X pins σ H s) (mu:Mut (H a)) (hs:Heap.SameBut a s.heap h') (he:∃q,h'.get? a=some q) (new:fw X.prog X.w (upd H a ob) h' a ob) :
  Inv X pins σ (upd H a ob) {s with heap:=h',toks:=t'} :=
 I.write (x:=a) (e:=a) mu (.inl rfl) (λb q hb z=>(hs.2 b hb).trans z) he new
theorem Ir {P:Program} {w:World} {H':Hp} {h':Heap} {kvs:List (Key×V)} {vs:List (Key×Value)} (z:kvs.length<=sizeLine) (hd:(a==sysModules)=false) (rel:KV kvs vs) (dd:h'.DictOf (dz P w) a vs) :
  fw P w H' h' a (.dK kvs):=⟨z,hd,vs,rel,dd⟩
theorem Aa {H':Hp} {Q:Unit->Shared->Prop} (hu:A.units+1<cLine) (I:Inv X pins σ H s) (g:Kq H a y v H') (ry:RelV y u) (rv:RelV v r) (h:∀s',Inv X pins σ H' s'->Q () s') :
  wpAny (model X.prog X.w) A (setItem (.ref a) u r) Q E s:=by
 rcases g with⟨kvs,k,e,ey,l,eH⟩ | ⟨kvs,k,b,e,ey,eb,l,eH⟩
 ·subst ey eH
  obtain⟨z,hd,vs,rel,dd⟩:=Lw I.hok e
  have hz:vs.length<=sizeLine:=by rw[<-rel.length];exact z
  have hl:(putK kvs k v).length<=sizeLine:=by have:=ng kvs k v;lia
  refine wpAny_setItem_pairs (hsz:=hz) (B5 ry) dd λh' dd' hs=>h _ ?_
  have he:∃q,h'.get? a=some q:=let ⟨q,_,_,hq,_⟩:=dd';⟨q,hq⟩
  exact z9 I (by rw[e];exact True.intro) hs he (Ir hl hd (rel.put k rv) dd')
 ·subst ey eH
  cases(show u=Value.ref b from ry)
  obtain⟨z,hd,xs,rel,dd⟩:=Lx I.hok e
  have hz:xs.length<=sizeLine:=by rw[<-EZ rel];exact z
  have hl:(putK kvs k v).length<=sizeLine:=by have:=ng kvs k v;lia
  refine wpAny_setItem_heap (hsz:=hz) (FX hu) (wt I.hok eb) dd λh' dd' hs=>h _ ?_
  obtain⟨q,es,ep,hq,h2,h3,h4,_,h5⟩:=dd'
  refine z9 I (by rw[e];exact True.intro) hs ⟨q,hq⟩ ⟨hl,hd,_,(rel.put k eb rv).keeps λc ys ec=>?_,q,es,ep,hq,h2,h3,h4,h5⟩
  rw[aw (o9 ec e (λz=>nomatch z))]
  exact ec
end
def IsD (H:Hp) (a:Addr):Prop:=(∃kvs,Rd H a (.dK kvs))\/∃kvs,Rd H a (.dT kvs)
end L2
namespace Att
open PySem PySem.W PySem.Calls PyProof.Rows
theorem nh {P:Params} {h:Heap}:∀(ns:List Int) (vs:List Value),WellAll P h vs (ns.map WData.int)->IntsAre vs ns:=by
 intro ns
 induction ns with
 | nil =>
  intro vs w
  rw[FN]at w
  cases w
  exact .nil
 | cons n ns ih =>
  intro vs w
  rw[AX]at w
  cases w with
  | cons a b =>
   cases a
   exact .cons _ _ (ih _ b)
theorem Ab {l:OpenLaw} {n:Nat} (hn:l.most=some n) {P:Params} {h:Heap} {args:List WData} {vals:List Value}
  (hpre:l.row.toRowW.claim.pre args=true) (hwl:WellAll P h vals args) :
  ∃a vs ns,vals=[Value.ref a]/\args=[WData.list (ns.map WData.int)]/\h.get? a=some {cls:=.type "list",data:=.seq vs.toArray}/\IntsAre vs ns/\ns.length<=n:=by
 have hsh:WShape.hasAll [] args [.list .int]=true:=(pre_splitW hpre).1
 have hc:l.pre.holds [] {args:=args}=true:=(pre_splitW hpre).2
 obtain⟨d,r,rfl,h1,h2⟩:=hasAllW_cons hsh
 obtain rfl:=hasAllW_nil h2
 obtain⟨xs,rfl,h3⟩:=hasW_list h1
 obtain⟨ns,rfl⟩:=items_int h3
 have hlen:ns.length<=n:=by
  unfold OpenLaw.pre at hc
  have h4:(WTm.not (.lt (.lit (.int (n:Int))) (.len (.arg 0)))).holds [] {args:=[.list (ns.map .int)]}=true:=by
   have h4:=(holds_andW hc).1
   rw[hn]at h4
   exact h4
  have h5:=condW_of h4 (w_not (w_lt w_lit (w_len_list (w_arg rfl))))
  rw[AG]at h5
  refine Nat.le_of_not_lt λq=>?_
  have q':(n:Int)<((ns.length:Nat):Int):=by lia
  first
   | (rw[decide_eq_true q']at h5;exact absurd h5 (by decide))
   | (simp at h5;lia)
 cases hwl with
 | cons w1 w2 =>
  cases w2
  cases w1 with
  | list ho hall=>exact⟨_,_,ns,rfl,rfl,ho,nh ns _ hall,hlen⟩
theorem Ac (l:OpenLaw) (args:List WData):l.row.toRowW.claim.post args (.bool true) args=true :=
 postW_of (r:=l.row.toRowW) (X:=(true==true))
  (show WShape.has [] (.bool true) .bool=true by first | rfl | decide | simp[WShape.has,WShape.arms,WShape.armsAll])
  (show(WTm.eq .res (.lit (.bool true))).value [] {args:=args,res:=some (.bool true),after:=args}=some (.bool (true==true))from w_eq_bool (w_res rfl) w_lit) rfl
theorem uy {l:OpenLaw} {n:Nat} {q:Program} {loose:List Str} {XP:(Str->Option Value)->Heap->Prop} {YP:World->Heap->Prop} {d:DefRec}
  (hn:l.most=some n) (hdf:d.params.defaults=[])
  (call:∀(w:World) (s₀ s₁:Shared) (mg mb:Str->Option Value) (fa:Addr) (o:Obj) (pm cd doc:Value) (a:Addr) (vs:List Value) (ns:List Int),
   Ground q loose [] XP w s₀ mg mb s₁.heap->YP w s₁.heap ->
   s₁.heap.get? fa=some o->o.data=.func (docDef d.name d.params d.body d.scope pm cd doc)->s₁.heap.CodeRec cd d.name->mg d.name=some (.ref fa) ->
   s₁.heap.get? a=some {cls:=.type "list",data:=.seq vs.toArray}->IntsAre vs ns->ns.length<=n->s₁.gens=#[] ->
   codeAny (model l.prog w) callerA (.call (.ref fa) ⟨[.ref a],[]⟩) (λr s'=>r=.ok (.ret (.bool true))/\OldK s₁.heap s'.heap/\s'.os=s₁.os/\AllBare s'.gens) s₁) :
  WalkO q loose XP YP l.row.toRowW d [] (λf vs=>PySem.call f vs):=by
 intro w s₀ s₁ mg mb G Y fa o pm cd doc dV kV ho hd hcd hD hmg hg args vals as hpre hlay hrd hwl hlo
 obtain rfl:dV=.none:=Dflts.none hD hdf
 obtain rfl:kV=.none:=Dflts.noKw hD
 obtain⟨a,vs,ns,rfl,rfl,hobj,hints,hlen⟩:=Ab hn hpre hwl
 refine enter_call (FM (call w s₀ s₁ mg mb fa o pm cd doc a vs ns G Y ho (fd_plain hd) hcd hmg hobj hints hlen hg) λr s' hq=>?_)
 obtain⟨rfl,h2,h3,h4⟩:=hq
 exact⟨.inl ⟨.bool true,.bool true,[],rfl,λ_=>rfl,.bool true,Ac l _,λ_=>⟨List.Pairwise.nil,λ_ hm=>(nomatch hm)⟩⟩,h2,h3,h4⟩
end Att
namespace L2
open PySem PySem.Spec PyProof.Rows
def FzL (K:PySem.W.Frag) (H:Hp) (a:Addr) (xs:List V):Prop :=
 (∃o,H a=some (.frz o (.lst xs))) \/
  ∃(its:List Value) (n:Nat),K.lookup a=some {cls:=.type "list",data:=.seq its.toArray n}/\xs.length<=sizeLine/\bw xs its
theorem vals_ints:∀{vs:List Value} {ns:List Int},IntsAre vs ns->bw (ns.map V.int) vs
 | _,_,.nil=>.nil
 | _,_,.cons n t h=>.cons ⟨t,rfl⟩ (vals_ints h)
def Ly (H:Hp):Prop:=∀b,H b=none\/∃o xs,H b=some (.frz o (.lst xs))
theorem B6 {P:Program} {w:World} {K:PySem.W.Frag} {mg mb:Str->Option Value} {CX:CXT} {k:Nat} {fa a:Addr} {fd:FuncData} {x:Str} {sp:Sp} {s₁:Shared} {vs:List Value} {ns:List Int}
  (KX:K.In s₁.heap) (hns:s₁.heap.Ns mainGlobals mg) (hb:s₁.heap.Ns builtinsNs mb) (hbb:∀x:Str,x≠"__name__"->mb x=bootBuiltins x) (hlim:s₁.heap.NoLimit) (hg:s₁.gens=#[])
  (ha:s₁.heap.get? a=some {cls:=.type "list",data:=.seq vs.toArray}) (hi:IntsAre vs ns) (hl:ns.length<=sizeLine) (hr:Room k callerA)
  (F:∀base:Heap,K.In base->base.Ns mainGlobals mg->FnOk P w K mg base CX k fa fd [x] sp) (hbind:∀(s:Shared) (u:Value),BindsTo s fd ⟨[u],[]⟩ [(x,u)])
  (hsp:∀H:Hp,Ly H->FzL K H a (ns.map V.int)->sp [.ref a] H (λv _=>v=.bl true) λ_ _ _=>False)
  (hCX:∀H e s',CX [] H s₁ (λ_ _ _=>False) e s'->False) :
  codeAny (model P w) callerA (.call (.ref fa) ⟨[.ref a],[]⟩) (λr s'=>r=.ok (.ret (.bool true))/\OldK s₁.heap s'.heap/\s'.os=s₁.os/\AllBare s'.gens) s₁:=by
 have rv:=vals_ints hi
 have lenV:=hi.length
 -- from an abstract heap in which nothing but the script may be tracked
 have core:∀H:Hp,Ly H->FzL K H a (ns.map V.int)->HOk P w H s₁.heap->(∀b,H b≠none->b=a)->(H a≠none->K.lookup a=none) ->
   codeAny (model P w) callerA (.call (.ref fa) ⟨[.ref a],[]⟩) (λr s'=>r=.ok (.ret (.bool true))/\OldK s₁.heap s'.heap/\s'.os=s₁.os/\AllBare s'.gens) s₁:=by
  intro H hO hS hok hA hK
  have base_of:∀{b:Addr} {o:Obj},s₁.heap.get? b=some o->H b=none->(Bp s₁.heap H).get? b=some o:=λe n=>Bq e n
  have noA:∀{b:Addr} {o:Obj} {es:Array DictEntry} {ep:Nat},s₁.heap.get? b=some o->o.data=.dict es ep->H b=none:=λ{b o es ep} e d=>by
   cases q:H b with
   | none=>rfl
   | some u =>
    have e':b=a:=hA b (by rw[q];simp)
    subst e'
    rw[ha]at e;cases e
    have d':Data.seq vs.toArray _=Data.dict es ep:=d
    cases d'
  have nsK:∀{b:Addr} {m:Str->Option Value},s₁.heap.Ns b m->(Bp s₁.heap H).Ns b m:=λ{b m} ⟨o,es,ep,e,d,r⟩=>⟨o,es,ep,base_of e (noA e d),d,r⟩
  have hKb:K.In (Bp s₁.heap H):=λb o e=>base_of (KX b o e) (by
   cases q:H b with
   | none=>rfl
   | some u =>
    have e':b=a:=hA b (by rw[q];simp)
    subst e'
    rw[hK (by rw[q];simp)]at e;cases e)
  have hM:Mod K mg (Bp s₁.heap H):=⟨hKb,nsK hns,⟨mb,nsK hb,hbb⟩,let ⟨mc,h1,h2⟩:=hlim;⟨mc,nsK h1,h2⟩⟩
  have e0:Env0 P w K mg (Bp s₁.heap H) callerA [] s₁ H:=⟨rfl,hM,λb o e=>Ep e,Nat.le_of_eq (zp _ _),trivial,λb hb=>absurd (show b∈([]:List Addr)from hb) (by simp),hok,.of_eq hg⟩
  refine FM ((F _ hKb (nsK hns)).run callerA [] s₁ H ⟨[.ref a],[]⟩ [.ref a] [.ref a] _ _ hr e0 (hbind s₁ (.ref a)) (.cons rfl .nil) (hsp H hO hS)) λr s' h=>?_
  cases r with
  | error e=>exact(hCX H e s' h).elim
  | ok fl =>
   cases fl with
   | next=>exact False.elim h
   | brk=>exact False.elim h
   | cont=>exact False.elim h
   | ret u =>
    obtain⟨v,H',os,bare,un,hok',r',q⟩:=h
    have q':v=.bl true:=q
    subst q'
    obtain rfl:u=Value.bool true:=r'
    refine⟨rfl,OldK.of_keep λb o e=>?_,os,bare⟩
    cases q:H b with
    | none=>exact un.keep b o e q (by intro z;exact absurd (show b∈([]:List Addr)from z) (by simp)) (by simp)
    | some u =>
     rcases hO b with z | ⟨ob,xs,z⟩
     ·rw[q]at z;cases z
     ·have z2:=un.frzs b ob _ z
      obtain⟨e1,_⟩:=hok b _ z
      obtain⟨e2,_⟩:=hok' b _ z2
      rw[e]at e1;cases e1
      exact e2
 cases hk:K.lookup a with
 | some o =>
  -- the script is one of the module's own objects
  have e:=KX a o hk
  rw[ha]at e
  cases e
  refine core (λ_=>none) (λ_=>.inl rfl) (.inr ⟨vs,_,hk,by rw[AG];exact hl,rv⟩) (λb u z=>by have z':(none:Option HO)=some u:=z;cases z') (λb z=>absurd rfl z) λz=>absurd rfl z
 | none =>
  refine core (λb=>if b=a then some (.frz {cls:=.type "list",data:=.seq vs.toArray} (.lst (ns.map V.int)))else none) (λb=>?_) (.inl ⟨{cls:=.type "list",data:=.seq vs.toArray},if_pos rfl⟩) (λb u z=>?_) (λb z=>?_) λ_=>hk
  ·by_cases hb:b=a
   ·exact .inr ⟨_,_,if_pos hb⟩
   ·exact .inl (if_neg hb)
  ·by_cases hb:b=a
   ·have z':=(if_pos hb).symm.trans z
    cases z'
    subst hb
    exact⟨ha,by rw[AG];exact hl,vs,_,rv,ha⟩
   ·have z':=(if_neg hb).symm.trans z
    cases z'
  ·by_cases hb:b=a
   ·exact hb
   ·exact absurd (if_neg hb) z
abbrev KOf {K:PySem.W.Frag} {h:Heap} (_:K.In h):PySem.W.Frag:=K
theorem Ff {l:PySem.W.OpenLaw} {n k:Nat} {q:Program} {loose:List Str} {XP:(Str->Option Value)->Heap->Prop} {YP:World->Heap->Prop} {d:DefRec} {K:Params->PySem.W.Frag} {CX:World->CXT} {sp:World->Sp} {x:Str}
  (hn:l.most=some n) (hn2:n<=sizeLine) (hdf:d.params.defaults=[]) (hr:Room k callerA)
  (hY:∀(w:World) (h:Heap),YP w h->(K w.params).In h)
  (F:∀(w:World) (mg:Str->Option Value) (fa:Addr) (h:Heap),(K w.params).In h->h.Ns mainGlobals mg->mg d.name=some (.ref fa) ->
   ∃fd:FuncData,(∀(s:Shared) (u:Value),BindsTo s fd ⟨[u],[]⟩ [(x,u)]) /\
    ∀base:Heap,(K w.params).In base->base.Ns mainGlobals mg->FnOk l.prog w (K w.params) mg base (CX w) k fa fd [x] (sp w))
  (hsp:∀(w:World) (H:Hp) (a:Addr) (ns:List Int),ns.length<=n->Ly H->FzL (K w.params) H a (ns.map V.int)->sp w [.ref a] H (λv _=>v=.bl true) λ_ _ _=>False)
  (hCX:∀(w:World) (H:Hp) (s:Shared) (e:Value) (s':Shared),CX w [] H s (λ_ _ _=>False) e s'->False) :
  PySem.W.WalkO q loose XP YP l.row.toRowW d [] (λf vs=>PySem.call f vs):=by
 refine Att.uy hn hdf λw s₀ s₁ mg mb fa o pm cd doc a vs ns G Y ho hd hcd hmg hobj hints hlen hg=>?_
 have KX:=hY w _ Y
 obtain⟨fd,hb,hF⟩:=F w mg fa _ KX G.T.g hmg
 exact B6 KX G.T.g G.T.b G.T.builtins G.T.nolimit hg hobj hints (CF hlen hn2) hr hF hb (λH hO hS=>hsp w H a ns hlen hO hS) λH e s'=>hCX w H s₁ e s'
def nj (s:Stmt):Arguments:=match s with
 | .FunctionDef _ a _ _ _ _ _ _ _ _=>a
 | _=>{posonlyargs:=[],args:=[],vararg:=none,kwonlyargs:=[],kw_defaults:=[],kwarg:=none,defaults:=[]}
def dn (s:Stmt):List Stmt:=match s with
 | .FunctionDef _ _ b _ _ _ _ _ _ _=>b
 | _=>[]
def ao (s:Stmt):Scope:=match s with
 | .FunctionDef _ _ _ _ _ _ sc _ _ _=>sc
 | _=>{kind:=.function,names:=[],isGenerator:=false,isCoroutine:=false}
abbrev CX0:CXT:=λ_ _ _ _ _ _=>False
abbrev E0:XK:=λ_ _ _=>False
theorem Lz {X:Cx}:zz CX0 X E0:=λ_ _ _ _ _ _ _ h=>h.elim
structure Fun (K:PySem.W.Frag) (x qual:Str) (st:Stmt) (f:Addr) (fd:FuncData):Prop where
 ex:∃(oc:Value) (od:Option Addr) (kV doc pm:Value) (an:Option Addr) (cdv ct:Value) (osl:Array (Option Value)),
  fd=PySem.W.fnOf x qual (nj st) (dn st) (ao st) .none kV doc pm an cdv ct/\K.lookup f=some ⟨oc,od,.func fd,osl⟩/\PySem.W.codeIn K cdv qual=true
 kp:PySem.W.keepIn K (.ref f)=true
section
variable {P : Program} {w : World} {K : PySem.W.Frag} {mg : Str -> Option Value} {base : Heap}
theorem Fun.ok {x qual:Str} {st:Stmt} {f:Addr} {fd:FuncData} {N ps:List Str} {k:Nat} {sp:Sp} (F:Fun K x qual st f fd) (S:FnScope N ps (ao st)) (len:∀vs H Q E,sp vs H Q E->vs.length=ps.length)
  (hbody:∀(cdv:Value) (A:Around) (outer:List Env) (s:Shared) (H:Hp) (vs:List V) (Q:VK) (E:XK),Room k (A.deeper (envOfC qual (ao st) s.heap.objs.size f cdv))->sp vs H Q E ->
   ∃t,PSs (my CX0 P w K mg base N qual (ao st) f cdv A outer s H E).nox (dn st) t/\t {nx:=λ_ H'=>Q .non H',rt:=Q} (start N vs) H):FnOk P w K mg base CX0 (k+1) f fd ps sp:=by
 obtain⟨oc,od,kV,doc,pm,an,cdv,ct,osl,rfl,lk,hcd⟩:=F.ex
 refine Ie lk hcd S len λA outer s H vs Q E hr hsp=>?_
 obtain⟨t,h,q⟩:=hbody cdv A outer s H vs Q E hr hsp
 exact⟨t,h.nox,q⟩
theorem Iu {x qual:Str} {st:Stmt} {f:Addr} {oc:Value} {od an:Option Addr} {osl:Array (Option Value)} {kV doc pm cdv ct:Value} (l:K.lookup f=some ⟨oc,od,.func (PySem.W.fnOf x qual (nj st) (dn st) (ao st) .none kV doc pm an cdv ct),osl⟩)
  (c:PySem.W.codeIn K cdv qual=true) (k:PySem.W.keepIn K (.ref f)=true):Fun K x qual st f (PySem.W.fnOf x qual (nj st) (dn st) (ao st) .none kV doc pm an cdv ct):=⟨⟨oc,od,kV,doc,pm,an,cdv,ct,osl,rfl,l,c⟩,k⟩
end
theorem nk {n:Nat} (h:n<=1000):n<sizeLine:=Nat.lt_of_le_of_lt h (by decide)
section
variable {X : Cx}
theorem pv (i:Nat) {x:Str} {pos:Pos} (hN:X.N[i]? = some x:=by rfl) (hv:Vis X.env.scope x:=by first | exact Or.inl rfl | exact Or.inr (Or.inl rfl) | exact Or.inr (Or.inr rfl)) (hd:(x==("__debug__":Str))=false:=by decide)
  (hcd:(x==("__classdict__":Str))=false:=by decide):PE X (.Name x pos) (Oc i):=Dy hN hv hd hcd
end
end L2
set_option maxHeartbeats 4000000
namespace L2
open PySem PySem.Spec PyProof.Rows
def Qx (h:Heap) (e:Addr) (cls:Value):Prop:=∃oe vs a0,h.get? e=some oe/\oe.cls=cls/\oe.data=.fields vs/\vs[0]? = some a0/\vs[1]? = some Value.none
def L0 (h0:Heap) (H:Hp) (h:Heap) (e:Addr) (cls:Value):Prop:=∃oe vs T oT ts a0,h.get? e=some oe/\(oe.cls=cls/\vs[0]? = some a0)/\oe.data=.fields vs/\vs[1]? = some (.ref T)/\(h0.get? T=none/\H T=none)/\T≠e/\h.get? T=some oT/\oT.data=.fields ts/\ts[3]? = some Value.none
def Ol (h0:Heap) (H:Hp) (h:Heap) (e:Addr) (cls:Value):Prop:=∃oe vs T oT ts a0 fl,h.get? e=some oe/\(oe.cls=cls/\vs[0]? = some a0)/\oe.data=.fields vs/\vs[1]? = some (.ref T)/\(h0.get? T=none/\H T=none)/\T≠e/\h.get? T=some oT/\oT.data=.fields ts/\ts[3]? = some fl
structure Fly (h0:Heap) (H:Hp) (h:Heap) (e:Addr) (cls:Value):Prop where
 new:h0.get? e=none
 free:H e=none
 st:Qx h e cls\/Ol h0 H h e cls
theorem rebase {h base base':Heap}:∀{l:List Env},h.FunFrames base l->(∀L∈frs l,base'.get? L=none)->h.FunFrames base' l
 | [],_,_=>trivial
 | env::r,⟨hk,⟨L,o,hf,hn,ho,hd⟩,hr⟩,hb=>⟨hk,⟨L,o,hf,hb L (by unfold frs;rw[CI,hf];exact AT),ho,hd⟩,rebase hr λL' h'=>hb L' (by unfold frs;rw[CI,hf];exact AR _ h')⟩
theorem fw.ex {P:Program} {w:World} {H:Hp} {h:Heap} {a:Addr} {o:HO} (x:fw P w H h a o):∃u,h.get? a=some u:=by
 cases o with
 | lst xs=>obtain⟨_,_,_,_,e⟩:=x;exact⟨_,e⟩
 | tup xs=>obtain⟨_,_,_,o,e,_⟩:=x;exact⟨_,e⟩
 | dK kvs=>obtain⟨_,_,_,_,o,_,_,e,_⟩:=x;exact⟨_,e⟩
 | dT kvs=>obtain⟨_,_,_,_,o,_,_,e,_⟩:=x;exact⟨_,e⟩
 | set S n=>obtain⟨o,_,_,_,e,_⟩:=x;exact⟨_,e⟩
 | ins C dx fs=>obtain⟨_,_,_,e,_⟩:=x;exact⟨_,e⟩
 | own y=>obtain⟨_,e⟩:=x;exact⟨_,e⟩
 | xd fs=>obtain⟨_,⟨_,_,_,e,_⟩,_⟩:=x;exact⟨_,e⟩
 | rng lo hi=>obtain⟨_,_,_,e⟩:=x;exact⟨_,e⟩
 | frz ob u=>obtain⟨e,_⟩:=x;exact⟨_,e⟩
 | tbl ps=>exact⟨_,(show h.get? a=some _ from x)⟩
 | met f y=>exact⟨_,(show h.get? a=some _ from x)⟩
 | ext φ=>obtain⟨_,⟨_,e⟩,_⟩:=x;exact⟨_,e⟩
theorem uz {M:Model} {A:Around} {E:Value->Shared->Prop} {s:Shared} {base:Heap} {env:Env} {outer:List Env} {L e:Addr} {cls a0 fl:Value} {Q:Unit->Shared->Prop}
  (hfr:A.frames=some (env::outer)) (hl:s.heap.FunFrames base (env::outer)) (hf:env.frame=some L) (ht:s.heap.TracedAtW base e cls a0 fl) (hkb:base.StaysIn s.heap) (hen:base.get? e=none)
  (h:∀h',Heap.LeftW base (env::outer) e cls a0 s.heap h'->Q () {s with heap:=h'}):wpAny M A (leaving env (.ref e)) Q E s:=by
 by_cases hfl:fl=rawInt L
 ·subst hfl
  unfold leaving
  refine AA (wpAny_noteFrame_againW hf ht ?_)
  exact wpAny_setFlight_noneW hkb hl ht λh' k1 k2 k3 k4=>h h' ⟨k1,k2,k3,λb o hb hd=>⟨o.slots,k4 b o hb hd⟩⟩
 ·obtain⟨oe,vs,T,oT,ts,t1,⟨t2,t3⟩,t4,t5,t6,t7,t8,t9,t10⟩:=ht
  subst t2
  unfold leaving noteFrame
  simp![hf]
  refine AA (AA (BO t1 t4 t5 ?_))
  rw[if_pos (show(Value.ref T != Value.none)=true from by simp)]
  refine AA (BO t8 t9 t10 ?_)
  rw[if_neg (show ¬((fl==rawInt L)=true)from by simpa using hfl)]
  refine AA (FY t8 t9 (DY.mp t10).1 ?_)
  have oth:∀b,b≠T->(s.heap.update T (Obj.mapFields (·.setIfInBounds 3 Value.none))).get? b=s.heap.get? b:=λb hb=>CW _ _ (Ne.symm hb)
  have nr:∀b o,s.heap.get? b=some o->(∀vs,o.data≠.fields vs)->b≠T:=λb o hb hnf q=>by
   rw[q,t8]at hb;cases hb;exact hnf ts t9
  refine wpAny_newEntryW hfr (hl.of_keeps λb o hb hnf=>⟨o,(oth b (nr b o hb hnf)).trans hb,rfl⟩) hf ((oth e (Ne.symm t7)).trans t1)
   (λb o hbo=>(oth b λq=>by rw[q,t6]at hbo;cases hbo).trans (hkb b o hbo)) hen t4 (DY.mp t5).1 t3 λh' k=>h h' ?_
  exact⟨k.1,k.2.1,k.2.2.1,λb o hb hnf=>k.2.2.2 b o ((oth b (nr b o hb hnf)).trans hb) hnf⟩
section
variable {X : Cx} {pins : List (Addr × Obj)} {σ : St} {H : Hp} {s : Shared} {e : Addr} {cls : Value}
theorem B7 {M:Model} {A:Around} {E:Value->Shared->Prop} {Q:Unit->Shared->Prop} (I:Inv X pins σ H s) (hs:X.stack=X.env::X.outer) (hx:X.ex=[]) (hl:X.env.frame=some X.env.locals) (F:Fly X.s₀.heap H s.heap e cls) (hA:A.frames=some X.stack)
  (q:∀(h':Heap) (Tl:List Addr),(∀T∈Tl,X.s₀.heap.get? T=none/\H T=none)->(∀b o,s.heap.get? b=some o->b≠e->b∉Tl->b∉frs X.stack->h'.get? b=some o) ->
   (∀b o,s.heap.get? b=some o->b∈frs X.stack->∃sl,h'.get? b=some {o with slots:=sl})->L0 X.s₀.heap H h' e cls->Q () {s with heap:=h'}):wpAny M A (leaving X.env (.ref e)) Q E s:=by
 have fin:∀(Tl:List Addr) (a0:Value) (h':Heap),(∀T∈Tl,X.s₀.heap.get? T=none/\H T=none)->(PySem.W.hideAll s.heap (e::Tl++frs X.stack)).LeftW (X.env::X.outer) e cls a0 s.heap h'->Q () {s with heap:=h'}:=by
  rintro Tl a0 h' hT ⟨stay,ff,tr,sl⟩
  refine q h' Tl hT (λb o hb h1 h2 h3=>stay b o (CH _ hb ?_)) (λb o hb h3=>?_) ?_
  ·simp![GQ,AJ,CT,not_or]
   exact⟨h1,h2,h3⟩
  ·obtain⟨_,o',ho',hd'⟩:=I.stack.mem h3
   rw[hb]at ho';cases ho'
   exact sl b o hb hd'
  ·obtain⟨oe,vs,T,oT,ts,t1,t2,t3,t4,t5,t6,t7,t8,t9⟩:=tr
   refine⟨oe,vs,T,oT,ts,a0,t1,t2,t3,t4,?_,t6,t7,t8,t9⟩
   cases es:s.heap.get? T with
   | none =>
    refine⟨?_,?_⟩
    ·cases e0:X.s₀.heap.get? T with
     | none=>rfl
     | some o =>
      obtain⟨o',e1⟩:=I.base.there T o e0 (by rw[hx];simp)
      rw[es]at e1;cases e1
    ·cases e0:H T with
     | none=>rfl
     | some u =>
      obtain⟨o',e1⟩:=(I.hok T u e0).ex
      rw[es]at e1;cases e1
   | some o =>
    by_cases hm:T∈e::Tl++frs X.stack
    ·simp![GQ,AJ,CT]at hm
     rcases hm with z | z | z
     ·exact absurd z t6
     ·exact hT T z
     ·rw[hs]at z
      obtain⟨_,o',ho',hd'⟩:=ff.mem z
      rw[t7]at ho';cases ho'
      exact absurd t8 (hd' ts)
    ·rw[CH _ es hm]at t5;cases t5
 have hfr:∀(Tl:List Addr),s.heap.FunFrames (PySem.W.hideAll s.heap (e::Tl++frs X.stack)) (X.env::X.outer):=λTl=>by
  have:=I.stack
  rw[hs]at this
  exact rebase this λL hL=>BR _ (AS _ (by rw[hs];exact hL))
 rw[hs]at hA
 rcases F.st with⟨oe,vs,a0,t1,t2,t3,t4,t5⟩ | ⟨oe,vs,T,oT,ts,a0,fl,t1,t2,t3,t4,t5,t6,t7,t8,t9⟩
 ·subst t2
  exact wpAny_leaving_firstW hA (hfr []) hl t1 (λb o h=>CZ _ h) (BR _ (by simp)) t3 t5 t4 λh' LW=>fin [] a0 h' (by simp) LW
 ·refine uz hA (hfr [T]) hl (fl:=fl) ⟨oe,vs,T,oT,ts,t1,t2,t3,t4,BR _ (by simp),t6,t7,t8,t9⟩ (λb o h=>CZ _ h) (BR _ (by simp)) λh' LW=>fin [T] a0 h' (λT' hT'=>?_) LW
  rw[BZ.mp hT']
  exact t5
theorem qi {h':Heap} {Tl:List Addr} (I:Inv X pins σ H s) (he:H e=none) (hT:∀T∈Tl,H T=none) (k:∀b o,s.heap.get? b=some o->b≠e->b∉Tl->b∉frs X.stack->h'.get? b=some o):HOk X.prog X.w H h':=λa o ha=>by
 have ne:∀b u,H b=some u->b≠e/\b∉Tl/\b∉frs X.stack:=λb u hb=>⟨λz=>(by rw[z,he]at hb;cases hb),λz=>(by rw[hT b z]at hb;cases hb),λz=>(by rw[I.stkFree b z]at hb;cases hb)⟩
 refine(I.hok a o ha).stay (λb u hb q=>?_) (λ_ q=>q) λ_ _ q=>q
 rcases hb with rfl | hb
 ·exact k b u q (ne b _ ha).1 (ne b _ ha).2.1 (ne b _ ha).2.2
 ·exact k b u q (ne b _ hb).1 (ne b _ hb).2.1 (ne b _ hb).2.2
end
def CX1 (P:Program) (w:World):CXT:=λouter H s E e' s'=>∃e cls H',e'=Value.ref e/\s'.os=s.os/\AllBare s'.gens/\Un (frs outer) [] H H' s.heap s'.heap/\HOk P w H' s'.heap/\s.heap.get? e=none/\H' e=none/\L0 s.heap H' s'.heap e cls/\E cls none H'
def pe (X:Cx) (EX:Value->Hp->Prop):Prop:=∀(pins:List (Addr×Obj)) (σ:St) (H:Hp) (s:Shared) (e:Addr) (cls:Value),Inv X pins σ H s->Fly X.s₀.heap H s.heap e cls->EX cls H->X.xe (.ref e) s
theorem B8 {P:Program} {w:World} {K:PySem.W.Frag} {mg:Str->Option Value} {base:Heap} {N:List Str} {qual:Str} {scope:Scope} {f:Addr} {cd:Value} {A:Around} {outer:List Env} {s0:Shared} {H0:Hp} {E:XK} :
  pe (my (CX1 P w) P w K mg base N qual scope f cd A outer s0 H0 E) λcls H'=>E cls none H':=by
 intro pins σ H s e cls I F q
 show wpAny _ _ (leaving _ (.ref e)) _ _ s
 refine B7 I rfl rfl rfl F I.ok.frames λh' Tl hT k1 k2 ft=>⟨e,cls,H,rfl,I.os,I.bare,?_,qi I F.free (λT h=>(hT T h).2) k1,F.new,F.free,ft,q⟩
 have nL:∀b o,s0.heap.get? b=some o->b≠s0.heap.objs.size:=λb o h=>AM (AH h)
 have stk:∀b,b∈frs (envOfC qual scope s0.heap.objs.size f cd::outer)->b=s0.heap.objs.size\/b∈frs outer:=λb hb=>by
  unfold frs at hb
  rw[CI]at hb
  exact AJ.mp hb
 have keep:∀b o o',s0.heap.get? b=some o->b∉frs outer->s.heap.get? b=some o'->h'.get? b=some o':=λb o o' h0 hb h1=>by
  refine k1 b o' h1 (λz=>?_) (λz=>?_) λz=>?_
  ·have hn:s0.heap.get? e=none:=F.new
   rw[z,hn]at h0;cases h0
  ·have hn:s0.heap.get? b=none:=(hT b z).1
   rw[hn]at h0;cases h0
  ·rcases stk b z with z | z
   ·exact nL b o h0 z
   ·exact hb z
 have up:∀b,b∈frs outer->b∈frs (my (CX1 P w) P w K mg base N qual scope f cd A outer s0 H0 E).stack:=λb hb=>by
  show b∈frs (_::outer)
  unfold frs
  rw[CI]
  exact AR _ hb
 refine⟨λb o h n hb hx=>keep b o o h hb (I.base.keep b o h n hb hx),λb o h n hb hx=>?_,I.base.free,λb o h hx=>?_,I.base.tups,I.base.frzs,I.base.tbls⟩
 ·obtain⟨sl,e1⟩:=I.base.slot b o h n hb hx
  obtain⟨sl',e2⟩:=k2 b _ e1 (up b hb)
  exact⟨sl',e2⟩
 ·obtain⟨o',e1⟩:=I.base.there b o h hx
  by_cases hb:b∈frs outer
  ·obtain⟨sl',e2⟩:=k2 b _ e1 (up b hb)
   exact⟨_,e2⟩
  ·exact⟨o',keep b o o' h hb e1⟩
abbrev B9:String:="ValueError.__new__"
abbrev Ca:List Value:=[.type "ValueError",.type "Exception",.type "BaseException",.type "object"]
def L3 (h:Heap) (C:Addr) (N:Addr) (bm:List Value) (o:Obj):Prop :=
 ∃nm q bs hdct sn sub ab col dd k0 k1 k2 k3 k5,o=excClassObj nm q C N bs bm hdct sn sub ab col dd k0 k1 k2 k3 k5 B9/\h.get? C=some o/\OwnTail h Ca bm/\∃mN,h.Ns N mN/\mN "__init__"=none
theorem u0 {K:PySem.W.Frag} {h:Heap} {C:Addr} (k:K.In h) (q:PySem.W.excIn K C Ca B9=true):∃N bm o,L3 h C N bm o:=by
 unfold PySem.W.excIn at q
 split at q
 ·next dd cd sl ho =>
  split at q
  ·next C1 bm k0 k1 k2 k3 n k5 hm hs =>
   simp![AW,beq_iff_eq,Bool.not_eq_true']at q
   obtain⟨⟨⟨⟨⟨e1,e2⟩,e3⟩,e4⟩,e5⟩,e6⟩:=q
   subst e1;subst e2
   obtain⟨l⟩:=sl
   obtain⟨nm,bs,mro,ns,qn,hd,sn,sub,ab,col,del⟩:=cd
   dsimp only at hm e3 e5 e6 hs
   subst hm;subst e3;subst hs
   exact⟨ns,bm,_,nm,qn,bs,hd,sn,sub,ab,col,dd,k0,k1,k2,k3,k5,rfl,k _ _ ho,PySem.W.tail_of_in k e4,_,.of_isNs (PySem.W.isNs_of_in k e5),PySem.W.nsMap_none_of_in k e5 e6⟩
  ·cases q
 ·cases q
section
variable {X : Cx} {pins : List (Addr × Obj)} {σ : St} {H H' : Hp} {s : Shared} {e : Addr} {cls : Value}
theorem Inv.old (I:Inv X pins σ H s) (hx:X.ex=[]) {b:Addr} (n:s.heap.get? b=none):X.s₀.heap.get? b=none:=by
 cases e0:X.s₀.heap.get? b with
 | none=>rfl
 | some o =>
  obtain⟨o',e1⟩:=I.base.there b o e0 (by rw[hx];simp)
  rw[n]at e1;cases e1
theorem HOk.none {P:Program} {w:World} {h:Heap} {b:Addr} (k:HOk P w H h) (n:h.get? b=none):H b=none:=by
 cases e0:H b with
 | none=>rfl
 | some u =>
  obtain⟨o',e1⟩:=(k b u e0).ex
  rw[n]at e1;cases e1
theorem Cb {EX:Value->Hp->Prop} {x:Str} {C:Addr} {a:Expr} {es:List Expr} {ta:TA} {np cpos pos:Pos} (W:pe X EX) (hx:X.ex=[]) (hc:X.calm=true) (hq:PySem.W.excIn X.K C Ca B9=true) (hg:Gl X x) (hm:X.mg x=some (.ref C))
  (ha:PA X (a::es) ta) (hdb:(x==("__debug__":Str))=false:=by decide) (he:starEach (a::es) X.env=(false,eval a X.env)::starEach es X.env:=by rfl) (hpl:(backTo cpos (starEach es X.env)).any (·.1)=false:=by rfl) :
  PS X (.Raise (some (.Call (.Name x np) (a::es) [] cpos)) none pos) (λ_ σ H=>ta σ H λvs H1=>vs.length<=sizeLine/\EX (.ref C) H1):=by
 intro pins s σ H D I h
 obtain⟨N,bm,o,nm,q,bs,hdct,sn,sub,ab,col,dd,k0,k1,k2,k3,k5,ho,hC,T,mN,hN,hni⟩:=u0 I.mod.kin hq
 subst ho
 have hpl':(backTo cpos (starEach (a::es) X.env)).any (·.1)=false:=by
  rw[he]
  show(false || (backTo cpos (starEach es X.env)).any (·.1))=false
  rw[hpl];rfl
 refine wpAny_Raise_call_subT (C:=C) (nm:=nm) (q:=q) (N:=N) (bs:=bs) (bm:=bm) (hdct:=hdct) (sn:=sn) (sub:=sub) (ab:=ab) (col:=col) (dd:=dd) (k0:=k0) (k1:=k1) (k2:=k2) (k3:=k3) (k5:=k5) FC (mN:=mN)
  (T.hasType FC.hasBase) (I.ok.hd hc) hpl' hni (kx I hg hm ⟨rfl,?_⟩ hdb)
 have ga:=ha cpos pins s σ H _ I h
 rw[he]at ga ⊢
 refine HG (thn ga λus s1 ⟨vs,H1,I1,r,hv,hE⟩=>⟨rfl,by rw[<-r.length];exact hv,I1.bk _ _ hC,hN.keeps I1.bk,T.keeps I1.bk,λh' e mk=>?_⟩)
 have I2:Inv X pins σ H1 {s1 with heap:=h'}:=I1.kept (t':=s1.toks) mk.keeps
 obtain⟨t,t1,_,_⟩:=mk.there
 exact W pins σ H1 _ e (.ref C) I2 ⟨I1.old hx mk.new,I1.hok.none mk.new,.inl ⟨_,_,_,t1,rfl,rfl,rfl,rfl⟩⟩ hE
structure Fl (X:Cx) (H0:Hp) (s0:Shared) (H':Hp) (e:Addr) (cls:Value) (s:Shared):Prop where
 os:s.os=s0.os
 bare:AllBare s.gens
 un:Un (frs X.stack) [] H0 H' s0.heap s.heap
 hok:HOk X.prog X.w H' s.heap
 new:s0.heap.get? e=none
 free:H' e=none
 fly:L0 s0.heap H' s.heap e cls
theorem L4 {E:XK} {ev:Value} {s0:Shared} (h:CX1 X.prog X.w X.stack H s0 E ev s):∃e cls H',ev=.ref e/\Fl X H s0 H' e cls s/\E cls none H':=by
 obtain⟨e,cls,H',a1,a2,a3,a4,a5,a6,a7,a8,a9⟩:=h
 exact⟨e,cls,H',a1,⟨a2,a3,a4,a5,a6,a7,a8⟩,a9⟩
section
variable {H0 : Hp} {s0 : Shared}
theorem Fl.inv (I:Inv X pins σ H0 s0) (F:Fl X H0 s0 H' e cls s):Inv X pins σ H' s:=I.call' F.os F.un F.hok F.bare (ch:=[]) (λ_ z=>absurd z (by simp))
theorem Fl.flying (I:Inv X pins σ H0 s0) (hx:X.ex=[]) (F:Fl X H0 s0 H' e cls s):Fly X.s₀.heap H' s.heap e cls:=by
 obtain⟨oe,vs,T,oT,ts,a0,t1,t2,t3,t4,t5,t6⟩:=F.fly
 exact⟨I.old hx F.new,F.free,.inr ⟨oe,vs,T,oT,ts,a0,_,t1,t2,t3,t4,⟨I.old hx t5.1,t5.2⟩,t6⟩⟩
theorem Fl.next {h':Heap} {a0:Value} {T:Addr} (I:Inv X pins σ H0 s0) (F:Fl X H0 s0 H' e cls s) (hT0:s0.heap.get? T=none) (hT1:H' T=none) (st:(PySem.W.hideAll s.heap (e::T::frs X.stack)).StaysIn h')
  (ff:h'.FunFrames (PySem.W.hideAll s.heap (e::T::frs X.stack)) X.stack) (tr:h'.TracedW (PySem.W.hideAll s.heap (e::T::frs X.stack)) e cls a0) (up:s.heap.UpToSlots h'):Fl X H0 s0 H' e cls {s with heap:=h'}:=by
 have k1:∀b o,s.heap.get? b=some o->b≠e->b∉[T]->b∉frs X.stack->h'.get? b=some o:=λb o hb h1 h2 h3=>st b o (CH _ hb (by
  simp![AJ,not_or]
  exact⟨h1,by simpa using h2,h3⟩))
 have J:=F.inv I
 have k2:∀b o,s.heap.get? b=some o->b∈frs X.stack->∃sl,h'.get? b=some {o with slots:=sl}:=λb o hb h3=>by
  obtain⟨_,o',ho',hd'⟩:=J.stack.mem h3
  rw[hb]at ho';cases ho'
  exact up b o hb hd'
 have ne:∀b o,s0.heap.get? b=some o->b≠e/\b∉[T]:=λb o hb=>⟨λz=>(by rw[z,F.new]at hb;cases hb),λz=>(by rw[BZ.mp z,hT0]at hb;cases hb)⟩
 refine⟨F.os,F.bare,⟨λb o hb n hn hx=>?_,λb o hb n hn hx=>?_,F.un.free,λb o hb hx=>?_,F.un.tups,F.un.frzs,F.un.tbls⟩,?_,F.new,F.free,?_⟩
 ·exact k1 b o (F.un.keep b o hb n hn hx) (ne b o hb).1 (ne b o hb).2 hn
 ·obtain⟨sl,e1⟩:=F.un.slot b o hb n hn hx
  obtain⟨sl',e2⟩:=k2 b _ e1 hn
  exact⟨sl',e2⟩
 ·obtain⟨o',e1⟩:=F.un.there b o hb hx
  by_cases hn:b∈frs X.stack
  ·obtain⟨sl',e2⟩:=k2 b _ e1 hn
   exact⟨_,e2⟩
  ·exact⟨o',k1 b o' e1 (ne b o hb).1 (ne b o hb).2 hn⟩
 ·exact qi J F.free (λb hb=>by rw[BZ.mp hb];exact hT1) k1
 ·obtain⟨oe,vs,T',oT,ts,t1,t2,t3,t4,t5,t6,t7,t8,t9⟩:=tr
  refine⟨oe,vs,T',oT,ts,a0,t1,t2,t3,t4,?_,t6,t7,t8,t9⟩
  cases es:s.heap.get? T' with
  | none =>
   refine⟨?_,F.hok.none es⟩
   cases e0:s0.heap.get? T' with
   | none=>rfl
   | some o =>
    obtain⟨o',e1⟩:=F.un.there T' o e0 (by simp)
    rw[es]at e1;cases e1
  | some o =>
   by_cases hm:T'∈e::T::frs X.stack
   ·simp![AJ]at hm
    rcases hm with z | z | z
    ·exact absurd z t6
    ·subst z;exact⟨hT0,hT1⟩
    ·obtain⟨_,o',ho',hd'⟩:=ff.mem z
     rw[t7]at ho';cases ho'
     exact absurd t8 (hd' ts)
   ·rw[CH _ es hm]at t5;cases t5
theorem Fl.frm (I:Inv X pins σ H0 s0) (F:Fl X H0 s0 H' e cls s) {T:Addr}:s.heap.FunFrames (PySem.W.hideAll s.heap (e::T::frs X.stack)) X.stack :=
 rebase (F.inv I).stack λL hL=>BR _ (by simp[hL])
theorem Fl.note {M:Model} {A:Around} {E:Value->Shared->Prop} {Q:Shared->Prop} (I:Inv X pins σ H0 s0) (F:Fl X H0 s0 H' e cls s) (hs:X.stack=X.env::X.outer) (hl:X.env.frame=some X.env.locals) (hA:A.frames=some X.stack)
  (q:∀h',Fl X H0 s0 H' e cls {s with heap:=h'}->Q {s with heap:=h'}):wpAny M A (noteFrame (.ref e) X.env) (λ_ s2=>wpAny M A (setFlight (.ref e) none) (λ_ s3=>Q s3) E s2) E s:=by
 obtain⟨oe,vs,T,oT,ts,a0,t1,t2,t3,t4,t5,t6,t7,t8,t9⟩:=F.fly
 rw[hs]at hA
 have B:=F.frm I (T:=T)
 have hn:∀b,b=e\/b=T->(PySem.W.hideAll s.heap (e::T::frs X.stack)).get? b=none:=λb z=>BR _ (by rcases z with z | z<;>simp[z])
 refine wpAny_looks_onW (base:=PySem.W.hideAll s.heap (e::T::frs X.stack)) (cls:=cls) (a0:=a0) hA hl ⟨λb o h=>CZ _ h,hn e (.inl rfl),by rw[<-hs];exact B,oe,vs,T,oT,ts,t1,t2,t3,t4,hn T (.inr rfl),t6,t7,t8,t9⟩ λh1 g1 u1=>?_
 refine wpAny_landsW g1 λh2 g2 u2=>?_
 obtain⟨f1,f2,f3,f4⟩:=g2
 rw[<-hs]at f3
 exact q h2 (F.next I t5.1 t5.2 f1 f3 f4 (u1.trans u2))
theorem Fl.set {M:Model} {A:Around} {E:Value->Shared->Prop} {Q:Shared->Prop} (I:Inv X pins σ H0 s0) (F:Fl X H0 s0 H' e cls s)
  (q:∀h',Fl X H0 s0 H' e cls {s with heap:=h'}->Q {s with heap:=h'}):wpAny M A (setFlight (.ref e) none) (λ_ s3=>Q s3) E s:=by
 obtain⟨oe,vs,T,oT,ts,a0,t1,t2,t3,t4,t5,t6,t7,t8,t9⟩:=F.fly
 have hn:∀b,b=e\/b=T->(PySem.W.hideAll s.heap (e::T::frs X.stack)).get? b=none:=λb z=>BR _ (by rcases z with z | z<;>simp[z])
 exact wpAny_setFlight_noneW (base:=PySem.W.hideAll s.heap (e::T::frs X.stack)) (l:=X.stack) (cls:=cls) (a0:=a0) (λb o h=>CZ _ h) (F.frm I) ⟨oe,vs,T,oT,ts,t1,t2,t3,t4,hn T (.inr rfl),t6,t7,t8,t9⟩
  λh' k1 k2 k3 k4=>q h' (F.next I t5.1 t5.2 k1 k2 k3 λb o hb hd=>⟨o.slots,k4 b o hb hd⟩)
def Kr (e:Addr) (cls:Value):HO:=.ext λh=>∃o vs,h.get? e=some o/\o.cls=cls/\o.data=.fields vs
theorem Fl.track (I:Inv X pins σ H0 s0) (F:Fl X H0 s0 H' e cls s):Inv X pins σ (upd H' e (Kr e cls)) s:=by
 obtain⟨oe,vs,T,oT,ts,a0,t1,t2,t3,_⟩:=F.fly
 have ne:∀b o,s0.heap.get? b=some o->b≠e:=λb o hb z=>by rw[z,F.new]at hb;cases hb
 refine I.call' F.os ⟨F.un.keep,F.un.slot,λb o hb n hx=>?_,F.un.there,λb xs hb=>?_,λb o u hb=>?_,λb ps hb=>?_⟩ (λb u hb=>?_) F.bare (ch:=[]) (λ_ z=>absurd z (by simp))
 ·rw[aw (ne b o hb)];exact F.un.free b o hb n hx
 ·rw[aw (ax (F.un.tups b xs hb) F.free)];exact F.un.tups b xs hb
 ·rw[aw (ax (F.un.frzs b o u hb) F.free)];exact F.un.frzs b o u hb
 ·obtain⟨m,hm⟩:=F.un.tbls b ps hb
  exact⟨m,by rw[aw (ax hm F.free)];exact hm⟩
 ·by_cases z:b=e
  ·subst z
   rw[br]at hb;cases hb
   exact⟨⟨oe,vs,t1,t2.1,t3⟩,⟨oe,t1⟩,λh1 h2 ⟨o,vs,e1,r⟩ k=>⟨o,vs,k o e1,r⟩⟩
  ·rw[aw z]at hb
   exact(F.hok b u hb).stay (λc v _ q=>q) (λc q=>by rw[aw (ax q F.free)];exact q) λc xs q=>by rw[aw (ax q F.free)];exact q
end
theorem Fg {M:Model} {A:Around} {E:Value->Shared->Prop} {i:Nat} {x:Str} {Q:Unit->Shared->Prop} {pos:Pos} (I:Inv X pins σ H s) (hN:X.N.Nodup) (hi:X.N[i]? = some x) (hk:X.env.scope.names.lookup x=some .local)
  (h:∀s',Inv X pins (σ.set i none) H s'->Q () s'):wpAny M A (do bindName X.env x .none;unbindBehindTheSuite X.env x pos) Q E s:=by
 obtain⟨m,hn,hl⟩:=id I.loc
 have hcls:(X.env.scope.kind==.class || (X.env.scope.kind==.module&&X.env.locals != X.env.globals))=false:=by rw[I.ok.kind];rfl
 have hiσ:i<σ.length:=by rw[I.len];exact(AF.mp hi).1
 obtain⟨oL,_,_,hoL,_⟩:=id hn
 refine wpAny_nameGoes_keeps hk hn hcls λh' v hn' hs=>?_
 have far:∀b o,X.s₀.heap.get? b=some o->b≠X.env.locals:=λb o e=>AM (AL (AH e) I.ok.above)
 refine h _ ⟨I.ok,I.os,I.bare,⟨λb o e n hb hx=>(hs.2 b (far b o e)).trans (I.base.keep b o e n hb hx),λb o e n hb hx=>?_,I.base.free,λb o e hx=>?_,I.base.tups,I.base.frzs,I.base.tbls⟩,⟨_,hn',λj y v' e1 e2 e3=>?_⟩,λy c e=>?_,I.free,I.freeC,λp hp=>?_,λb ob e=>?_,by simpa using I.len⟩
 ·obtain⟨sl,e1⟩:=I.base.slot b o e n hb hx
  exact⟨sl,(hs.2 b (far b o e)).trans e1⟩
 ·obtain⟨o',e1⟩:=I.base.there b o e hx
  exact⟨o',(hs.2 b (far b o e)).trans e1⟩
 ·by_cases hj:j=i
  ·subst hj
   rw[AZ hiσ]at e2
   cases e2
  ·rw[BB (Ne.symm hj)]at e2
   obtain⟨u',r',q⟩:=hl j y v' e1 e2 e3
   refine⟨u',r',?_⟩
   rcases q with⟨k,e⟩ | ⟨k,c,e,z⟩
   ·have ny:y≠x:=λe=>hj (qd hN e1 (e ▸ hi))
    exact .inl ⟨k,by simp[ny,e]⟩
   ·exact .inr ⟨k,c,e,z.sameBut hs (I.cne y c e)⟩
 ·obtain⟨w',z⟩:=I.cell y c e
  exact⟨w',z.sameBut hs (I.cne y c e)⟩
 ·obtain⟨e,n,ne,nf,d⟩:=I.pin p hp
  exact⟨(hs.2 p.1 ne).trans e,n,ne,nf,d⟩
 ·refine(I.hok b ob e).stay (λc w' hc q=>(hs.2 c ?_).trans q) (λ_ q=>q) λ_ _ q=>q
  rintro rfl
  rcases hc with z | hc
  ·rw[<-z,I.free]at e;cases e
  ·rw[I.free]at hc;cases hc
abbrev Cx.mark (X:Cx) (e:Value):Cx:={X with A:=X.A.mark (some e),calm:=false,xe:=λ_ _=>False}
theorem Inv.mark (I:Inv X pins σ H s) (e:Value):Inv (X.mark e) pins σ H s :=
 ⟨⟨I.ok.mod,I.ok.kind,I.ok.glob,I.ok.blt,I.ok.above,I.ok.inj,I.ok.has,I.ok.cab,λz=>(by cases z),I.ok.frames,I.ok.stk,I.ok.exf,I.ok.bs,I.ok.bsz,I.ok.noex,I.ok.exfs,I.ok.funs,I.ok.frf⟩,I.os,I.bare,I.base,I.loc,I.cell,I.free,I.freeC,I.pin,I.hok,I.len⟩
theorem Inv.unmark {e:Value} (k:X.Ok) (I:Inv (X.mark e) pins σ H s):Inv X pins σ H s:=⟨k,I.os,I.bare,I.base,I.loc,I.cell,I.free,I.freeC,I.pin,I.hok,I.len⟩
section
variable {k : Nat} {f : Addr} {fd : FuncData} {ps : List Str} {sp : Sp} {E : XK} {x : Str} {a : Expr} {es : List Expr} {ta : TA} {p cpos pos : Pos}
theorem Fh {Q:VK} (F:FnOk X.prog X.w X.K X.mg X.base (CX1 X.prog X.w) k f fd ps sp) (hr:Room k X.A) (hg:Gl X x) (hm:X.mg x=some (.ref f)) (hk:PySem.W.keepIn X.K (.ref f)=true) (hb:Binds X.K fd ps [])
  (ha:PA X.nox (a::es) ta) (hdb:(x==("__debug__":Str))=false) (he:starEach (a::es) X.env=(false,eval a X.env)::starEach es X.env) (hpl:(backTo cpos (starEach es X.env)).any (·.1)=false)
  (I:Inv X pins σ H s) (h:ta σ H λvs H1=>sp vs H1 Q E) :
  wpAny (model X.prog X.w) X.A (eval (.Call (.Name x p) (a::es) [] cpos) X.env) (EP X pins σ Q) (λev s'=>∃H1 s1 e cls H',Inv X pins σ H1 s1/\ev=.ref e/\Fl X H1 s1 H' e cls s'/\E cls none H') s:=by
 refine CL (kx I hg hm ?_ hdb)
 refine FT (h₀:=X.base) I.ok.mod.kin hk (BI (ha cpos pins s σ H _ (I.wish _) h) (λus s1 ⟨vs,H1,I1,r,q⟩=>⟨I1.kIn,?_⟩) λ_ _ z=>False.elim z) he hpl
 have J:=I1.unwish
 have hl:us.length=ps.length:=by rw[<-r.length];exact F.len _ _ _ _ q
 have hb':=hb s1 us I1.kIn (by rw[BD];exact hl)
 rw[BD]at hb'
 refine wpAny_call (FM (F.run X.A X.stack s1 H1 ⟨us,[]⟩ us vs Q E hr J.env0 hb' r q) λr s' hq=>?_)
 cases r with
 | error ev =>
  obtain⟨e,cls,H',z1,z2,z3⟩:=L4 hq
  exact⟨H1,s1,e,cls,H',J,z1,z2,z3⟩
 | ok fl =>
  cases fl with
  | ret u=>exact J.after hq
  | next=>exact False.elim hq
  | brk=>exact False.elim hq
  | cont=>exact False.elim hq
theorem Cc {EX:Value->Hp->Prop} (W:pe X EX) (hx:X.ex=[]) (F:FnOk X.prog X.w X.K X.mg X.base (CX1 X.prog X.w) k f fd ps sp) (hr:Room k X.A) (hg:Gl X x) (hm:X.mg x=some (.ref f)) (hk:PySem.W.keepIn X.K (.ref f)=true) (hb:Binds X.K fd ps [])
  (ha:PA X.nox (a::es) ta) (hdb:(x==("__debug__":Str))=false:=by decide) (he:starEach (a::es) X.env=(false,eval a X.env)::starEach es X.env:=by rfl) (hpl:(backTo cpos (starEach es X.env)).any (·.1)=false:=by rfl)
  (hs:swapsWith (.Call (.Name x p) (a::es) [] cpos) none pos.line X.env=pure false:=by rfl) :
  PS X (.Expr (.Call (.Name x p) (a::es) [] cpos) pos) (λD σ H=>ta σ H λvs H1=>sp vs H1 (λ_ H2=>D.nx σ H2) λcls _ H2=>EX cls H2):=by
 intro pins s σ H D I h
 exact wpAny_Expr_any (BI (Fh F hr hg hm hk hb ha hdb he hpl I h) (λv s1 ⟨y,H1,I1,r1,q1⟩=>⟨σ,H1,I1,q1⟩) λev s' ⟨H1,s1,e,cls,H',J,z1,z2,z3⟩=>by
  subst z1
  exact W pins σ H' s' e cls (z2.inv J) (z2.flying J hx) z3) I.quiet hs
end
end
theorem Fi {K:PySem.W.Frag} {h:Heap} {C:Addr} {o:Obj} {cd:ClassData} {base:Value} (k:K.In h) (e:PySem.W.subIn K (.ref C) base=some true) (hC:h.get? C=some o) (hd:o.data=.cls cd):cd.mro.contains base=true:=by
 have e:PySem.W.mroIn K C base=some true:=e
 unfold PySem.W.mroIn PySem.W.clsIn at e
 split at e
 ·next ho =>
  have z:=k _ _ ho
  rw[hC]at z
  cases z
  cases hd
  have e2:¬cd.mro=[]/\base∈cd.mro:=by simpa using e
  simpa using e2.2
 ·simp at e
theorem Ad {M:Model} {A:Around} {E:Value->Shared->Prop} {s:Shared} {e C L:Addr} {oe:Obj} {NC NL:Addr} {bC bL:List Value} {oC oL:Obj} {Q:Bool->Shared->Prop} (hC:L3 s.heap C NC bC oC) (hL:L3 s.heap L NL bL oL) (hm:(Value.ref C::bC).contains (.ref L)=true)
  (he:s.heap.get? e=some oe) (hcls:oe.cls=.ref C) (hq:Q true s):wpAny M A (excMatches (.ref e) (.ref L)) Q E s:=by
 obtain⟨h,g,d,t,os⟩:=s
 obtain⟨nm,q,bs,hdct,sn,sub,ab,col,dd,k0,k1,k2,k3,k5,ho,hCo,_⟩:=hC
 obtain⟨nm',q',bs',hdct',sn',sub',ab',col',dd',k0',k1',k2',k3',k5',ho',hLo,T,_⟩:=hL
 subst ho;subst ho'
 have hB:(Value.ref L::bL).contains (.type "BaseException")=true:=by rw[List.contains_cons,T.hasType FC.hasBase,Bool.or_true]
 have f:=tc_notTuple
 unfold excMatches
 repeat (first | (with_reducible refine CQ he ?_;rw[hcls]) | with_reducible refine CQ hLo ?_ | (with_reducible refine wpAny_isSubtype_exc hLo ?_;rw[hB]) | (with_reducible refine wpAny_isSubtype_exc hCo ?_;rw[hm]) | wp_step)
 exact hq
section
variable {X : Cx} {k : Nat} {f L : Addr} {fd : FuncData} {ps : List Str} {sp : Sp} {x y n : Str} {a : Expr} {es : List Expr} {ta : TA} {p cpos epos yp hp pos : Pos} {ni : Nat} {b0 : Stmt} {body : List Stmt} {tb : TS}
def Under (K:PySem.W.Frag) (C L:Addr):Prop:=PySem.W.excIn K C Ca B9=true/\PySem.W.excIn K L Ca B9=true/\PySem.W.subIn K (.ref C) (.ref L)=some true
theorem Fj (hst:X.stack=X.env::X.outer) (hfr:X.env.frame=some X.env.locals) (F:FnOk X.prog X.w X.K X.mg X.base (CX1 X.prog X.w) k f fd ps sp) (hr:Room k X.A) (hg:Gl X x) (hm:X.mg x=some (.ref f)) (hk:PySem.W.keepIn X.K (.ref f)=true) (hb:Binds X.K fd ps [])
  (ha:PA X.nox (a::es) ta) (hgy:Gl X y) (hmy:X.mg y=some (.ref L)) (hN:X.N.Nodup) (hni:X.N[ni]? = some n) (hkn:X.env.scope.names.lookup n=some .local) (hbody:∀e,PSs (X.mark e) (b0::body) tb)
  (hdb:(x==("__debug__":Str))=false:=by decide) (he:starEach (a::es) X.env=(false,eval a X.env)::starEach es X.env:=by rfl) (hpl:(backTo cpos (starEach es X.env)).any (·.1)=false:=by rfl)
  (hs:swapsWith (.Call (.Name x p) (a::es) [] cpos) none epos.line X.env=pure false:=by rfl) (hdy:(y==("__debug__":Str))=false:=by decide) :
  PS X (.Try [.Expr (.Call (.Name x p) (a::es) [] cpos) epos] [.ExceptHandler (some (.Name y yp)) (some n) (b0::body) hp] [] [] pos)
   (λD σ H=>ta σ H λvs H1=>sp vs H1 (λ_ H2=>D.nx σ H2) λcls _ H2=>(∃C,cls=.ref C/\Under X.K C L) /\
    ∀e,H2 e=none->tb {nx:=λσ' H'=>D.nx (σ'.set ni none) H',rt:=λ_ _=>False} (σ.set ni (some (.ref e))) (upd H2 e (Kr e cls))):=by
 intro pins s σ H D I h
 refine wpAny_Try_except ?_
 refine wpAny_execs_cons (wpAny_Expr_any (BI (Fh F hr hg hm hk hb ha hdb he hpl I h) (λv s1 ⟨y,H1,I1,r1,q1⟩=>FE (FE ⟨σ,H1,I1,q1⟩)) λev s' ⟨H1,s1,e,cls,H',J,z1,z2,z3⟩=>?_) I.quiet hs)
 subst z1
 obtain⟨⟨C,rfl,hC,hL,hCL⟩,q⟩:=z3
 refine z2.note J hst hfr I.ok.frames λh1 F1=>?_
 have J1:=F1.inv J
 refine wpAny_handleBy_cons (codeAny_handlers_test (kx (X:=X.mark (.ref e)) (J1.mark (.ref e)) hgy hmy ?_ hdy)) (by intro q;cases q)
 obtain⟨NC,bC,oC,xC⟩:=u0 J1.kIn hC
 obtain⟨NL,bL,oL,xL⟩:=u0 J1.kIn hL
 obtain⟨oe,vs,T,oT,ts,a0,t1,t2,_⟩:=F1.fly
 have hm2:(Value.ref C::bC).contains (.ref L)=true:=by
  obtain⟨nm,q,bs,hdct,sn,sub,ab,col,dd,k0,k1,k2,k3,k5,ho,hCo,_⟩:=id xC
  exact Fi J1.kIn hCL hCo (by rw[ho])
 refine Ad xC xL hm2 t1 t2.1 ?_
 refine codeAny_handlers_suite_as ?_
 refine F1.set J λh2 F2=>?_
 refine qe (v:=.ref e) (F2.track J) hN hni (.inl hkn) (show RelV (.ref e) (.ref e)from rfl) (λs3 I3=>?_) (.inr hkn)
 refine BI (hbody (.ref e) pins s3 _ _ _ (I3.mark (.ref e)) (q e F2.free)) (λfl s4 z=>?_) λ_ _ z=>False.elim z
 cases fl with
 | next =>
  obtain⟨σ',H4,I4,q4⟩:=z
  exact Fg (I4.unmark I.ok) hN hni hkn λs5 I5=>⟨_,_,I5,q4⟩
 | brk=>obtain⟨_,_,_,z⟩:=z;exact z.elim
 | cont=>obtain⟨_,_,_,z⟩:=z;exact z.elim
 | ret u=>obtain⟨_,_,_,_,_,z⟩:=z;exact z.elim
end
open PySem PySem.Spec PyProof.Rows PySem.W
structure XAt (K:Frag) (C:Addr):Prop where
 ga:findIn K (.ref C) "__getattribute__"=some (some (.builtin "BaseException.__getattribute__"))
 gh:findIn K (.ref C) "__getattr__"=some none
 cl:findIn K (.ref C) "__class__"=some (some (.builtin "object.__class__"))
 mo:mroIn K C (.type "object")=some true
 mb:mroIn K C (.type "BaseException")=some true
section
variable {prog : Program} {w : World} {A : Around} {E : Value -> Shared -> Prop} {h : Heap} {g : Array GenState} {d : Drawn} {t : Nat} {os : OsState} {e C : Addr} {o : Obj} {K : Frag}
theorem Iv {R:Result->Shared->Prop} (X:K.In h) (k:XAt K C) (hx:h.get? e=some o) (hc:o.cls=.ref C) (hq:R (.ok (.ret (.ref C))) ⟨h,g,d,t,os⟩) :
  codeAny (model prog w) A (.call (.builtin "getset_descriptor.__get__") ⟨[.builtin "object.__class__",.ref e,.ref C],[]⟩) R ⟨h,g,d,t,os⟩:=by
 have tg:(⟨h,g,d,t,os⟩:Shared).TypeIs (.builtin "object.__class__") "getset_descriptor":=EU
 have L1:Looks (model prog w) h (isSubtype (.ref C) (.type (".".intercalate ("object.__class__".cutAt '.').dropLast))) true:=by rw[F.owner_object_class];exact looks_mroIn X k.mo
 refine codeAny_call_builtin F.slot_gs_get.plain F.entry_gs_get (F.slot_gs_get.check _ _ _ _ _ _ _ _ tg (F.args_gs_get _ _ _) ?_)
 repeat (any_goals (first | assumption | (with_reducible refine CQ hx ?_;rw[hc]) | (with_reducible refine L1.at ?_) | wp_step))
 refine⟨Code.quiet_builtin _ (by decide +kernel),codeAny_builtin F.entry_object_class ?_⟩
 repeat (any_goals (first | assumption | (with_reducible refine CQ hx ?_;rw[hc]) | wp_step))
theorem Cd {tk:Tok} {Q:Fin->Shared->Prop} (X:K.In h) (k:XAt K C) (hx:h.get? e=some o) (hc:o.cls=.ref C) (hq:Q (.done (.ret (.ref C))) ⟨h,g,d,t,os⟩) :
  wpAny (model prog w) A (Builtin.«object.__getattribute__» ⟨[.ref e,.str "__class__" tk],[]⟩) Q E ⟨h,g,d,t,os⟩:=by
 have tg:(⟨h,g,d,t,os⟩:Shared).TypeIs (.builtin "object.__class__") "getset_descriptor":=EU
 have f5:=EU
 have f6:=F.slot_gs_get.lookup
 have f7:=F.slot_gs_set.lookup
 have L2:=looks_findIn (M:=model prog w) X k.cl
 repeat (any_goals (first | assumption | (with_reducible refine CQ hx ?_;rw[hc]) | (with_reducible refine L2.at ?_) | wp_step))
 refine Iv X k hx hc ?_
 repeat (any_goals (first | assumption | wp_step))
theorem Ce {M:Model} {nameV:Value} {Q:Unit->Shared->Prop} (X:K.In h) (k:XAt K C) (hx:h.get? e=some o) (hc:o.cls=.ref C) (hq:Q () ⟨h,g,d,t,os⟩) :
  wpAny M A (checkBuiltinCall "BaseException.__getattribute__" ⟨[.ref e,nameV],[]⟩) Q E ⟨h,g,d,t,os⟩:=by
 have hk:builtinKind "BaseException.__getattribute__"=some .slot:=by decide +kernel
 have hsplit:splitId "BaseException.__getattribute__"=some ("BaseException","__getattribute__"):=by decide +kernel
 have ha:=F.args_bexc_ga (.ref e) nameV
 have L1:=looks_mroIn (M:=M) X k.mb
 simp![checkBuiltinCall,hk,hsplit]
 refine AA ?_
 ·unfold isInstance
  repeat (first | (with_reducible refine CQ hx ?_;rw[hc]) | (with_reducible refine L1.at ?_) | wp_step)
  exact hq
theorem Fk {tk:Tok} {R:Result->Shared->Prop} (X:K.In h) (k:XAt K C) (hx:h.get? e=some o) (hc:o.cls=.ref C) (hq:R (.ok (.ret (.ref C))) ⟨h,g,d,t,os⟩) :
  codeAny (model prog w) A (.call (.builtin "BaseException.__getattribute__") ⟨[.ref e,.str "__class__" tk],[]⟩) R ⟨h,g,d,t,os⟩ :=
 codeAny_call_builtin F.attr_ValueError.ga.plain F.entry_bexc_ga (Ce X k hx hc (Cd X k hx hc hq))
theorem L5 {tk:Tok} {Q:Value->Shared->Prop} (X:K.In h) (k:XAt K C) (hx:h.get? e=some o) (hc:o.cls=.ref C) (hq:Q (.ref C) ⟨h,g,d,t,os⟩):wpAny (model prog w) A (getAttrBy (.ref e) (.str "__class__" tk) false) Q E ⟨h,g,d,t,os⟩:=by
 have f3:=F.attr_ValueError.ga.bind (.ref e)
 have hx2:(Value.builtin "BaseException.__getattribute__"==Value.builtin "object.__getattribute__")=false:=by decide +kernel
 have hx1:(onTheHeap (Value.ref C)&&Value.builtin "BaseException.__getattribute__"==Value.builtin "object.__getattribute__")=false:=by rw[hx2];rfl
 have hx0:(false&&onTheHeap (Value.builtin "BaseException.__getattribute__"))=false:=rfl
 have L1:=looks_findIn (M:=model prog w) X k.ga
 have L2:=looks_findIn (M:=model prog w) X k.gh
 repeat (any_goals (first | assumption | (with_reducible refine CQ hx ?_;rw[hc]) | (with_reducible refine L1.at ?_) | (with_reducible refine L2.at ?_) | wp_step))
 refine Fk X k hx hc ?_
 repeat (any_goals (first | assumption | wp_step))
theorem Fm {Q:Option Value->Shared->Prop} (X:K.In h) (k:XAt K C) (hx:h.get? e=some o) (hc:o.cls=.ref C) (hq:Q (some (.ref C)) ⟨h,g,d,t+1,os⟩):wpAny (model prog w) A (getAttr? (.ref e) "__class__") Q E ⟨h,g,d,t,os⟩:=by
 unfold getAttr? getAttrBy?
 repeat (any_goals (first | assumption | with_reducible apply L5 X k hx hc | wp_step))
end
theorem Cf {K:Frag} {e C:Addr} (k:XAt K C):KitX K (.ref e) (.ref C) (λh=>∃o vs,h.get? e=some o/\o.cls=.ref C/\o.data=.fields vs) where
 ty:=λM h _ ⟨o,_,h1,h2,_⟩=>h2 ▸ (Looks.ld h1).andThen .now
 it:=λ_ _ X _=>by
  obtain⟨cd,hc,_⟩:=GR.mp k.mo
  unfold clsIn at hc
  split at hc
  ·next ho =>
   intro A' Q' E' s' kk q
   unfold isType loadHead
   exact AA (wpAny_loadPart (kk _ _ (X _ _ ho)) (AI q))
  ·cases hc
 ne:=λh tp dd its n sl X htp=>by
  obtain⟨cd,hc,_⟩:=GR.mp k.mo
  refine Bool.eq_false_iff.mpr λq=>?_
  have e:C=tp:=Value.ref.inj (beq_iff_eq.mp q)
  subst e
  unfold clsIn at hc
  split at hc
  ·next ho =>
   have z:=(X _ _ ho).symm.trans htp
   cases z
  ·cases hc
 ca:=λ{_ _ _ _ _ s} X ⟨o,_,h1,h2,_⟩ q=>by
  obtain⟨h,g,d,t,os⟩:=s
  exact Fm X k h1 h2 q
abbrev Cx.noisy (X:Cx):Cx:={X with calm:=false,xe:=λ_ _=>False}
structure RoomQ (k:Nat) (A:Around):Prop where
 dp:A.depth+3*k+5<recursionLimit
 un:A.units+16*k+200<cLine
theorem Room.q {k:Nat} {A:Around} (r:Room k A):RoomQ k A:=⟨r.dp,r.un⟩
theorem RoomQ.mark {k:Nat} {A:Around} (r:RoomQ k A) (e:Option Value):RoomQ k (A.mark e):=⟨r.dp,r.un⟩
theorem RoomQ.deeper {k:Nat} {A:Around} (r:RoomQ (k+1) A) (env:Env):RoomQ k (A.deeper env) :=
 ⟨by have:=r.dp;show A.depth+1+3*k+5<_;lia,by have:=r.un;show A.units+3+16*k+200<_;lia⟩
theorem RoomQ.depth {k:Nat} {A:Around} (r:RoomQ k A):A.depth<recursionLimit:=by have:=r.dp;lia
theorem RoomQ.units {k:Nat} {A:Around} (r:RoomQ k A):A.units+64<cLine:=by have:=r.un;lia
structure FnOkQ (P:Program) (w:World) (K:PySem.W.Frag) (mg:Str->Option Value) (base:Heap) (k:Nat) (f:Addr) (fd:FuncData) (ps:List Str) (sp:Sp):Prop where
 len:∀vs H Q E,sp vs H Q E->vs.length=ps.length
 run:∀(A:Around) (outer:List Env) (s:Shared) (H:Hp) (args:Args) (us:List Value) (vs:List V) (Q:VK) (E:XK),RoomQ k A->Env0 P w K mg base A outer s H->BindsTo s fd args (ps.zip us)->bw vs us->sp vs H Q E ->
  codeAny (model P w) A (.call (.ref f) args) (CR CX0 outer P w H s Q E) s
theorem Iw {P:Program} {w:World} {K:PySem.W.Frag} {mg:Str->Option Value} {base:Heap} {k:Nat} {f:Addr} {name qual:Str} {params:Arguments} {body:List Stmt} {scope:Scope} {dV kV doc pm cdv ct oc:Value} {an od:Option Addr}
  {osl:Array (Option Value)} {N ps:List Str} {sp:Sp} (lk:K.lookup f=some ⟨oc,od,.func (PySem.W.fnOf name qual params body scope dV kV doc pm an cdv ct),osl⟩) (hcd:PySem.W.codeIn K cdv qual=true) (S:FnScope N ps scope)
  (len:∀vs H Q E,sp vs H Q E->vs.length=ps.length)
  (hbody:∀(A:Around) (outer:List Env) (s:Shared) (H:Hp) (vs:List V) (Q:VK) (E:XK),RoomQ k (A.deeper (envOfC qual scope s.heap.objs.size f cdv))->sp vs H Q E ->
   ∃t,PSs (my CX0 P w K mg base N qual scope f cdv A outer s H E).noisy body t/\t {nx:=λ_ H'=>Q .non H',rt:=Q} (start N vs) H) :
  FnOkQ P w K mg base (k+1) f (PySem.W.fnOf name qual params body scope dV kV doc pm an cdv ct) ps sp:=by
 refine⟨len,λA outer s H args us vs Q E hr e0 hb r hsp=>?_⟩
 have hl:=len _ _ _ _ hsp
 have KX:K.In s.heap:=e0.mod.kin.keeps λb o e=>(e0.bs b o e).1
 have lim:s.heap.NoLimit:=e0.mod.nolimit.keeps λb o e=>(e0.bs b o e).1
 have hkind:∀y∈ps.zip us,scope.names.lookup y.1=some .local\/(scope.names.lookup y.1=some .cell/\((cellsFrom (s.heap.objs.size+1) scope.names []).lookup y.1).isSome=true):=fun⟨n,v⟩ hy=>by
  rcases S.par n (FG hy).1 with q | q
  ·exact .inl q
  ·exact .inr ⟨q,EJ _ _ _ (.inl q)⟩
 refine codeAny_call_function hr.depth (KX _ _ lk) rfl S.co S.gen rfl (HL KX hcd) (hb _ _ _ _ ?_)
 refine FU S.kind hkind λenv he s1 x=>?_
 subst he
 refine⟨lim.keeps x.toInCall.keep,codeAny_func ?_⟩
 obtain⟨t,ht,hq⟩:=hbody A outer s H vs Q E (hr.deeper _) hsp
 have J:Inv (my CX0 P w K mg base N qual scope f cdv {A with handled:=none} outer s H E) [] (start N vs) H s1 :=
  r9 S rfl ⟨e0.frames,e0.mod,e0.bs,e0.bsz,e0.funs,e0.frf,e0.hok,e0.bare⟩ hl r x
 have I:Inv (my CX0 P w K mg base N qual scope f cdv A outer s H E).noisy [] (start N vs) H s1 :=
  ⟨⟨J.ok.mod,J.ok.kind,J.ok.glob,J.ok.blt,J.ok.above,J.ok.inj,J.ok.has,J.ok.cab,λz=>(by cases z),HF e0.frames,J.ok.stk,J.ok.exf,J.ok.bs,J.ok.bsz,J.ok.noex,J.ok.exfs,J.ok.funs,J.ok.frf⟩,J.os,J.bare,J.base,J.loc,J.cell,J.free,J.freeC,J.pin,J.hok,J.len⟩
 refine BI (ht [] s1 (start N vs) H _ I hq) (λfl s' hs=>?_) λe s' hs=>False.elim hs
 have fin:∀{σ':St} {H':Hp} {v:V} {u:Value},Inv (my CX0 P w K mg base N qual scope f cdv A outer s H E).noisy [] σ' H' s'->RelV v u->Q v H'->CE outer P w H s Q u s' :=
  λ{σ' H' v u} J rv q=>⟨v,H',J.os,J.bare,J.base,J.hok,rv,q⟩
 cases fl with
 | ret u =>
  obtain⟨v,σ',H',J,rv,q⟩:=hs
  exact fin J rv q
 | next =>
  obtain⟨σ',H',J,q⟩:=hs
  exact fin (v:=V.non) (u:=Value.none) J rfl q
 | brk =>
  obtain⟨_,_,_,q⟩:=hs
  exact False.elim q
 | cont =>
  obtain⟨_,_,_,q⟩:=hs
  exact False.elim q
section
variable {X : Cx} {k : Nat} {f : Addr} {fd : FuncData} {ps : List Str} {sp : Sp} {x : Str} {p pos : Pos} {e : Expr} {es : List Expr} {t : TA}
theorem Cg (F:FnOkQ X.prog X.w X.K X.mg X.base k f fd ps sp) (hr:RoomQ k X.A) (hg:Gl X x) (hm:X.mg x=some (.ref f)) (hk:PySem.W.keepIn X.K (.ref f)=true) (hb:Binds X.K fd ps [])
  (ha:PA X (e::es) t) (hdb:(x==("__debug__":Str))=false) (he:starEach (e::es) X.env=(false,eval e X.env)::starEach es X.env) (hpl:(backTo pos (starEach es X.env)).any (·.1)=false) :
  PE X (.Call (.Name x p) (e::es) [] pos) (Ib sp [] E0 t):=by
 intro pins s σ H Q I h
 refine CL (kx I hg hm ?_ hdb)
 refine FT (h₀:=X.base) I.ok.mod.kin hk (thn (ha pos pins s σ H _ I h) λus s1 ⟨vs,H1,I1,r,q⟩=>⟨I1.kIn,?_⟩) he hpl
 have q:sp vs H1 Q E0:=by simpa using q
 have hl:us.length=ps.length:=by rw[<-r.length];exact F.len _ _ _ _ q
 have hb':=hb s1 us I1.kIn (by rw[BD];exact hl)
 rw[BD]at hb'
 refine wpAny_call (FM (F.run X.A X.stack s1 H1 ⟨us,[]⟩ us vs Q E0 hr I1.env0 hb' r q) λr s' hq=>?_)
 cases r with
 | error ev=>exact False.elim hq
 | ok fl =>
  cases fl with
  | ret u=>exact I1.after hq
  | next=>exact False.elim hq
  | brk=>exact False.elim hq
  | cont=>exact False.elim hq
end
end L2
namespace Lp
open PySem
inductive D where
 | non | bl (b:Bool) | int (i:Int) | str (x:Str)
 | tup (ds:List D) | lst (ds:List D) | loc (n:Nat)
 deriving Inhabited
def D.pureN:Nat->D->Bool
 | 0,d=>match d with | .tup _=>false | .lst _=>false | .loc _=>false | _=>true
 | k+1,d=>match d with | .tup ds=>ds.all (D.pureN k) | .lst ds=>ds.all (D.pureN k) | .loc _=>false | _=>true
abbrev D.pure (d:D):Bool:=D.pureN 8 d
inductive O where
 | l (ds:List D)
 | r (ds:List D)
 | d (kvs:List (D×D))
 | dt (kvs:List (D×D))
 | x (c:Str)
 | dead
 deriving Inhabited
abbrev Sto:=List O
abbrev Sl:=List (Option D)
inductive Res (α:Type) where
 | ok (a:α) (μ:Sto)
 | exc (c:Nat) (ds:List D) (μ:Sto)
 | stuck
namespace Res
variable {α β : Type}
def bind (x:Res α) (f:α->Sto->Res β):Res β:=match x with
 | .ok a μ=>f a μ
 | .exc c ds μ=>.exc c ds μ
 | .stuck=>.stuck
@[simp] theorem bj (a:α) (μ:Sto) (f:α->Sto->Res β):(Res.ok a μ).bind f=f a μ:=rfl
@[simp] theorem Ks (c:Nat) (ds:List D) (μ:Sto) (f:α->Sto->Res β):(Res.exc c ds μ:Res α).bind f=.exc c ds μ:=rfl
@[simp] theorem Hg (f:α->Sto->Res β):(Res.stuck:Res α).bind f=.stuck:=rfl
theorem bind_assoc {γ:Type} (x:Res α) (f:α->Sto->Res β) (g:β->Sto->Res γ):(x.bind f).bind g=x.bind λa μ=>(f a μ).bind g:=by
 cases x<;>rfl
end Res
inductive Mk where | z | l | r
 deriving DecidableEq,Inhabited
inductive Bt where
 | len | tuple | list | sum | min | min1 | max | all | any | sorted | sortedSet | sortedL | int | listRev | listRange | tupleRange | dictP
 deriving DecidableEq,Inhabited
inductive Mt where
 | append | pop | extend | extendT | insert | remove | reverse | clear | count | countL | get
 deriving DecidableEq,Inhabited
inductive Cl where
 | int | bool | tuple | list | str | own (c:Str)
 deriving DecidableEq,Inhabited
inductive Tg where
 | one (i:Nat) | many (is:List Nat)
 deriving DecidableEq,Inhabited
inductive Cp where
 | eq | ne | eqM | neM | lt | le | gt | ge | is | isnot | in_ | notin
 deriving DecidableEq,Inhabited
mutual
inductive Ex where
 | var (i:Nat)
 | frz (i:Nat)
 | cst (d:D)
 | bin (op:Operator) (m:Mk) (a b:Ex)
 | neg (a:Ex)
 | not (a:Ex)
 | and (a b:Ex)
 | or (a b:Ex)
 | ite (c a b:Ex)
 | cmp (a:Ex) (r:Cps)
 | call (keep:Bool) (f:Nat) (es:Exs)
 | blt (b:Bt) (m:Mk) (es:Exs)
 | isi (a:Ex) (c:Cl)
 | meth (mt:Mt) (o:Ex) (es:Exs)
 | ix (a b:Ex)
 | dix (a b:Ex)
 | sl (m:Mk) (a:Ex) (lo hi:ExO)
 | tup (es:Exs)
 | lst (m:Mk) (es:Exs)
 | dic (t:Bool) (es:Exs)
 | inT (neg:Bool) (es:Exs) (d:Ex)
 | comp (m:Mk) (cap:List Nat) (nl:Nat) (tg:Tg) (it:It) (cs:Exs) (elt:Ex)
inductive Exs where
 | nil
 | cons (e:Ex) (es:Exs)
inductive Cps where
 | nil
 | cons (op:Cp) (e:Ex) (r:Cps)
inductive ExO where
 | no
 | so (e:Ex)
inductive It where
 | seq (e:Ex)
 | rng (a:Ex)
 | rng2 (a b:Ex)
 | rng3 (a b c:Ex)
 | zip (a b:Ex)
 | enum (a:Ex)
 | rev (a:Ex)
 | vals (a:Ex)
end
mutual
inductive Sm where
 | set (i:Nat) (e:Ex)
 | unp (is:List Nat) (e:Ex)
 | setx (o i v:Ex)
 | augx (op:Operator) (o i v:Ex)
 | setxT (o:Ex) (i:Exs) (v:Ex)
 | ex (e:Ex)
 | ite (c:Ex) (a b:Sms)
 | loop (tg:Tg) (it:It) (b:Sms)
 | ret (e:Ex)
 | raise (c:Str) (es:Exs)
 | pl (s:Sm)
 | callx (f:Nat) (es:Exs)
 | tryc (f:Nat) (es:Exs) (ei:Nat) (h:Sms)
 | mapx (i:Nat) (cap:List Nat) (nl:Nat) (tg:Tg) (it:It) (f:Nat) (es:Exs)
 | pass | brk | cont
 | never
inductive Sms where
 | nil
 | cons (s:Sm) (r:Sms)
end
@[irreducible] def lim:Nat:=2 ^ 24
theorem D7:lim=2 ^ 24:=by with_unfolding_all rfl
theorem j5:1000000<=lim:=by rw[D7];decide
def c6 (μ:Sto):D->Option (List D)
 | .tup ds=>some ds
 | .lst ds=>some ds
 | .loc n=>match μ[n]? with
  | some (.l ds)=>some ds
  | some (.r ds)=>some ds
  | _=>none
 | _=>none
def listOf (μ:Sto):D->Option (List D)
 | .lst ds=>some ds
 | .loc n=>match μ[n]? with
  | some (.l ds)=>some ds
  | some (.r ds)=>some ds
  | _=>none
 | _=>none
def ik {α β:Type} (o:Option α) (k:α->Res β):Res β:=match o with
 | some a=>k a
 | none=>.stuck
@[simp] theorem nq {α β:Type} (a:α) (k:α->Res β):ik (some a) k=k a:=rfl
@[simp] theorem Fn {α β:Type} (k:α->Res β):ik none k=.stuck:=rfl
def mkL (m:Mk) (ds:List D) (μ:Sto):Res D:=match m with
 | .z=>.ok (.lst ds) μ
 | .l=>if ds.all (D.pureN 8)=true then .ok (.loc μ.length) (μ++[.l ds])else .stuck
 | .r=>.ok (.loc μ.length) (μ++[.r ds])
mutual
def deq:D->D->Bool
 | .non,.non=>true
 | .bl a,.bl b=>a==b
 | .int a,.int b=>decide (a=b)
 | .bl a,.int b=>decide ((if a then 1 else 0:Int)=b)
 | .int a,.bl b=>decide (a=(if b then 1 else 0:Int))
 | .str a,.str b=>decide (a=b)
 | .tup a,.tup b=>zi a b
 | .lst a,.lst b=>zi a b
 | _,_=>false
def zi:List D->List D->Bool
 | [],[]=>true
 | a::r,b::q=>deq a b&&zi r q
 | _,_=>false
end
def rs1 (μ:Sto):Nat->D->D
 | 0,d=>d
 | _,.loc n=>match μ[n]? with
  | some (.l ds)=>.lst ds
  | some (.r ds)=>.lst ds
  | _=>.loc n
 | k+1,.tup ds=>.tup (ds.map (rs1 μ k))
 | k+1,.lst ds=>.lst (ds.map (rs1 μ k))
 | _,d=>d
def rs (μ:Sto) (d:D):D:=rs1 μ 8 (rs1 μ 8 (rs1 μ 8 d))
def ke:List D->Option (List Int)
 | []=>some []
 | .int i::r=>(ke r).map (i::·)
 | _=>none
def kf:List D->Option (List Bool)
 | []=>some []
 | .bl i::r=>(kf r).map (i::·)
 | _=>none
def lexLt:List Int->List Int->Bool
 | _,[]=>false
 | [],_::_=>true
 | x::xs,y::ys=>if x=y then lexLt xs ys else decide (x<y)
def rowsOf:List D->Option (List (List Int))
 | []=>some []
 | .tup ds::r=>(ke ds).bind λx=>(rowsOf r).map (x::·)
 | _=>none
def ixN (n:Nat) (i:Int):Option Nat:=if 0<=i then(if i<n then some i.toNat else none)else if -(n:Int)<=i then some (i+n).toNat else none
def sIx (n d:Nat):Option Int->Nat
 | none=>d
 | some v=>if v<0 then(v+(n:Int)).toNat else min v.toNat n
def cut (ds:List D) (lo hi:Option Int):List D:=(ds.drop (sIx ds.length 0 lo)).take (sIx ds.length ds.length hi-sIx ds.length 0 lo)
def CMul (i j:Int):Prop:=(-(2 ^ 64)<i/\i<2 ^ 64)\/(-(2 ^ 64)<j/\j<2 ^ 64)
instance (i j:Int):Decidable (CMul i j):=by unfold CMul;infer_instance
def opI (op:Operator) (i j:Int) (μ:Sto):Res D:=match op with
 | .Add=>.ok (.int (i+j)) μ
 | .Sub=>.ok (.int (i-j)) μ
 | .Mult=>if CMul i j then .ok (.int (i*j)) μ else .stuck
 | .FloorDiv=>if 0<j/\j<1073741824 then .ok (.int (i / j)) μ else .stuck
 | .Mod=>if 0<j then .ok (.int (i % j)) μ else .stuck
 | .Pow=>if 0<=j/\j<=1000000/\i.natAbs<2 ^ 64 then .ok (.int (i ^ j.toNat)) μ else .stuck
 | .RShift=>if 0<=j then .ok (.int (i / 2 ^ j.toNat)) μ else .stuck
 | _=>.stuck
def opD (op:Operator) (m:Mk) (a b:D) (μ:Sto):Res D:=match a,b with
 | .int i,.int j=>opI op i j μ
 | .tup xs,.tup ys=>match op with
  | .Add=>if xs.length+ys.length<=lim then .ok (.tup (xs++ys)) μ else .stuck
  | _=>.stuck
 | x,.int j=>match op,listOf μ x with
  | .Mult,some xs=>if xs.length*j.toNat<=lim /\ -(2 ^ 63)<=j/\j<2 ^ 63 then mkL m (List.replicate j.toNat xs).flatten μ else .stuck
  | _,_=>.stuck
 | x,y=>match op,listOf μ x,listOf μ y with
  | .Add,some xs,some ys=>if xs.length+ys.length<=lim then mkL m (xs++ys) μ else .stuck
  | _,_,_=>.stuck
def flat:D->Bool
 | .tup _=>false
 | .lst _=>false
 | .loc _=>false
 | _=>true
def cc (μ:Sto) (x:D):Option (List D×Option (Nat×O)):=match x with
 | .tup ds=>some (ds,none)
 | .lst ds=>some (ds,none)
 | .loc n=>match μ[n]? with
  | some (.l ds)=>some (ds,some (n,.l ds))
  | some (.r ds)=>some (ds,some (n,.r ds))
  | _=>none
 | _=>none
def D8:D->Bool
 | .int _=>true
 | .str _=>true
 | _=>false
def Qy:D->Bool
 | .tup ds=>ds.all D8
 | _=>false
def Ci (k:D):List (D×D)->Option D
 | []=>none
 | (x,v)::r=>if deq x k then some v else Ci k r
def dput (k v:D) (kvs:List (D×D)):List (D×D) :=
 if(kvs.any λp=>deq p.1 k)=true then kvs.map (λp=>if deq p.1 k=true then(p.1,v)else p)else kvs++[(k,v)]
def dictAt (μ:Sto) (o k:D):Option (List (D×D)):=match o with
 | .loc n=>match μ[n]? with
  | some (.d kvs)=>if D8 k=true then some kvs else none
  | _=>none
 | _=>none
def Fo (μ:Sto) (o:D) (ks:List D):Option (List (D×D)):=match o with
 | .loc n=>match μ[n]? with
  | some (.dt kvs)=>if ks.all D8=true then some kvs else none
  | _=>none
 | _=>none
def c7:List (Option D)->Option (List D)
 | []=>some []
 | none::_=>none
 | some d::r=>match c7 r with
  | some ds=>some (d::ds)
  | none=>none
def bb (μ:Sto):Nat->D->Option D
 | 0,d=>if flat d=true then some d else none
 | k+1,d=>match d with
  | .tup ds=>(c7 (ds.map (bb μ k))).map .tup
  | .lst ds=>(c7 (ds.map (bb μ k))).map .lst
  | .loc n=>match μ[n]? with
   | some (.l ds)=>(c7 (ds.map (bb μ k))).map .lst
   | some (.r ds)=>(c7 (ds.map (bb μ k))).map .lst
   | _=>none
  | d=>some d
def cpD (op:Cp) (a b:D) (μ:Sto):Res D:=match op with
 | .eq=>if a.pure=true/\b.pure=true then .ok (.bl (deq a b)) μ else .stuck
 | .ne=>if a.pure=true/\b.pure=true then .ok (.bl (!deq a b)) μ else .stuck
 | .eqM=>match bb μ 8 a,bb μ 8 b with
  | some x,some y=>.ok (.bl (deq x y)) μ
  | _,_=>.stuck
 | .neM=>match bb μ 8 a,bb μ 8 b with
  | some x,some y=>.ok (.bl (!deq x y)) μ
  | _,_=>.stuck
 | .lt=>match a,b with
  | .int i,.int j=>.ok (.bl (decide (i<j))) μ
  | .tup x,.tup y=>match ke x,ke y with
   | some xs,some ys=>.ok (.bl (lexLt xs ys)) μ
   | _,_=>.stuck
  | _,_=>.stuck
 | .le=>match a,b with
  | .int i,.int j=>.ok (.bl (decide (i<=j))) μ
  | .tup x,.tup y=>match ke x,ke y with
   | some xs,some ys=>.ok (.bl (!lexLt ys xs)) μ
   | _,_=>.stuck
  | _,_=>.stuck
 | .gt=>match a,b with
  | .int i,.int j=>.ok (.bl (decide (j<i))) μ
  | _,_=>.stuck
 | .ge=>match a,b with
  | .int i,.int j=>.ok (.bl (decide (j<=i))) μ
  | .tup x,.tup y=>match ke x,ke y with
   | some xs,some ys=>.ok (.bl (!lexLt xs ys)) μ
   | _,_=>.stuck
  | _,_=>.stuck
 | .is=>match b with
  | .non=>.ok (.bl (match a with | .non=>true | _=>false)) μ
  | .bl k=>match a with
   | .bl j=>.ok (.bl (j==k)) μ
   | .non=>.ok (.bl false) μ
   | _=>.stuck
  | _=>.stuck
 | .isnot=>match b with
  | .non=>.ok (.bl (match a with | .non=>false | _=>true)) μ
  | .bl k=>match a with
   | .bl j=>.ok (.bl (!(j==k))) μ
   | .non=>.ok (.bl true) μ
   | _=>.stuck
  | _=>.stuck
 | .in_=>match c6 μ b with
  | some ds=>if flat a=true/\ds.all flat=true then .ok (.bl (ds.any λy=>deq y a)) μ else .stuck
  | none=>match dictAt μ b a with
   | some kvs=>.ok (.bl (Ci a kvs).isSome) μ
   | none=>.stuck
 | .notin=>match c6 μ b with
  | some ds=>if flat a=true/\ds.all flat=true then .ok (.bl (!ds.any λy=>deq y a)) μ else .stuck
  | none=>match dictAt μ b a with
   | some kvs=>.ok (.bl (!(Ci a kvs).isSome)) μ
   | none=>.stuck
def insI (x:Int):List Int->List Int
 | []=>[x]
 | y::r=>if x<=y then x::y::r else y::insI x r
def sortI:List Int->List Int
 | []=>[]
 | x::r=>insI x (sortI r)
def Om (x:List Int):List (List Int)->List (List Int)
 | []=>[x]
 | y::r=>if lexLt y x=true then y::Om x r else x::y::r
def Fp:List (List Int)->List (List Int)
 | []=>[]
 | x::r=>Om x (Fp r)
def Oo:Int->List Int->Int
 | x,[]=>x
 | x,y::r=>Oo (if y<x then y else x) r
def nt (f:D->Sto->Res D) (ds:List D) (μ:Sto):Res D:=match ds with
 | [x]=>f x μ
 | _=>.stuck
@[simp] theorem wu (f:D->Sto->Res D) (x:D) (μ:Sto):nt f [x] μ=f x μ:=rfl
def seq1 (f:List D->Sto->Res D) (x:D) (μ:Sto):Res D:=match c6 μ x with
 | some xs=>f xs μ
 | none=>.stuck
def L6 (f:List Int->Sto->Res D) (x:D) (μ:Sto):Res D:=match(c6 μ x).bind ke with
 | some ns=>f ns μ
 | none=>.stuck
def Ae (f:List Bool->Sto->Res D) (x:D) (μ:Sto):Res D:=match(c6 μ x).bind kf with
 | some ns=>f ns μ
 | none=>.stuck
def qj (m:Mk) (x:D) (μ:Sto):Res D:=match listOf μ x with
 | some xs=>mkL m xs.reverse μ
 | none=>.stuck
def minD (ds:List D) (μ:Sto):Res D:=match ds with
 | [.int i,.int j]=>.ok (.int (if j<i then j else i)) μ
 | _=>.stuck
def maxD (ds:List D) (μ:Sto):Res D:=match ds with
 | [.int i,.int j]=>.ok (.int (if j > i then j else i)) μ
 | _=>.stuck
def Fq (m:Mk) (xs:List D) (μ:Sto):Res D:=match rowsOf xs with
 | some rs=>if rs.all (λr=>!r.isEmpty)=true then mkL m ((Fp rs).map λr=>.tup (r.map .int)) μ else .stuck
 | none=>.stuck
def Qz (ns:List Int):List Int:=ns.foldl (λσ k=>if σ.any (·==k)then σ else σ++[k]) []
def Iy (m:Mk):D->Sto->Res D:=L6 λns μ=>if ns.length<64 then mkL m ((sortI (Qz ns)).map .int) μ else .stuck
def Iz (m:Mk) (x:D) (μ:Sto):Res D:=match listOf μ x with
 | some xs=>if xs.length<64 then Fq m xs μ else .stuck
 | none=>.stuck
def I0:List D->Sto->Option (List (List Int)×Sto)
 | [],μ=>some ([],μ)
 | .loc n::r,μ=>match μ[n]? with
  | some (.l ds)=>match ke ds,I0 r (μ.set n .dead)with
   | some x,some p=>some (x::p.1,p.2)
   | _,_=>none
  | _=>none
 | _,_=>none
def Fs (m:Mk) (x:D) (μ:Sto):Res D:=match listOf μ x with
 | some xs=>if xs.length<64 then(match I0 xs μ with
  | some p=>mkL m ((Fp p.1).map λr=>.lst (r.map .int)) p.2
  | none=>.stuck)else .stuck
 | none=>.stuck
def L7:D->Sto->Res D:=L6 λns μ=>match ns with
 | n::r=>.ok (.int (Oo n r)) μ
 | []=>.stuck
def D9 (x:D) (μ:Sto):Res D:=match x with
 | .bl b=>.ok (.int (if b then 1 else 0)) μ
 | .int i=>.ok (.int i) μ
 | _=>.stuck
def Ea (f:List D->Sto->Res D) (x:D) (μ:Sto):Res D:=match x with
 | .int j=>if -(lim:Int)<=j/\j<=lim then f ((List.range j.toNat).map fun(i:Nat)=>D.int i) μ else .stuck
 | _=>.stuck
def Eb:List D->Option (List (D×D))
 | []=>some []
 | .tup [k,v]::r=>if D8 k=true/\v.pure=true then(Eb r).map ((k,v)::·)else none
 | _=>none
def Ja (x:D) (μ:Sto):Res D:=match(listOf μ x).bind Eb with
 | some ps=>if ps.length<1000 then .ok (.loc μ.length) (μ++[.d (ps.foldl (λm p=>dput p.1 p.2 m) [])])else .stuck
 | none=>.stuck
def btD (b:Bt) (m:Mk) (ds:List D) (μ:Sto):Res D:=match b with
 | .len=>nt (seq1 λxs μ=>.ok (.int xs.length) μ) ds μ
 | .tuple=>nt (seq1 λxs μ=>.ok (.tup xs) μ) ds μ
 | .list=>nt (seq1 λxs μ=>mkL m xs μ) ds μ
 | .listRev=>nt (qj m) ds μ
 | .sum=>nt (L6 λns μ=>.ok (.int ns.sum) μ) ds μ
 | .min=>minD ds μ
 | .max=>maxD ds μ
 | .all=>nt (Ae λbs μ=>.ok (.bl (bs.all id)) μ) ds μ
 | .any=>nt (Ae λbs μ=>.ok (.bl (bs.any id)) μ) ds μ
 | .sorted=>nt (Iz m) ds μ
 | .min1=>nt L7 ds μ
 | .sortedSet=>nt (Iy m) ds μ
 | .sortedL=>nt (Fs m) ds μ
 | .int=>nt D9 ds μ
 | .listRange=>nt (Ea λxs μ=>mkL m xs μ) ds μ
 | .tupleRange=>nt (Ea λxs μ=>.ok (.tup xs) μ) ds μ
 | .dictP=>nt Ja ds μ
def xcls:List Str:=["BadBook","BadTicks","NoDeed","NoRest"]
def zj (k c:Str):Bool:=decide (c=k) || decide (c="LampError") || decide (c="ValueError")
def Hh (c:Cl) (d:D) (μ:Sto):Res D:=match d,c with
 | .int _,.int=>.ok (.bl true) μ
 | .bl _,.int=>.ok (.bl true) μ
 | .bl _,.bool=>.ok (.bl true) μ
 | .tup _,.tuple=>.ok (.bl true) μ
 | .lst _,.list=>.ok (.bl true) μ
 | .str _,.str=>.ok (.bl true) μ
 | .loc n,.list=>match μ[n]? with
  | some (.l _)=>.ok (.bl true) μ
  | some (.r _)=>.ok (.bl true) μ
  | _=>.stuck
 | .loc n,.own c=>match μ[n]? with
  | some (.x k)=>if xcls.contains k=true then .ok (.bl (zj k c)) μ else .stuck
  | _=>.stuck
 | .loc _,_=>.stuck
 | _,.own _=>.stuck
 | _,_=>.ok (.bl false) μ
def putL (n:Nat) (o:O) (ds:List D) (d:D) (μ:Sto):Res D:=match o with
 | .l _=>.ok d (μ.set n (.l ds))
 | .r _=>.ok d (μ.set n (.r ds))
 | _=>.stuck
def fits (o:O) (d:D):Bool:=match o with
 | .l _=>d.pure
 | .r _=>true
 | _=>false
def gv:O->Option (List D)
 | .l ds=>some ds
 | .r ds=>some ds
 | _=>none
def mtL (mt:Mt) (n:Nat) (ob:O) (xs:List D) (ds:List D) (μ:Sto):Res D:=match mt with
 | .append=>nt (λd μ=>if fits ob d=true/\xs.length<lim then putL n ob (xs++[d]) .non μ else .stuck) ds μ
 | .pop=>match ds with
  | []=>match xs.getLast? with
   | some d=>putL n ob xs.dropLast d μ
   | none=>.stuck
  | [.int i]=>if 0<=i/\i<lim then(match xs[i.toNat]? with
   | some d=>putL n ob (xs.eraseIdx i.toNat) d μ
   | none=>.stuck)else .stuck
  | _=>.stuck
 | .extend=>nt (λy μ=>match listOf μ y with
  | some ys=>if ys.all (fits ob)=true/\xs.length+ys.length<=lim then putL n ob (xs++ys) .non μ else .stuck
  | none=>.stuck) ds μ
 | .extendT=>nt (λy μ=>match y with
  | .tup ys=>if ys.all (fits ob)=true/\xs.length+ys.length<=lim then putL n ob (xs++ys) .non μ else .stuck
  | _=>.stuck) ds μ
 | .insert=>match ds with
  | [.int i,d]=>if 0<=i/\i<=(xs.length:Int)/\fits ob d=true/\xs.length<lim then putL n ob (xs.take i.toNat++d::xs.drop i.toNat) .non μ else .stuck
  | _=>.stuck
 | .remove=>nt (λd μ=>match c7 (xs.map (bb μ 8)),bb μ 8 d with
  | some es,some e=>match es.findIdx? (λx=>deq x e)with
   | some j=>putL n ob (xs.eraseIdx j) .non μ
   | none=>.stuck
  | _,_=>.stuck) ds μ
 | .reverse=>match ds with
  | []=>putL n ob xs.reverse .non μ
  | _=>.stuck
 | .clear=>match ds with
  | []=>putL n ob [] .non μ
  | _=>.stuck
 | _=>.stuck
def Oq (xs ds:List D) (μ:Sto):Res D:=nt (λx μ=>if flat x=true/\xs.all flat=true then .ok (.int (xs.countP λy=>deq y x)) μ else .stuck) ds μ
def Q0 (o:D) (ds:List D) (μ:Sto):Res D:=match o with
 | .tup xs=>Oq xs ds μ
 | _=>.stuck
def Q1 (o:D) (ds:List D) (μ:Sto):Res D:=match listOf μ o with
 | some xs=>Oq xs ds μ
 | none=>.stuck
def j3 (mt:Mt) (x:D) (μ:Sto):Bool:=match mt with
 | .get=>match x with
  | .loc n=>match μ[n]? with
   | some (.d _)=>true
   | _=>false
  | _=>false
 | .count=>match x with
  | .tup _=>true
  | _=>false
 | _=>(listOf μ x).isSome
def L8 (o:D) (ds:List D) (μ:Sto):Res D:=match ds with
 | [k,x]=>match dictAt μ o k with
  | some kvs=>.ok ((Ci k kvs).getD x) μ
  | none=>.stuck
 | _=>.stuck
def sj (mt:Mt) (o:D) (ds:List D) (μ:Sto):Res D:=match o with
 | .loc n=>match μ[n]? with
  | none=>.stuck
  | some ob=>match gv ob with
   | none=>.stuck
   | some xs=>mtL mt n ob xs ds μ
 | _=>.stuck
def mtD (mt:Mt) (o:D) (ds:List D) (μ:Sto):Res D:=match mt with
 | .count=>Q0 o ds μ
 | .countL=>Q1 o ds μ
 | .get=>L8 o ds μ
 | mt=>sj mt o ds μ
def L9 (a:D) (ks:List D) (v:D) (μ:Sto):Res Unit:=match a with
 | .loc n=>match μ[n]? with
  | some (.dt kvs)=>if ks.all D8=true/\v.pure=true/\kvs.length<lim then .ok () (μ.set n (.dt (dput (.tup ks) v kvs)))else .stuck
  | _=>.stuck
 | _=>.stuck
def Q2 (neg:Bool) (ks:List D) (a:D) (μ:Sto):Res D:=match Fo μ a ks with
 | some kvs=>.ok (.bl (neg ^^ (Ci (.tup ks) kvs).isSome)) μ
 | none=>.stuck
def ixD (a b:D) (μ:Sto):Res D:=match b with
 | .int i=>match c6 μ a with
  | some xs=>match ixN xs.length i with
   | some j=>match xs[j]? with
    | some d=>.ok d μ
    | none=>.stuck
   | none=>.stuck
  | none=>.stuck
 | _=>.stuck
def ixL (a b:D) (μ:Sto):Res D:=match a with
 | .loc n=>ixD (.loc n) b μ
 | _=>.stuck
def Mb (a b:D) (μ:Sto):Res D:=match dictAt μ a b with
 | some kvs=>match Ci b kvs with
  | some v=>.ok v μ
  | none=>.stuck
 | none=>.stuck
def Ot (op:Operator) (a b:D) (μ:Sto):Res D:=match a,b with
 | .int i,.int j=>match op with
  | .Add=>.ok (.int (i+j)) μ
  | .Sub=>.ok (.int (i-j)) μ
  | _=>.stuck
 | _,_=>.stuck
def slD (m:Mk) (a:D) (lo hi:Option Int) (μ:Sto):Res D:=match a with
 | .tup xs=>.ok (.tup (cut xs lo hi)) μ
 | x=>match listOf μ x with
  | some xs=>mkL m (cut xs lo hi) μ
  | none=>.stuck
def rn (a b v:D) (μ:Sto):Res Unit:=match a with
 | .loc n=>match μ[n]? with
  | none=>.stuck
  | some (.d kvs)=>if D8 b=true/\v.pure=true/\kvs.length<lim then .ok () (μ.set n (.d (dput b v kvs)))else .stuck
  | some ob=>match gv ob,b with
   | some xs,.int i=>match ixN xs.length i with
    | some j=>if fits ob v=true then(putL n ob (xs.set j v) .non μ).bind λ_ μ=>.ok () μ else .stuck
    | none=>.stuck
   | _,_=>.stuck
 | _=>.stuck
def ee (tg:Tg) (d:D) (σ:Sl):Option Sl:=match tg with
 | .one i=>some (σ.set i (some d))
 | .many is=>match d with
  | .tup ds=>if ds.length=is.length then some ((is.zip ds).foldl (λs p=>s.set p.1 (some p.2)) σ)else none
  | _=>none
abbrev Gd:=Option (Nat×O)
def gd (g:Gd) (μ:Sto):Prop:=match g with
 | none=>True
 | some (n,o)=>μ[n]? = some o
@[simp] theorem qk (μ:Sto):gd none μ=True:=rfl
open Classical in
def mapR (g:Gd) (f:D->Sto->Res (List D)):List D->Sto->Res (List D)
 | [],μ=>if gd g μ then .ok [] μ else .stuck
 | d::ds,μ=>if gd g μ then(f d μ).bind λxs μ1=>(mapR g f ds μ1).bind λys μ2=>.ok (xs++ys) μ2 else .stuck
inductive Fl where
 | nx (σ:Sl) | rt (d:D) | bk (σ:Sl) | ct (σ:Sl)
open Classical in
def k7 (g:Gd) (f:D->Sl->Sto->Res Fl):List D->Sl->Sto->Res Fl
 | [],σ,μ=>if gd g μ then .ok (.nx σ) μ else .stuck
 | d::ds,σ,μ=>if gd g μ then(f d σ μ).bind λfl μ1=>match fl with
  | .nx σ1=>k7 g f ds σ1 μ1
  | .ct σ1=>k7 g f ds σ1 μ1
  | .bk σ1=>.ok (.nx σ1) μ1
  | .rt v=>.ok (.rt v) μ1 else .stuck
def Ou (t:Bool) (ds:List D) (μ:Sto):Res D:=match ds with
 | []=>.ok (.loc μ.length) (μ++[if t then .dt []else .d []])
 | [.int a,x]=>if t=false/\x.pure=true then .ok (.loc μ.length) (μ++[.d [(.int a,x)]])else .stuck
 | [.int a,x,.int b,y]=>if t=false/\x.pure=true/\y.pure=true then .ok (.loc μ.length) (μ++[.d (dput (.int b) y [(.int a,x)])])else .stuck
 | _=>.stuck
abbrev Phi:=Nat->List D->Sto->Res D
def D.belowN (b:Nat):Nat->D->Bool
 | 0,d=>match d with | .tup _=>false | .lst _=>false | .loc n=>decide (n<b) | _=>true
 | k+1,d=>match d with | .tup ds=>ds.all (D.belowN b k) | .lst ds=>ds.all (D.belowN b k) | .loc n=>decide (n<b) | _=>true
def dj (b:Nat):O->Bool
 | .r ds=>ds.all (D.belowN b 8)
 | _=>true
def noR:O->Bool
 | .r _=>false
 | _=>true
def nu (keep:Bool) (base:Nat) (r:Res D):Res D:=match r with
 | .ok d μ'=>if keep=true then .ok d μ' else if D.belowN base 8 d=true/\(μ'.take base).all (dj base)=true then .ok d (μ'.take base)else .stuck
 | x=>x
def zk:D->Option (Sum D Str)
 | .non=>some (.inl .non)
 | .tup [.bl true,d]=>some (.inl d)
 | .tup [.bl false,.str c]=>some (.inr c)
 | _=>none
def sk (base:Nat) (r:Res D):Res (Option Str):=match r with
 | .ok d μ'=>if(μ'.take base).all (dj base)=true then(match zk d with
  | some (.inl _)=>.ok none (μ'.take base)
  | some (.inr c)=>.ok (some c) (μ'.take base)
  | none=>.stuck)else .stuck
 | .exc c ds μ'=>.exc c ds μ'
 | .stuck=>.stuck
def kTh (σ:Sl) (r:Option Str) (μ:Sto):Res Fl:=match r with
 | none=>.ok (.nx σ) μ
 | some c=>.ok (.rt (.tup [.bl false,.str c])) μ
def kPl (fl:Fl) (μ:Sto):Res Fl:=match fl with
 | .nx σ=>.ok (.nx σ) μ
 | _=>.stuck
def kGo (ei:Nat) (fl:Fl) (μ:Sto):Res Fl:=match fl with
 | .nx σ=>.ok (.nx (σ.set ei none)) μ
 | _=>.stuck
def Kt (σ:Sl) (ei:Nat) (h:Sl->Sto->Res Fl) (r:Option Str) (μ:Sto):Res Fl:=match r with
 | none=>.ok (.nx σ) μ
 | some c=>if xcls.contains c=true then(h (σ.set ei (some (.loc μ.length))) (μ++[.x c])).bind (kGo ei)else .stuck
def vc (base:Nat) (r:Res D):Res (Sum D Str):=match r with
 | .ok d μ'=>if(μ'.take base).all (dj base)=true then(match zk d with
  | some (.inl d')=>if D.belowN base 8 d'=true then .ok (.inl d') (μ'.take base)else .stuck
  | some (.inr c)=>.ok (.inr c) (μ'.take base)
  | none=>.stuck)else .stuck
 | .exc c ds μ'=>.exc c ds μ'
 | .stuck=>.stuck
def kMd (x:D) (q:Sum (List D) Str) (μ:Sto):Res (Sum (List D) Str):=match q with
 | .inl xs=>.ok (.inl (x::xs)) μ
 | .inr c=>.ok (.inr c) μ
def kMc (rest:Sto->Res (Sum (List D) Str)) (r:Sum D Str) (μ:Sto):Res (Sum (List D) Str):=match r with
 | .inl x=>(rest μ).bind (kMd x)
 | .inr c=>.ok (.inr c) μ
open Classical in
def zl (g:Gd) (f:D->Sto->Res (Sum D Str)):List D->Sto->Res (Sum (List D) Str)
 | [],μ=>if gd g μ then .ok (.inl []) μ else .stuck
 | d::ds,μ=>if gd g μ then(f d μ).bind (kMc λμ=>zl g f ds μ)else .stuck
def kMx (σ:Sl) (i:Nat) (ys:List D) (r:Sum (List D) Str) (μ:Sto):Res Fl:=match r with
 | .inl xs=>.ok (.nx (σ.set i (some (.tup (ys++xs))))) μ
 | .inr c=>.ok (.rt (.tup [.bl false,.str c])) μ
def Ov (d:D) (μ:Sto):Res Bool:=match d with
 | .bl b=>.ok b μ
 | _=>.stuck
section
variable (φ : Phi)
mutual
def evE:Ex->Sl->Sto->Res D
 | .var i,σ,μ=>match σ[i]? with
  | some (some d)=>.ok d μ
  | _=>.stuck
 | .frz i,σ,μ=>match σ[i]? with
  | some (some (.loc n))=>match μ[n]? with
   | some (.l ds)=>.ok (.lst ds) (μ.set n .dead)
   | some (.r ds)=>.ok (.lst ds) (μ.set n .dead)
   | _=>.stuck
  | _=>.stuck
 | .cst d,_,μ=>.ok d μ
 | .bin op m a b,σ,μ=>(evE a σ μ).bind λx μ=>(evE b σ μ).bind λy μ=>opD op m x y μ
 | .neg a,σ,μ=>(evE a σ μ).bind λx μ=>match x with
  | .int i=>.ok (.int (-i)) μ
  | _=>.stuck
 | .not a,σ,μ=>(evE a σ μ).bind λx μ=>match x with
  | .bl b=>.ok (.bl (!b)) μ
  | _=>.stuck
 | .and a b,σ,μ=>(evE a σ μ).bind λx μ=>match x with
  | .bl c=>if c=true then evE b σ μ else .ok (.bl false) μ
  | _=>.stuck
 | .or a b,σ,μ=>(evE a σ μ).bind λx μ=>match x with
  | .bl c=>if c=true then .ok (.bl true) μ else evE b σ μ
  | _=>.stuck
 | .ite c a b,σ,μ=>(evE c σ μ).bind λx μ=>match x with
  | .bl c=>if c=true then evE a σ μ else evE b σ μ
  | _=>.stuck
 | .cmp a r,σ,μ=>(evE a σ μ).bind λx μ=>evC r x σ μ
 | .call keep f es,σ,μ=>(fb es σ μ).bind λds μ=>nu keep μ.length (φ f ds μ)
 | .blt b m es,σ,μ=>(fb es σ μ).bind λds μ=>btD b m ds μ
 | .isi a c,σ,μ=>(evE a σ μ).bind λx μ=>Hh c x μ
 | .meth mt o es,σ,μ=>(evE o σ μ).bind λx μ=>if j3 mt x μ=true then(fb es σ μ).bind λds μ=>mtD mt x ds μ else .stuck
 | .ix a b,σ,μ=>(evE a σ μ).bind λx μ=>(evE b σ μ).bind λy μ=>ixD x y μ
 | .dix a b,σ,μ=>(evE a σ μ).bind λx μ=>(evE b σ μ).bind λy μ=>Mb x y μ
 | .sl m a lo hi,σ,μ=>(evE a σ μ).bind λx μ=>(evO lo σ μ).bind λl μ=>(evO hi σ μ).bind λh μ=>slD m x l h μ
 | .tup es,σ,μ=>(fb es σ μ).bind λds μ=>.ok (.tup ds) μ
 | .lst m es,σ,μ=>(fb es σ μ).bind λds μ=>mkL m ds μ
 | .dic t es,σ,μ=>(fb es σ μ).bind λds μ=>Ou t ds μ
 | .inT neg es d,σ,μ=>(fb es σ μ).bind λds μ=>(evE d σ μ).bind λx μ=>Q2 neg ds x μ
 | .comp m cap nl tg it cs elt,σ,μ=>(evI it σ μ).bind λds μ =>
   (mapR ds.2 (λd μ=>ik (ee tg d (cap.map (λi=>(σ[i]?).getD none)++List.replicate nl none)) λσ' =>
    (ym cs σ' μ).bind λb μ=>if b=true then(evE elt σ' μ).bind λx μ=>.ok [x] μ else .ok [] μ) ds.1 μ).bind λxs μ=>mkL m xs μ
def fb:Exs->Sl->Sto->Res (List D)
 | .nil,_,μ=>.ok [] μ
 | .cons e es,σ,μ=>(evE e σ μ).bind λd μ=>(fb es σ μ).bind λds μ=>.ok (d::ds) μ
def evC:Cps->D->Sl->Sto->Res D
 | .nil,_,_,_=>.stuck
 | .cons op e r,x,σ,μ=>(evE e σ μ).bind λy μ=>(cpD op x y μ).bind λz μ=>match r with
  | .nil=>.ok z μ
  | r=>match z with
   | .bl b=>if b=true then evC r y σ μ else .ok (.bl false) μ
   | _=>.stuck
def evO:ExO->Sl->Sto->Res (Option Int)
 | .no,_,μ=>.ok none μ
 | .so e,σ,μ=>(evE e σ μ).bind λx μ=>match x with
  | .int i=>.ok (some i) μ
  | _=>.stuck
def ym:Exs->Sl->Sto->Res Bool
 | .nil,_,μ=>.ok true μ
 | .cons e es,σ,μ=>(evE e σ μ).bind λx μ=>match x with
  | .bl b=>if b=true then ym es σ μ else .ok false μ
  | _=>.stuck
def evI:It->Sl->Sto->Res (List D×Gd)
 | .seq e,σ,μ=>(evE e σ μ).bind λx μ=>match cc μ x with
  | some w=>.ok w μ
  | none=>.stuck
 | .rng a,σ,μ=>(evE a σ μ).bind λx μ=>match x with
  | .int j=>if -(lim:Int)<=j/\j<=lim then .ok ((List.range j.toNat).map fun(i:Nat)=>D.int i,none) μ else .stuck
  | _=>.stuck
 | .rng2 a b,σ,μ=>(evE a σ μ).bind λx μ=>(evE b σ μ).bind λy μ=>match x,y with
  | .int i,.int j=>if -(lim:Int)<=i/\i<=lim/\j<=lim /\ -(lim:Int)<=j/\(j-i)<=lim then .ok ((List.range (j-i).toNat).map fun(k:Nat)=>D.int (i+k),none) μ else .stuck
  | _,_=>.stuck
 | .rng3 a b c,σ,μ=>(evE a σ μ).bind λx μ=>(evE b σ μ).bind λy μ=>(evE c σ μ).bind λz μ=>match x,y,z with
  | .int i,.int j,.int k=>if 0<=i/\i<=lim/\j<=lim/\0<=j/\1<=k/\k<=1000 then .ok ((List.range (if i<j then((j-i-1) / k+1).toNat else 0)).map fun(n:Nat)=>D.int (i+n*k),none) μ else .stuck
  | _,_,_=>.stuck
 | .zip a b,σ,μ=>(evE a σ μ).bind λx μ=>(evE b σ μ).bind λy μ=>match cc μ x,c6 [] y with
  | some w,some ys=>.ok ((w.1.zip ys).map λp=>.tup [p.1,p.2],w.2) μ
  | _,_=>.stuck
 | .enum a,σ,μ=>(evE a σ μ).bind λx μ=>match cc μ x with
  | some w=>.ok ((List.range w.1.length |>.zip w.1).map fun(p:Nat×D)=>.tup [.int p.1,p.2],w.2) μ
  | none=>.stuck
 | .rev _,_,_=>.stuck
 | .vals a,σ,μ=>(evE a σ μ).bind λx μ=>match x with
  | .loc n=>match μ[n]? with
   | some (.d kvs)=>.ok (kvs.map (·.2),none) (μ.set n .dead)
   | _=>.stuck
  | _=>.stuck
end
mutual
def evS:Sm->Sl->Sto->Res Fl
 | .set i e,σ,μ=>(evE φ e σ μ).bind λd μ=>.ok (.nx (σ.set i (some d))) μ
 | .unp is e,σ,μ=>(evE φ e σ μ).bind λd μ=>match ee (.many is) d σ with
  | some σ'=>.ok (.nx σ') μ
  | none=>.stuck
 | .setx o i v,σ,μ=>(evE φ v σ μ).bind λd μ=>(evE φ o σ μ).bind λx μ=>(evE φ i σ μ).bind λy μ=>(rn x y d μ).bind λ_ μ=>.ok (.nx σ) μ
 | .augx op o i v,σ,μ=>(evE φ o σ μ).bind λx μ=>(evE φ i σ μ).bind λy μ=>(ixL x y μ).bind λold μ=>(evE φ v σ μ).bind λd μ=>(Ot op old d μ).bind λz μ=>(rn x y z μ).bind λ_ μ=>.ok (.nx σ) μ
 | .setxT o i v,σ,μ=>(evE φ v σ μ).bind λd μ=>(evE φ o σ μ).bind λx μ=>(fb φ i σ μ).bind λy μ=>(L9 x y d μ).bind λ_ μ=>.ok (.nx σ) μ
 | .ex e,σ,μ=>(evE φ e σ μ).bind λ_ μ=>.ok (.nx σ) μ
 | .ite c a b,σ,μ=>(evE φ c σ μ).bind λx μ=>match x with
  | .bl k=>if k=true then gu a σ μ else gu b σ μ
  | _=>.stuck
 | .loop tg it b,σ,μ=>(evI φ it σ μ).bind λds μ=>k7 ds.2 (λd σ μ=>ik (ee tg d σ) λσ'=>gu b σ' μ) ds.1 σ μ
 | .ret e,σ,μ=>(evE φ e σ μ).bind λd μ=>.ok (.rt d) μ
 | .raise c es,σ,μ=>(fb φ es σ μ).bind λ_ μ=>.ok (.rt (.tup [.bl false,.str c])) μ
 | .pl s,σ,μ=>(evS s σ μ).bind kPl
 | .callx f es,σ,μ=>(fb φ es σ μ).bind λds μ=>(sk μ.length (φ f ds μ)).bind (kTh σ)
 | .mapx i cap nl tg it f es,σ,μ=>(evI φ it σ μ).bind λds μ =>
   (zl ds.2 (λd μ=>ik (ee tg d (cap.map (λi=>(σ[i]?).getD none)++List.replicate nl none)) λσ'=>(fb φ es σ' μ).bind λas μ=>vc μ.length (φ f as μ)) ds.1 μ).bind (kMx σ i [])
 | .tryc f es ei h,σ,μ=>(fb φ es σ μ).bind λds μ=>(sk μ.length (φ f ds μ)).bind (Kt σ ei λσ μ=>gu h σ μ)
 | .pass,σ,μ=>.ok (.nx σ) μ
 | .brk,σ,μ=>.ok (.bk σ) μ
 | .cont,σ,μ=>.ok (.ct σ) μ
 | .never,_,_=>.stuck
def gu:Sms->Sl->Sto->Res Fl
 | .nil,σ,μ=>.ok (.nx σ) μ
 | .cons s r,σ,μ=>(evS s σ μ).bind λfl μ=>match fl with
  | .nx σ'=>gu r σ' μ
  | fl=>.ok fl μ
end
end
structure Df where
 np:Nat
 nn:Nat
 body:Sms
def Bo (φ:Phi) (f:Df) (ds:List D) (μ:Sto):Res D :=
 if ds.length=f.np then(gu φ f.body (ds.map some++List.replicate (f.nn-f.np) none) μ).bind λfl μ=>match fl with
  | .nx _=>.ok .non μ
  | .rt d=>.ok d μ
  | _=>.stuck
 else .stuck
def ai (T:List Df):Nat->Phi
 | 0=>λ_ _ _=>.stuck
 | n+1=>λf ds μ=>match T[f]? with
  | some d=>Bo (ai T n) d ds μ
  | none=>.stuck
open PySem PySem.Spec PyProof.Rows L2
abbrev St:=L2.St
theorem _root_.L2.FzL.sq {K:PySem.W.Frag} {H:Hp} {a:Addr} {xs:List V} (h:FzL K H a xs):SqL K H a xs:=by
 rcases h with⟨o,h⟩ | ⟨its,n,h,hz,hv⟩
 ·exact .inl (.inr ⟨o,h⟩)
 ·exact .inr ⟨_,its.toArray,n,h,rfl,rfl,rfl,by rw[AE,<-hv.length];exact hz,by simpa using hv⟩
def LsL (K:PySem.W.Frag) (H:Hp) (a:Addr) (xs:List V):Prop:=H a=some (.lst xs)\/FzL K H a xs
theorem LsL.sq {K:PySem.W.Frag} {H:Hp} {a:Addr} {xs:List V} (h:LsL K H a xs):SqL K H a xs:=by
 rcases h with h | h
 ·exact .of h
 ·exact h.sq
theorem _root_.L2.Inv.ls {X:Cx} {pins:List (Addr×Obj)} {σ:St} {H:Hp} {s:Shared} {a:Addr} {xs:List V} (I:Inv X pins σ H s) (h:LsL X.K H a xs) :
  xs.length<=sizeLine/\∃(its:List Value) (n:Nat),bw xs its/\xs.length=its.length/\s.heap.get? a=some {cls:=.type "list",data:=.seq its.toArray n}:=by
 rcases h with h | ⟨o,h⟩ | ⟨its,n,h,hz,hv⟩
 ·obtain⟨z,its,n,hv,e⟩:=I.hok a _ h
  exact⟨z,its,n,hv,hv.length,e⟩
 ·obtain⟨_,z,its,n,hv,e⟩:=I.hok a _ h
  exact⟨z,its,n,hv,hv.length,e⟩
 ·exact⟨hz,its,n,hv,hv.length,I.kIn a _ h⟩
structure Ext (H H':Hp):Prop where
 tups:∀b xs,H b=some (.tup xs)->H' b=some (.tup xs)
 frzs:∀b o u,H b=some (.frz o u)->H' b=some (.frz o u)
theorem Ext.refl (H:Hp):Ext H H:=⟨λ_ _ h=>h,λ_ _ _ h=>h⟩
theorem Ext.trans {H H1 H2:Hp} (a:Ext H H1) (b:Ext H1 H2):Ext H H2:=⟨λc xs h=>b.tups c xs (a.tups c xs h),λc o u h=>b.frzs c o u (a.frzs c o u h)⟩
theorem Ext.new {H:Hp} {p:Addr} {o:HO} (h:H p=none):Ext H (upd H p o) :=
 ⟨λb xs e=>by rw[aw (ax e h)];exact e,λb o u e=>by rw[aw (ax e h)];exact e⟩
theorem Ext.lst {H:Hp} {p:Addr} {xs:List V} {o:HO} (h:H p=some (.lst xs)):Ext H (upd H p o) :=
 ⟨λb ys e=>by rw[aw (o9 e h (by intro z;cases z))];exact e,λb o u e=>by rw[aw (o9 e h (by intro z;cases z))];exact e⟩
theorem Ext.dK {H:Hp} {p:Addr} {xs:List (Key×V)} {o:HO} (h:H p=some (.dK xs)):Ext H (upd H p o) :=
 ⟨λb ys e=>by rw[aw (o9 e h (by intro z;cases z))];exact e,λb o u e=>by rw[aw (o9 e h (by intro z;cases z))];exact e⟩
theorem _root_.L2.SqT.ext {K:PySem.W.Frag} {H H':Hp} {a:Addr} {xs:List V} (h:SqT K H a xs) (e:Ext H H'):SqT K H' a xs:=by
 rcases h with(h | ⟨o,h⟩) | h
 ·exact .inl (.inl (e.tups _ _ h))
 ·exact .inl (.inr ⟨o,e.frzs _ _ _ h⟩)
 ·exact .inr h
theorem _root_.L2.FzL.ext {K:PySem.W.Frag} {H H':Hp} {a:Addr} {xs:List V} (h:FzL K H a xs) (e:Ext H H'):FzL K H' a xs:=by
 rcases h with⟨o,h⟩ | h
 ·exact .inl ⟨o,e.frzs _ _ _ h⟩
 ·exact .inr h
section
variable (K : PySem.W.Frag) (ι : List Addr) (H : Hp)
mutual
def IsD:D->V->Prop
 | .non,v=>v=.non
 | .bl b,v=>v=.bl b
 | .int i,v=>v=.int i
 | .str x,v=>v=.str x
 | .tup ds,v=>∃a xs,v=.ref a/\SqT K H a xs/\aq ds xs
 | .lst ds,v=>∃a xs,v=.ref a/\FzL K H a xs/\aq ds xs
 | .loc n,v=>∃a,v=.ref a/\ι[n]? = some a
def aq:List D->List V->Prop
 | [],xs=>xs=[]
 | d::ds,xs=>∃v r,xs=v::r/\IsD d v/\aq ds r
end
end
section
variable {K : PySem.W.Frag} {ι ι' : List Addr} {H H' : Hp}
mutual
theorem IsD.mono (hp:ι <+: ι') (he:Ext H H'):∀(d:D) (v:V),IsD K ι H d v->IsD K ι' H' d v
 | .non,_,h=>by simpa[IsD]using h
 | .bl b,_,h=>by simpa[IsD]using h
 | .int i,_,h=>by simpa[IsD]using h
 | .str x,_,h=>by simpa[IsD]using h
 | .tup ds,v,h=>by
  simp![IsD]at h ⊢
  obtain⟨a,xs,e,q,r⟩:=h
  exact⟨a,xs,e,q.ext he,aq.mono hp he ds xs r⟩
 | .lst ds,v,h=>by
  simp![IsD]at h ⊢
  obtain⟨a,xs,e,q,r⟩:=h
  exact⟨a,xs,e,q.ext he,aq.mono hp he ds xs r⟩
 | .loc n,v,h=>by
  simp![IsD]at h ⊢
  obtain⟨a,e,q⟩:=h
  obtain⟨t,rfl⟩:=hp
  exact⟨a,e,by rw[AK (AF.mp q).1];exact q⟩
theorem aq.mono (hp:ι <+: ι') (he:Ext H H'):∀(ds:List D) (xs:List V),aq K ι H ds xs->aq K ι' H' ds xs
 | [],xs,h=>by simpa[aq]using h
 | d::ds,xs,h=>by
  simp![aq]at h ⊢
  obtain⟨v,r,e,q,t⟩:=h
  exact⟨v,r,e,IsD.mono hp he d v q,aq.mono hp he ds r t⟩
end
theorem aq.length:∀{ds:List D} {xs:List V},aq K ι H ds xs->xs.length=ds.length
 | [],xs,h=>by simp![aq]at h;subst h;rfl
 | d::ds,xs,h=>by
  simp![aq]at h
  obtain⟨v,r,rfl,_,t⟩:=h
  simp[aq.length t]
theorem aq.get:∀{ds:List D} {xs:List V} {i:Nat} {d:D},aq K ι H ds xs->ds[i]? = some d->∃v,xs[i]? = some v/\IsD K ι H d v
 | [],_,_,_,_,e=>by simp at e
 | d::ds,xs,0,_,h,e=>by
  simp![aq]at h
  obtain⟨v,r,rfl,q,_⟩:=h
  simp at e;subst e
  exact⟨v,rfl,q⟩
 | d::ds,xs,i+1,x,h,e=>by
  simp![aq]at h
  obtain⟨v,r,rfl,_,t⟩:=h
  obtain⟨w,h1,h2⟩:=aq.get (i:=i) (d:=x) t (by simpa using e)
  exact⟨w,by simpa using h1,h2⟩
theorem aq.append:∀{ds es:List D} {xs ys:List V},aq K ι H ds xs->aq K ι H es ys->aq K ι H (ds++es) (xs++ys)
 | [],_,_,_,h,g=>by simp![aq]at h;subst h;exact g
 | d::ds,es,xs,ys,h,g=>by
  simp![aq]at h
  obtain⟨v,r,rfl,q,t⟩:=h
  simp![GQ,aq]
  exact⟨v,r++ys,rfl,q,aq.append t g⟩
theorem aq.one {d:D} {v:V} (h:IsD K ι H d v):aq K ι H [d] [v]:=by
 simp![aq];exact⟨v,[],rfl,h,rfl⟩
theorem aq.take:∀{ds:List D} {xs:List V} (n:Nat),aq K ι H ds xs->aq K ι H (ds.take n) (xs.take n)
 | _,_,0,_=>by simp[aq]
 | [],_,n+1,h=>by simp![aq]at h;subst h;simp[aq]
 | d::ds,xs,n+1,h=>by
  simp![aq]at h
  obtain⟨v,r,rfl,q,t⟩:=h
  simp![List.take_succ_cons,aq]
  exact⟨v,_,rfl,q,aq.take n t⟩
theorem aq.drop:∀{ds:List D} {xs:List V} (n:Nat),aq K ι H ds xs->aq K ι H (ds.drop n) (xs.drop n)
 | _,_,0,h=>by simpa using h
 | [],_,n+1,h=>by simp![aq]at h;subst h;simp[aq]
 | d::ds,xs,n+1,h=>by
  simp![aq]at h
  obtain⟨v,r,rfl,q,t⟩:=h
  simpa using aq.drop n t
theorem aq.set {d:D} {v:V} (hd:IsD K ι H d v):∀{ds:List D} {xs:List V} (n:Nat),aq K ι H ds xs->aq K ι H (ds.set n d) (xs.set n v)
 | [],_,n,h=>by simp![aq]at h;subst h;simp[aq]
 | e::ds,xs,0,h=>by
  simp![aq]at h
  obtain⟨w,r,rfl,q,t⟩:=h
  simp![List.set_cons_zero,aq]
  exact⟨v,r,rfl,hd,t⟩
 | e::ds,xs,n+1,h=>by
  simp![aq]at h
  obtain⟨w,r,rfl,q,t⟩:=h
  simp![List.set_cons_succ,aq]
  exact⟨w,_,rfl,q,aq.set hd n t⟩
theorem aq.eraseIdx:∀{ds:List D} {xs:List V} (n:Nat),aq K ι H ds xs->aq K ι H (ds.eraseIdx n) (xs.eraseIdx n)
 | [],_,n,h=>by simp![aq]at h;subst h;simp[aq]
 | e::ds,xs,0,h=>by
  simp![aq]at h
  obtain⟨w,r,rfl,q,t⟩:=h
  simpa using t
 | e::ds,xs,n+1,h=>by
  simp![aq]at h
  obtain⟨w,r,rfl,q,t⟩:=h
  simp![GP,aq]
  exact⟨w,_,rfl,q,aq.eraseIdx n t⟩
theorem aq.reverse:∀{ds:List D} {xs:List V},aq K ι H ds xs->aq K ι H ds.reverse xs.reverse
 | [],_,h=>by simp![aq]at h;subst h;simp[aq]
 | e::ds,xs,h=>by
  simp![aq]at h
  obtain⟨w,r,rfl,q,t⟩:=h
  simp![GA]
  exact(aq.reverse t).append (.one q)
theorem aq.dropLast {ds:List D} {xs:List V} (h:aq K ι H ds xs):aq K ι H ds.dropLast xs.dropLast:=by
 rw[HC,HC,h.length]
 exact h.take _
theorem aq.rep {ds:List D} {xs:List V} (h:aq K ι H ds xs):∀k:Nat,aq K ι H (List.replicate k ds).flatten (List.replicate k xs).flatten
 | 0=>by simp[aq]
 | k+1=>by
  simp![CV,DV]
  exact h.append (aq.rep h k)
theorem aq.ints:∀(ns:List Int),aq K ι H (ns.map D.int) (ns.map V.int)
 | []=>by simp[aq]
 | n::r=>by
  simp![AX,aq]
  exact⟨_,_,rfl,by simp[IsD],aq.ints r⟩
theorem IsD.puren:∀(k:Nat) (d:D) (v:V),D.pureN k d=true->IsD K ι H d v->IsD K ι' H d v:=by
 have list:∀(k:Nat),(∀(d:D) (v:V),D.pureN k d=true->IsD K ι H d v->IsD K ι' H d v) ->
   ∀(ds:List D) (xs:List V),ds.all (D.pureN k)=true->aq K ι H ds xs->aq K ι' H ds xs:=by
  intro k ih ds
  induction ds with
  | nil=>intro xs _ h;simpa[aq]using h
  | cons d ds ihd =>
   intro xs hp h
   simp![aq]at h ⊢
   simp![AY,AW]at hp
   obtain⟨v,r,e,q,t⟩:=h
   exact⟨v,r,e,ih d v hp.1 q,ihd r hp.2 t⟩
 intro k
 induction k with
 | zero =>
  intro d v hp h
  cases d<;>simp_all[D.pureN,IsD]
 | succ k ih =>
  intro d v hp h
  cases d with
  | tup ds =>
   simp![D.pureN]at hp
   simp![IsD]at h ⊢
   obtain⟨a,xs,e,q,r⟩:=h
   exact⟨a,xs,e,q,list k ih ds xs hp r⟩
  | lst ds =>
   simp![D.pureN]at hp
   simp![IsD]at h ⊢
   obtain⟨a,xs,e,q,r⟩:=h
   exact⟨a,xs,e,q,list k ih ds xs hp r⟩
  | loc n=>simp[D.pureN]at hp
  | _=>simpa[IsD]using h
theorem IsD.pur {d:D} {v:V} (hp:d.pure=true) (h:IsD K ι H d v):IsD K ι' H d v:=IsD.puren 8 d v hp h
theorem aq.pur {ds:List D} {xs:List V} (hp:ds.all (D.pureN 8)=true) (h:aq K ι H ds xs):aq K ι' H ds xs:=by
 induction ds generalizing xs with
 | nil=>simpa[aq]using h
 | cons d ds ih =>
  simp![aq]at h ⊢
  simp![AY,AW]at hp
  obtain⟨v,r,e,q,t⟩:=h
  exact⟨v,r,e,IsD.pur hp.1 q,ih hp.2 t⟩
end
section
variable (K : PySem.W.Frag) (ι : List Addr) (H : Hp)
def Ec (kvs:List (D×D)) (xs:List (Key×V)):Prop :=
 Paired (fun(p:D×D) (q:Key×V)=>IsD K [] H p.1 (kV q.1)/\IsD K [] H p.2 q.2) kvs xs
def Q3 (kvs:List (D×D)) (xs:List (List Key×V)):Prop :=
 Paired (fun(p:D×D) (q:List Key×V)=>(∃ds,p.1=.tup ds/\aq K [] H ds (q.1.map kV))/\IsD K [] H p.2 q.2) kvs xs
def OIs (a:Addr):O->Prop
 | .l ds=>∃xs,H a=some (.lst xs)/\aq K [] H ds xs
 | .r ds=>∃xs,H a=some (.lst xs)/\aq K ι H ds xs
 | .d kvs=>∃xs,H a=some (.dK xs)/\Ec K H kvs xs
 | .dt kvs=>∃xs,H a=some (.dT xs)/\Q3 K H kvs xs
 | .x c=>∃cls,PySem.W.nsIn K mainGlobals c=some (some cls)/\H a=some (Kr a cls)
 | .dead=>∃u,H a=some u
structure Sim (μ:Sto):Prop where
 len:ι.length=μ.length
 nd:ι.Nodup
 obj:∀(n:Nat) a o,ι[n]? = some a->μ[n]? = some o->OIs K ι H a o
def jx (σ:Sl) (σv:St):Prop:=∀(i:Nat) d,σ[i]? = some (some d)->∃v,σv[i]? = some (some v)/\IsD K ι H d v
end
section
variable {K : PySem.W.Frag} {ι ι' : List Addr} {H H' : Hp} {μ : Sto} {σ : Sl} {σv : St}
theorem jx.mono (h:jx K ι H σ σv) (hp:ι <+: ι') (he:Ext H H'):jx K ι' H' σ σv:=λi d e=>by
 obtain⟨v,q,r⟩:=h i d e
 exact⟨v,q,IsD.mono hp he d v r⟩
theorem jx.set (h:jx K ι H σ σv) (hl:σ.length=σv.length) {i:Nat} {d:D} {v:V} (hd:IsD K ι H d v):jx K ι H (σ.set i (some d)) (σv.set i (some v)):=λj e q=>by
 by_cases hj:i=j
 ·subst hj
  by_cases hi:i<σ.length
  ·rw[AZ hi]at q
   cases q
   exact⟨v,by rw[AZ (by lia)],hd⟩
  ·rw[EV (by simp;lia)]at q;cases q
 ·rw[BB hj]at q
  obtain⟨w,q1,q2⟩:=h j e q
  exact⟨w,by rw[BB hj];exact q1,q2⟩
theorem OIs.ne (h:OIs K ι H a o):∃u,H a=some u:=by
 cases o with
 | l ds=>obtain⟨xs,e,_⟩:=h;exact⟨_,e⟩
 | r ds=>obtain⟨xs,e,_⟩:=h;exact⟨_,e⟩
 | d kvs=>obtain⟨xs,e,_⟩:=h;exact⟨_,e⟩
 | dt kvs=>obtain⟨xs,e,_⟩:=h;exact⟨_,e⟩
 | x c=>obtain⟨_,_,e⟩:=h;exact⟨_,e⟩
 | dead=>exact h
theorem OIs.mono {a:Addr} {o:O} (h:OIs K ι H a o) (hp:ι <+: ι') (he:Ext H H') (ha:H' a=H a):OIs K ι' H' a o:=by
 cases o with
 | l ds=>obtain⟨xs,e,q⟩:=h;exact⟨xs,ha.trans e,aq.mono (AD _) he ds xs q⟩
 | r ds=>obtain⟨xs,e,q⟩:=h;exact⟨xs,ha.trans e,aq.mono hp he ds xs q⟩
 | d kvs =>
  obtain⟨xs,e,q⟩:=h
  exact⟨xs,ha.trans e,Paired.mapP q λp r z=>⟨IsD.mono (AD _) he _ _ z.1,IsD.mono (AD _) he _ _ z.2⟩⟩
 | dt kvs =>
  obtain⟨xs,e,q⟩:=h
  exact⟨xs,ha.trans e,Paired.mapP q λp r z=>⟨let ⟨ds,e,t⟩:=z.1;⟨ds,e,aq.mono (AD _) he _ _ t⟩,IsD.mono (AD _) he _ _ z.2⟩⟩
 | x c=>obtain⟨k,q,e⟩:=h;exact⟨k,q,ha.trans e⟩
 | dead=>obtain⟨u,e⟩:=h;exact⟨u,ha.trans e⟩
theorem Sim.at (h:Sim K ι H μ) {n:Nat} {o:O} (e:μ[n]? = some o):∃a,ι[n]? = some a/\OIs K ι H a o:=by
 have hn:n<ι.length:=by rw[h.len];exact(AF.mp e).1
 exact⟨ι[n],AB hn,h.obj n _ o (AB hn) e⟩
theorem Sim.used (h:Sim K ι H μ) {n:Nat} {a:Addr} (e:ι[n]? = some a):∃u,H a=some u:=by
 have hn:n<μ.length:=by rw[<-h.len];exact(AF.mp e).1
 exact(h.obj n a _ e (AB hn)).ne
theorem Sim.new (h:Sim K ι H μ) {p:Addr} {o:HO} (hp:H p=none):Sim K ι (upd H p o) μ :=
 ⟨h.len,h.nd,λn a ob e1 e2=>by
  obtain⟨u,hu⟩:=h.used e1
  exact(h.obj n a ob e1 e2).mono (AD _) (.new hp) (aw (ax hu hp))⟩
theorem Sim.push (h:Sim K ι H μ) {p:Addr} {u:HO} {o:O} (hp:H p=none) (ho:OIs K (ι++[p]) (upd H p u) p o):Sim K (ι++[p]) (upd H p u) (μ++[o]):=by
 have hne:∀a∈ι,a≠p:=λa ha z=>by
  obtain⟨n,hn,e⟩:=List.mem_iff_getElem.mp ha
  obtain⟨u,hu⟩:=h.used (n:=n) (by rw[AB hn,e])
  rw[z,hp]at hu;cases hu
 refine⟨by simp[h.len],?_,λn a ob e1 e2=>?_⟩
 ·refine DA.mpr ⟨h.nd,by simp,?_⟩
  intro a ha b hb
  have:b=p:=by simpa using hb
  subst this
  exact hne a ha
 ·by_cases hn:n<ι.length
  ·rw[AK hn]at e1
   rw[AK (by rw[<-h.len];exact hn)]at e2
   exact(h.obj n a ob e1 e2).mono ⟨[p],rfl⟩ (.new hp) (aw (hne a (AV e1)))
  ·have hm:n=ι.length:=by
    have:=(AF.mp e1).1
    simp at this;lia
   subst hm
   simp at e1
   rw[h.len]at e2
   simp at e2
   subst e1;subst e2
   exact ho
theorem Sim.put (h:Sim K ι H μ) {n:Nat} {p:Addr} {u:HO} {o:O} (hn:ι[n]? = some p) (he:Ext H (upd H p u)) (ho:OIs K ι (upd H p u) p o):Sim K ι (upd H p u) (μ.set n o):=by
 refine⟨by simp[h.len],h.nd,λk a ob e1 e2=>?_⟩
 by_cases hk:n=k
 ·subst hk
  rw[hn]at e1;cases e1
  have:n<μ.length:=by rw[<-h.len];exact(AF.mp hn).1
  rw[AZ this]at e2;cases e2
  exact ho
 ·rw[BB hk]at e2
  refine(h.obj k a ob e1 e2).mono (AD _) he (aw λz=>hk ?_)
  subst z
  obtain⟨h1,e1'⟩:=AF.mp e1
  obtain⟨h2,e2'⟩:=AF.mp hn
  exact(GM h.nd).mp (e2'.trans e1'.symm)
end
def fz {α β:Type} (K:PySem.W.Frag) (R:List Addr->Hp->α->β->Prop) (ι:List Addr) (H:Hp) (r:Res α) (Q:β->Hp->Prop):Prop:=match r with
 | .ok d μ'=>∀ι' v H',ι <+: ι'->Ext H H'->Sim K ι' H' μ'->R ι' H' d v->Q v H'
 | .exc _ _ _=>False
 | .stuck=>False
abbrev RD (K:PySem.W.Frag):List Addr->Hp->D->V->Prop:=λι H d v=>IsD K ι H d v
abbrev RDs (K:PySem.W.Frag):List Addr->Hp->List D->List V->Prop:=λι H d v=>aq K ι H d v
abbrev RB:List Addr->Hp->Bool->Bool->Prop:=λ_ _ d v=>d=v
abbrev RO:List Addr->Hp->Option Int->Option Int->Prop:=λ_ _ d v=>d=v
section
variable {α β γ δ : Type} {K : PySem.W.Frag} {R : List Addr -> Hp -> α -> β -> Prop} {S : List Addr -> Hp -> γ -> δ -> Prop} {ι ι' : List Addr} {H H' : Hp}
theorem fz.mono {r:Res α} {Q:β->Hp->Prop} (h:fz K R ι H r Q) (hp:ι <+: ι') (he:Ext H H'):fz K R ι' H' r Q:=by
 cases r with
 | ok d μ=>exact λι2 v H2 p e s q=>h ι2 v H2 (hp.trans p) (he.trans e) s q
 | exc _ _ _=>exact h
 | stuck=>exact h
theorem fz.imp {r:Res α} {Q Q':β->Hp->Prop} (h:fz K R ι H r Q) (hq:∀v H',Q v H'->Q' v H'):fz K R ι H r Q':=by
 cases r with
 | ok d μ=>exact λι2 v H2 p e s q=>hq _ _ (h ι2 v H2 p e s q)
 | exc _ _ _=>exact h
 | stuck=>exact h
theorem fz.ok {d:α} {μ:Sto} {v:β} {Q:β->Hp->Prop} (h:fz K R ι H (.ok d μ) Q) (hs:Sim K ι H μ) (hr:R ι H d v):Q v H:=h ι v H (AD _) (.refl _) hs hr
theorem fz.bind {x:Res α} {f:α->Sto->Res γ} {Q:δ->Hp->Prop} (h:fz K S ι H (x.bind f) Q) :
  ∃d μ1,x=.ok d μ1/\fz K S ι H (f d μ1) Q:=by
 cases x with
 | ok d μ=>exact⟨d,μ,rfl,h⟩
 | exc _ _ _=>exact h.elim
 | stuck=>exact h.elim
end
def tE (K:PySem.W.Frag) (φ:Phi) (x:Ex):TE:=λσv H Q=>∃ι σ μ,Sim K ι H μ/\jx K ι H σ σv/\fz K (RD K) ι H (evE φ x σ μ) Q
def tEs (K:PySem.W.Frag) (φ:Phi) (x:Exs):TA:=λσv H Q=>∃ι σ μ,Sim K ι H μ/\jx K ι H σ σv/\fz K (RDs K) ι H (fb φ x σ μ) Q
def tEo (K:PySem.W.Frag) (φ:Phi) (x:ExO):TO:=λσv H Q=>∃ι σ μ,Sim K ι H μ/\jx K ι H σ σv/\fz K RO ι H (evO φ x σ μ) Q
def tT (K:PySem.W.Frag) (φ:Phi) (x:Ex):TT:=λσv H Q=>∃ι σ μ,Sim K ι H μ/\jx K ι H σ σv/\fz K RB ι H ((evE φ x σ μ).bind λd μ=>Ov d μ) Q
theorem PE.imp {X:Cx} {e:Expr} {t t':TE} (h:PE X e t) (i:∀σ H Q,t' σ H Q->t σ H Q):PE X e t':=λpins s σ H Q I q=>h pins s σ H Q I (i σ H Q q)
theorem PA.imp {X:Cx} {e:List Expr} {t t':TA} (h:PA X e t) (i:∀σ H Q,t' σ H Q->t σ H Q):PA X e t':=λpos pins s σ H Q I q=>h pos pins s σ H Q I (i σ H Q q)
theorem PT.imp {X:Cx} {e:Expr} {t t':TT} (h:PT X e t) (i:∀σ H Q,t' σ H Q->t σ H Q):PT X e t':=λpins s σ H Q I q=>h pins s σ H Q I (i σ H Q q)
theorem PW.imp {X:Cx} {e:Expr} {t t':TT} (h:PW X e t) (i:∀σ H Q,t' σ H Q->t σ H Q):PW X e t':=λwh pins s σ H Q I q=>h wh pins s σ H Q I (i σ H Q q)
section
variable {X : Cx} {φ : Phi} {a b c : Expr} {xa xb xc : Ex} {pos : Pos}
theorem Mc {i:Nat} {x:Str} (hN:X.N[i]? = some x) (hv:Vis X.env.scope x) (hd:(x==("__debug__":Str))=false) (hcd:(x==("__classdict__":Str))=false):PE X (.Name x pos) (tE X.K φ (.var i)) :=
 PE.imp (Dy hN hv hd hcd) λσv H Q ⟨ι,σ,μ,hS,hL,h⟩=>by
  simp![evE]at h
  split at h
  ·rename_i d e
   obtain⟨v,e1,e2⟩:=hL i d e
   exact⟨v,e1,h.ok hS e2⟩
  ·exact h.elim
theorem Md {i:Int} {j:Nat}:PE X (.Constant (.int i) j pos) (tE X.K φ (.cst (.int i))) :=
 PE.imp Hn λσv H Q ⟨ι,σ,μ,hS,hL,h⟩=>by simp![evE]at h;exact h.ok hS (by simp[IsD])
theorem Q4 {i:Bool} {j:Nat}:PE X (.Constant (.bool i) j pos) (tE X.K φ (.cst (.bl i))) :=
 PE.imp Ld λσv H Q ⟨ι,σ,μ,hS,hL,h⟩=>by simp![evE]at h;exact h.ok hS (by simp[IsD])
theorem Me {i:Str} {j:Nat}:PE X (.Constant (.str i) j pos) (tE X.K φ (.cst (.str i))) :=
 PE.imp Ho λσv H Q ⟨ι,σ,μ,hS,hL,h⟩=>by simp![evE]at h;exact h.ok hS (by simp[IsD])
theorem two {σv:St} {H:Hp} {ι:List Addr} {σ:Sl} {μ:Sto} {f:D->D->Sto->Res D} {Q:VK} {R:V->V->Hp->Prop} (hS:Sim X.K ι H μ) (hL:jx X.K ι H σ σv)
  (h:fz X.K (RD X.K) ι H ((evE φ xa σ μ).bind λx μ=>(evE φ xb σ μ).bind λy μ=>f x y μ) Q)
  (k:∀ι' H' d e x y μ',Sim X.K ι' H' μ'->IsD X.K ι' H' d x->IsD X.K ι' H' e y->fz X.K (RD X.K) ι' H' (f d e μ') Q->R x y H') :
  tE X.K φ xa σv H λx H1=>tE X.K φ xb σv H1 λy H2=>R x y H2:=by
 obtain⟨d,μ1,e1,h⟩:=h.bind
 refine⟨ι,σ,μ,hS,hL,?_⟩
 rw[e1]
 intro ι1 x H1 p1 x1 s1 d1
 obtain⟨e,μ2,e2,h⟩:=h.bind
 refine⟨ι1,σ,μ1,s1,hL.mono p1 x1,?_⟩
 rw[e2]
 intro ι2 y H2 p2 x2 s2 d2
 exact k ι2 H2 d e x y μ2 s2 (IsD.mono p2 x2 d x d1) d2 (h.mono (p1.trans p2) (x1.trans x2))
def rOp (K:PySem.W.Frag) (f:D->D->Sto->Res D):R2:=λx y H Q=>∃ι d e μ,Sim K ι H μ/\IsD K ι H d x/\IsD K ι H e y/\fz K (RD K) ι H (f d e μ) Q
theorem Mf {op:Operator} {m:Mk} (ho:OpR X (binaryOp op) (rOp X.K (opD op m))) (ha:PE X a (tE X.K φ xa)) (hb:PE X b (tE X.K φ xb)):PE X (.BinOp a op b pos) (tE X.K φ (.bin op m xa xb)) :=
 PE.imp (Lj ho ha hb) λσv H Q ⟨ι,σ,μ,hS,hL,h⟩=>by
  simp![evE]at h
  exact two hS hL h λι' H' d e x y μ' s d1 d2 p=>⟨ι',d,e,μ',s,d1,d2,p⟩
theorem Q5 (ho:IxR X (rOp X.K ixD)) (ha:PE X a (tE X.K φ xa)) (hb:PE X b (tE X.K φ xb)) (hs:ux b):PE X (.Subscript a b pos) (tE X.K φ (.ix xa xb)) :=
 PE.imp (Lv ho ha hb hs) λσv H Q ⟨ι,σ,μ,hS,hL,h⟩=>by
  simp![evE]at h
  exact two hS hL h λι' H' d e x y μ' s d1 d2 p=>⟨ι',d,e,μ',s,d1,d2,p⟩
theorem Ft:PA X [] (tEs X.K φ .nil) :=
 PA.imp wj λσv H Q ⟨ι,σ,μ,hS,hL,h⟩=>by simp![fb]at h;exact h.ok hS (by simp[aq])
theorem wx {es:List Expr} {xs:Exs} (ha:PE X a (tE X.K φ xa)) (hb:PA X es (tEs X.K φ xs)) (hs:starEach (a::es) X.env=(false,eval a X.env)::starEach es X.env):PA X (a::es) (tEs X.K φ (.cons xa xs)) :=
 PA.imp (ky ha hb hs) λσv H Q ⟨ι,σ,μ,hS,hL,h⟩=>by
  simp![fb]at h
  obtain⟨d,μ1,e1,h⟩:=h.bind
  refine⟨ι,σ,μ,hS,hL,?_⟩
  rw[e1]
  intro ι1 x H1 p1 x1 s1 d1
  obtain⟨e,μ2,e2,h⟩:=h.bind
  refine⟨ι1,σ,μ1,s1,hL.mono p1 x1,?_⟩
  rw[e2]
  intro ι2 y H2 p2 x2 s2 d2
  refine h ι2 (x::y) H2 (p1.trans p2) (x1.trans x2) s2 ?_
  show aq _ _ _ _ _
  simp![aq]
  exact⟨x,y,rfl,IsD.mono p2 x2 d x d1,d2⟩
theorem Mg {es:List Expr} {xs:Exs} {k:Nat} (h:PA X es (tEs X.K φ xs)) (hl:∀σ μ ds μ',fb φ xs σ μ=.ok ds μ'->ds.length<=sizeLine):PE X (.Tuple es k pos) (tE X.K φ (.tup xs)) :=
 PE.imp (Hz h) λσv H Q ⟨ι,σ,μ,hS,hL,h⟩=>by
  simp![evE]at h
  obtain⟨ds,μ1,e1,h⟩:=h.bind
  refine⟨ι,σ,μ,hS,hL,?_⟩
  rw[e1]
  intro ι1 vs H1 p1 x1 s1 d1
  have hd:aq X.K ι1 H1 ds vs:=d1
  refine⟨by rw[hd.length];exact hl σ μ ds μ1 e1,λp hp=>?_⟩
  refine h ι1 (.ref p) (upd H1 p (.tup vs)) p1 (x1.trans (.new hp)) (s1.new hp) ?_
  show IsD _ _ _ _ _
  simp![IsD]
  exact⟨p,vs,rfl,.of br,aq.mono (AD _) (.new hp) ds vs d1⟩
theorem Mh {x:Ex} {σv:St} {H:Hp} {Q:Bool->Hp->Prop} (h:tT X.K φ x σv H Q):tE X.K φ x σv H λv H'=>∃k,v=.bl k/\Q k H':=by
 obtain⟨ι,σ,μ,hS,hL,h⟩:=h
 obtain⟨d,μ1,e1,h⟩:=h.bind
 refine⟨ι,σ,μ,hS,hL,?_⟩
 rw[e1]
 intro ι1 x H1 p1 x1 s1 d1
 cases d with
 | bl k=>exact⟨k,by simpa[IsD]using d1,h ι1 k H1 p1 x1 s1 rfl⟩
 | _=>exact h.elim
theorem Fu {x:Ex} (ha:PE X a (tE X.K φ x)) (he:∀whole,isTrue a X.env whole=(do let v <-whole;standAt a.pos;holding [v] (truthy v))):PT X a (tT X.K φ x) :=
 PT.imp (Bv ha he) λσv H Q h=>by
  have q:=Mh h
  obtain⟨ι,σ,μ,hS,hL,q⟩:=q
  exact⟨ι,σ,μ,hS,hL,q.imp λv H' ⟨k,e,z⟩=>⟨k,by subst e;exact rfl,z⟩⟩
theorem Jb (ha:PT X a (tT X.K φ xa)):PT X (.UnaryOp .Not a pos) (tT X.K φ (.not xa)) :=
 PT.imp (Hr ha) λσv H Q ⟨ι,σ,μ,hS,hL,h⟩=>by
  simp![evE]at h
  rw[Res.bind_assoc]at h
  obtain⟨d,μ1,e1,h⟩:=h.bind
  refine⟨ι,σ,μ,hS,hL,?_⟩
  rw[e1]
  cases d with
  | bl k=>exact λι1 x H1 p1 x1 s1 d1=>h ι1 (!x) H1 p1 x1 s1 (by cases d1;rfl)
  | _=>exact h.elim
theorem Mi (ha:PE X a (tE X.K φ xa)):PE X (.UnaryOp .USub a pos) (tE X.K φ (.neg xa)) :=
 PE.imp (Lk Hw ha) λσv H Q ⟨ι,σ,μ,hS,hL,h⟩=>by
  simp![evE]at h
  obtain⟨d,μ1,e1,h⟩:=h.bind
  refine⟨ι,σ,μ,hS,hL,?_⟩
  rw[e1]
  intro ι1 x H1 p1 x1 s1 d1
  cases d with
  | int k=>exact⟨k,by simpa[IsD]using d1,h ι1 (.int (-k)) H1 p1 x1 s1 (by simp[IsD])⟩
  | _=>exact h.elim
theorem Mj {rest:List Expr} (ha:PT X a (tT X.K φ xa)) (hb:PW X (.BoolOp .Or (b::rest) pos) (tT X.K φ xb)):PW X (.BoolOp .Or (a::b::rest) pos) (tT X.K φ (.or xa xb)) :=
 PW.imp (Le ha hb) λσv H Q ⟨ι,σ,μ,hS,hL,h⟩=>by
  simp![evE]at h
  rw[Res.bind_assoc]at h
  obtain⟨d,μ1,e1,h⟩:=h.bind
  refine⟨ι,σ,μ,hS,hL,?_⟩
  rw[e1]
  cases d with
  | bl k =>
   intro ι1 x H1 p1 x1 s1 d1
   cases d1
   cases k with
   | true=>exact h ι1 true H1 p1 x1 s1 rfl
   | false=>exact⟨ι1,σ,μ1,s1,hL.mono p1 x1,(show fz _ _ _ _ ((evE φ xb σ μ1).bind _) _ from h).mono p1 x1⟩
  | _=>exact h.elim
end
def je (K:PySem.W.Frag) (ι:List Addr) (H:Hp) (r:Res Fl) (E:Ends):Prop:=match r with
 | .ok (.nx σ') μ'=>∀ι' σv H',ι <+: ι'->Ext H H'->Sim K ι' H' μ'->jx K ι' H' σ' σv->σ'.length=σv.length->E.nx σv H'
 | .ok (.bk σ') μ'=>∀ι' σv H',ι <+: ι'->Ext H H'->Sim K ι' H' μ'->jx K ι' H' σ' σv->σ'.length=σv.length->E.bk σv H'
 | .ok (.ct σ') μ'=>∀ι' σv H',ι <+: ι'->Ext H H'->Sim K ι' H' μ'->jx K ι' H' σ' σv->σ'.length=σv.length->E.ct σv H'
 | .ok (.rt d) μ'=>∀ι' v H',ι <+: ι'->Ext H H'->Sim K ι' H' μ'->IsD K ι' H' d v->E.rt v H'
 | .exc _ _ _=>False
 | .stuck=>False
theorem je.mono {K:PySem.W.Frag} {ι ι':List Addr} {H H':Hp} {r:Res Fl} {E:Ends} (h:je K ι H r E) (hp:ι <+: ι') (he:Ext H H'):je K ι' H' r E:=by
 cases r with
 | ok f μ=>cases f<;>exact λι2 v H2 p e=>h ι2 v H2 (hp.trans p) (he.trans e)
 | exc _ _ _=>exact h
 | stuck=>exact h
theorem je.bind {α:Type} {K:PySem.W.Frag} {ι:List Addr} {H:Hp} {E:Ends} {x:Res α} {f:α->Sto->Res Fl} (h:je K ι H (x.bind f) E):∃d μ1,x=.ok d μ1/\je K ι H (f d μ1) E:=by
 cases x with
 | ok d μ=>exact⟨d,μ,rfl,h⟩
 | exc _ _ _=>exact h.elim
 | stuck=>exact h.elim
def tS (K:PySem.W.Frag) (φ:Phi) (x:Sm):TS:=λE σv H=>∃ι σ μ,Sim K ι H μ/\jx K ι H σ σv/\σ.length=σv.length/\je K ι H (evS φ x σ μ) E
def tSs (K:PySem.W.Frag) (φ:Phi) (x:Sms):TS:=λE σv H=>∃ι σ μ,Sim K ι H μ/\jx K ι H σ σv/\σ.length=σv.length/\je K ι H (gu φ x σ μ) E
theorem PS.imp {X:Cx} {e:Stmt} {t t':TS} (h:PS X e t) (i:∀E σ H,t' E σ H->t E σ H):PS X e t':=λpins s σ H E I q=>h pins s σ H E I (i E σ H q)
theorem PSs.imp {X:Cx} {e:List Stmt} {t t':TS} (h:PSs X e t) (i:∀E σ H,t' E σ H->t E σ H):PSs X e t':=λpins s σ H E I q=>h pins s σ H E I (i E σ H q)
section
variable {X : Cx} {φ : Phi} {e : Expr} {x : Ex} {pos : Pos} {s : Stmt} {ss : List Stmt} {xs : Sm} {xss : Sms}
theorem Ml:PSs X [] (tSs X.K φ .nil) :=
 PSs.imp zq λE σv H ⟨ι,σ,μ,hS,hL,hl,h⟩=>by
  simp![gu]at h
  exact h ι σv H (AD _) (.refl _) hS hL hl
theorem Jc (h1:PS X s (tS X.K φ xs)) (h2:PSs X ss (tSs X.K φ xss)):PSs X (s::ss) (tSs X.K φ (.cons xs xss)) :=
 PSs.imp (we h1 h2) λE σv H ⟨ι,σ,μ,hS,hL,hl,h⟩=>by
  simp![gu]at h
  refine⟨ι,σ,μ,hS,hL,hl,?_⟩
  obtain⟨f,μ1,e1,h⟩:=h.bind
  rw[e1]
  cases f with
  | nx σ'=>exact λι1 σ1 H1 p1 x1 s1 l1 z1=>⟨ι1,σ',μ1,s1,l1,z1,(show je _ _ _ (gu φ xss σ' μ1) _ from h).mono p1 x1⟩
  | rt d=>exact h
  | bk σ'=>exact h
  | ct σ'=>exact h
theorem Jd (he:PE X e (tE X.K φ x)) (hs:swapsWith e none pos.line X.env=pure false):PS X (.Expr e pos) (tS X.K φ (.ex x)) :=
 PS.imp (Eu he hs) λE σv H ⟨ι,σ,μ,hS,hL,hl,h⟩=>by
  simp![evS]at h
  obtain⟨d,μ1,e1,h⟩:=h.bind
  refine⟨ι,σ,μ,hS,hL,?_⟩
  rw[e1]
  exact λι1 v H1 p1 x1 s1 d1=>h ι1 σv H1 p1 x1 s1 (hL.mono p1 x1) hl
theorem Mm (he:PE X e (tE X.K φ x)):PS X (.Return (some e) pos) (tS X.K φ (.ret x)) :=
 PS.imp (D0 he) λE σv H ⟨ι,σ,μ,hS,hL,hl,h⟩=>by
  simp![evS]at h
  obtain⟨d,μ1,e1,h⟩:=h.bind
  refine⟨ι,σ,μ,hS,hL,?_⟩
  rw[e1]
  exact h
theorem Fv:PS X s (tS X.K φ .never) :=
 PS.imp Br λE σv H ⟨ι,σ,μ,hS,hL,hl,h⟩=>by
  simp![evS]at h
  exact h.elim
theorem Q6 {c:Expr} {xc:Ex} {a b:List Stmt} {xa xb:Sms} (hc:PT X c (tT X.K φ xc)) (ha:PSs X a (tSs X.K φ xa)) (hb:PSs X b (tSs X.K φ xb)):PS X (.If c a b pos) (tS X.K φ (.ite xc xa xb)) :=
 PS.imp (Hs hc ha hb) λE σv H ⟨ι,σ,μ,hS,hL,hl,h⟩=>by
  simp![evS]at h
  obtain⟨d,μ1,e1,h⟩:=h.bind
  refine⟨ι,σ,μ,hS,hL,?_⟩
  rw[e1]
  cases d with
  | bl k =>
   intro ι1 x H1 p1 x1 s1 d1
   cases d1
   cases k with
   | true=>exact⟨ι1,σ,μ1,s1,hL.mono p1 x1,hl,(show je _ _ _ (gu φ xa σ μ1) _ from h).mono p1 x1⟩
   | false=>exact⟨ι1,σ,μ1,s1,hL.mono p1 x1,hl,(show je _ _ _ (gu φ xb σ μ1) _ from h).mono p1 x1⟩
  | _=>exact h.elim
def slots:Tg->List Nat
 | .one i=>[i]
 | .many is=>is
def tG (K:PySem.W.Frag) (tg:Tg):TG:=λv σv H Q=>∃ι σ d σ',jx K ι H σ σv/\σ.length=σv.length/\IsD K ι H d v/\ee tg d σ=some σ' /\
 ∀σv',jx K ι H σ' σv'->σ'.length=σv'.length->σv'.length=σv.length->(∀j,j∉slots tg->σv'[j]? = σv[j]?)->Q σv' H
theorem PG.imp {e:Expr} {t t':TG} (h:PG X e t) (i:∀v σ H Q,t' v σ H Q->t v σ H Q):PG X e t':=by
 intro pins s σ H x u Q I r q
 exact h pins s σ H x u Q I r (i _ _ _ _ q)
theorem Je {i:Nat} {y:Str} (hN:X.N.Nodup) (hi:X.N[i]? = some y) (hx:Loc X.env.scope y) (hf:X.fn y=true\/X.env.scope.names.lookup y=some .local):PG X (.Name y pos) (tG X.K (.one i)) :=
 PG.imp (zr hN hi hx hf) λv σv H Q ⟨ι,σ,d,σ',hL,hl,hd,hb,q⟩=>by
  simp![ee,BF]at hb
  subst hb
  exact q _ (hL.set hl hd) (by simp[hl]) (by simp) λj hj=>BB (λz=>hj (by simp[slots,z]))
def tGs (K:PySem.W.Frag) (is:List Nat):TGs:=λvs σv H Q=>∃ι σ ds,jx K ι H σ σv/\σ.length=σv.length/\aq K ι H ds vs/\ds.length=is.length /\
 ∀σv',jx K ι H ((is.zip ds).foldl (λs p=>s.set p.1 (some p.2)) σ) σv'->((is.zip ds).foldl (λs p=>s.set p.1 (some p.2)) σ).length=σv'.length->σv'.length=σv.length->(∀j,j∉is->σv'[j]? = σv[j]?)->Q σv' H
theorem PGs.imp {es:List Expr} {t t':TGs} (h:PGs X es t) (i:∀v σ H Q,t' v σ H Q->t v σ H Q):PGs X es t':=by
 intro pins s σ H vs us Q I r q
 exact h pins s σ H vs us Q I r (i _ _ _ _ q)
theorem Jf:PGs X [] (tGs X.K []) :=
 PGs.imp Ey λvs σv H Q ⟨ι,σ,ds,hL,hl,hd,hn,q⟩=>by
  have e:ds=[]:=GS.mp hn
  subst e
  exact⟨by simpa[aq]using hd,q σv (by simpa using hL) (by simpa using hl) rfl λ_ _=>rfl⟩
theorem Fw {i:Nat} {is:List Nat} {es:List Expr} (h1:PG X e (Ew i)) (h2:PGs X es (tGs X.K is)) (hs:(assignEach (e::es) X.env).map (·.2)=assign e X.env::(assignEach es X.env).map (·.2)):PGs X (e::es) (tGs X.K (i::is)) :=
 PGs.imp (Bs h1 h2 hs) λvs σv H Q ⟨ι,σ,ds,hL,hl,hd,hn,q⟩=>by
  cases ds with
  | nil=>simp at hn
  | cons d ds =>
   simp![aq]at hd
   obtain⟨v,r,e,hd1,hd2⟩:=hd
   refine⟨v,r,e,ι,σ.set i (some d),ds,hL.set hl hd1,by simp[hl],hd2,by simpa using hn,λσv' l z z2 ks=>q σv' (by simpa using l) (by simpa using z) (by simpa using z2) λj hj=>?_⟩
   have hj':j≠i/\j∉is:=by simpa using hj
   rw[ks j hj'.2,BB (Ne.symm hj'.1)]
theorem Mn {is:List Nat} {es:List Expr} {k:Nat} (hc:X.calm=true) (h:PGs X es (tGs X.K is)) (hn:(assignEach es X.env).length=is.length) (hst:(assignEach es X.env).findIdx? (·.1)=none) :
  PG X (.Tuple es k pos) (tG X.K (.many is)) :=
 PG.imp (Ht hc h hn hst) λv σv H Q ⟨ι,σ,d,σ',hL,hl,hd,hb,q⟩=>by
  cases d with
  | tup ds =>
   simp![ee]at hb
   split at hb
   ·rename_i hlen
    cases hb
    simp![IsD]at hd
    obtain⟨a,xs,e,hq,hds⟩:=hd
    exact⟨a,xs,e,hq,hds.length.trans hlen,ι,σ,ds,hL,hl,hds,hlen,q⟩
   ·cases hb
  | _=>simp[ee]at hb
theorem Mo {i:Nat} {y:Str} {pos':Pos} (hN:X.N.Nodup) (hi:X.N[i]? = some y) (hx:Loc X.env.scope y) (hf:X.fn y=true\/X.env.scope.names.lookup y=some .local) (he:PE X e (tE X.K φ x)) (hs:swapsWith e (some (.Name y pos')) pos.line X.env=pure false) :
  PS X (.Assign [.Name y pos'] e pos) (tS X.K φ (.set i x)) :=
 PS.imp (D2 hN hi hx he hs hf) λE σv H ⟨ι,σ,μ,hS,hL,hl,h⟩=>by
  simp![evS]at h
  obtain⟨d,μ1,e1,h⟩:=h.bind
  refine⟨ι,σ,μ,hS,hL,?_⟩
  rw[e1]
  exact λι1 v H1 p1 x1 s1 d1=>h ι1 _ H1 p1 x1 s1 ((hL.mono p1 x1).set hl d1) (by simp[hl])
theorem Mp {is:List Nat} {tg:Expr} (hg:PG X tg (tG X.K (.many is))) (he:PE X e (tE X.K φ x)) (hs:swapsWithSole [tg] e pos.line X.env=pure false) (hw:swappedStores [tg] e X.env=pure none)
  (h1:(assignEach [tg] X.env).map (·.2)=[assign tg X.env]):PS X (.Assign [tg] e pos) (tS X.K φ (.unp is x)) :=
 PS.imp (D1 he hg hs hw h1) λE σv H ⟨ι,σ,μ,hS,hL,hl,h⟩=>by
  simp![evS]at h
  obtain⟨d,μ1,e1,h⟩:=h.bind
  refine⟨ι,σ,μ,hS,hL,?_⟩
  rw[e1]
  intro ι1 v H1 p1 x1 s1 d1
  split at h
  ·rename_i σ' eb
   exact⟨ι1,σ,d,σ',hL.mono p1 x1,hl,d1,eb,λσv' l z _ _=>h ι1 σv' H1 p1 x1 s1 l z⟩
  ·exact h.elim
def Ow (K:PySem.W.Frag):TSet:=λo i v H Q=>∃ι a b d μ,Sim K ι H μ/\IsD K ι H a o/\IsD K ι H b i/\IsD K ι H d v/\fz K (λ_ _ _ (_:Unit)=>True) ι H (rn a b d μ) λ_ H'=>Q H'
theorem Jg {o i:Expr} {xo xi:Ex} {tp:Pos} (hset:Ko X (Ow X.K)) (ho:PE X o (tE X.K φ xo)) (hi:PE X i (tE X.K φ xi)) (he:PE X e (tE X.K φ x))
  (ha:∀v,assign (.Subscript o i tp) X.env v=(do
   let ov <-holding [v] (eval o X.env)
   let iv <-holding [v,ov] (eval i X.env)
   standAt tp
   holding [v,ov,iv] (setItem ov iv v)
   release [v,ov,iv] [])) (hs:swapsWithSole [.Subscript o i tp] e pos.line X.env=pure false) (hw:swappedStores [.Subscript o i tp] e X.env=pure none)
  (h1:(assignEach [.Subscript o i tp] X.env).map (·.2)=[assign (.Subscript o i tp) X.env]):PS X (.Assign [.Subscript o i tp] e pos) (tS X.K φ (.setx xo xi x)) :=
 PS.imp (D1 he (Hu ho hi hset ha) hs hw h1) λE σv H ⟨ι,σ,μ,hS,hL,hl,h⟩=>by
  simp![evS]at h
  obtain⟨d,μ1,e1,h⟩:=h.bind
  refine⟨ι,σ,μ,hS,hL,?_⟩
  rw[e1]
  intro ι1 v H1 p1 x1 s1 d1
  obtain⟨a,μ2,e2,h⟩:=h.bind
  refine⟨ι1,σ,μ1,s1,hL.mono p1 x1,?_⟩
  rw[e2]
  intro ι2 va H2 p2 x2 s2 d2
  obtain⟨b,μ3,e3,h⟩:=h.bind
  refine⟨ι2,σ,μ2,s2,(hL.mono p1 x1).mono p2 x2,?_⟩
  rw[e3]
  intro ι3 vb H3 p3 x3 s3 d3
  obtain⟨_,μ4,e4,h⟩:=h.bind
  refine⟨ι3,a,b,d,μ3,s3,IsD.mono p3 x3 _ _ d2,d3,IsD.mono p3 x3 _ _ (IsD.mono p2 x2 _ _ d1),?_⟩
  rw[e4]
  exact λι4 _ H4 p4 x4 s4 _=>h ι4 σv H4 (((p1.trans p2).trans p3).trans p4) (((x1.trans x2).trans x3).trans x4) s4 ((((hL.mono p1 x1).mono p2 x2).mono p3 x3).mono p4 x4) hl
structure Walk (K:PySem.W.Frag) (ι0:List Addr) (H0:Hp) (J:L2.It) (ds:List D) (g:Gd):Prop where
 len:ds.length<=sizeLine
 go:∀(i:Nat) ι H μ,ι0 <+: ι->Ext H0 H->Sim K ι H μ->gd g μ->i<ds.length->J.go i H
 yld:∀(i:Nat) ι H μ x H',ι0 <+: ι->Ext H0 H->Sim K ι H μ->gd g μ->i<ds.length->J.yld i H x H'->Ext H H'/\Sim K ι H' μ/\∃d,ds[i]? = some d/\IsD K ι H' d x
 stop:∀ι H μ,ι0 <+: ι->Ext H0 H->Sim K ι H μ->gd g μ->J.stop ds.length H
def tI (K:PySem.W.Frag) (φ:Phi) (it:It):TI:=λσv H R=>∃ι σ μ,Sim K ι H μ/\jx K ι H σ σv /\
 match evI φ it σ μ with
 | .ok (ds,g) μ'=>∀ι' H' J,ι <+: ι'->Ext H H'->Sim K ι' H' μ'->Walk K ι' H' J ds g->R J H'
 | _=>False
theorem PI.imp {tg it:Expr} {t t':TI} (h:PI X tg it t) (i:∀σ H R,t' σ H R->t σ H R):PI X tg it t':=λpins s σ H R I q=>h pins s σ H R I (i _ _ _ q)
theorem Mq {tg it:Expr} {body:List Stmt} {xt:Tg} {xi:It} {xb:Sms} (hp:PassesOwn (model X.prog X.w) X.A X.env X.xe) (hc:X.calm=true) (hi:PI X tg it (tI X.K φ xi)) (hg:PG X tg (tG X.K xt)) (hb:PSs X body (tSs X.K φ xb))
  (hs:∀x,foldedSetIterable it X.env x=pure x):PS X (.For tg it body [] pos) (tS X.K φ (.loop xt xi xb)) :=
 PS.imp (Hv hp hc hi hg hb hs) λE σv H ⟨ι,σ,μ,hS,hL,hl,h⟩=>by
  simp![evS]at h
  obtain⟨⟨ds,g⟩,μ1,e1,h⟩:=h.bind
  refine⟨ι,σ,μ,hS,hL,?_⟩
  rw[e1]
  intro ι1 H1 J p1 x1 s1 wk
  refine⟨λi m σv' H'=>m=ds.length-i/\i<=ds.length/\∃ι' σ' μ',ι1 <+: ι'/\Ext H1 H'/\Sim X.K ι' H' μ'/\jx X.K ι' H' σ' σv'/\σ'.length=σv'.length /\
   je X.K ι' H' (k7 g (λd σ μ=>ik (ee xt d σ) λσ'=>gu φ xb σ' μ) (ds.drop i) σ' μ') E,⟨ds.length,by simp,GD _,ι1,σ,μ1,AD _,.refl _,s1,hL.mono p1 x1,hl,?_⟩,?_⟩
  ·simpa using(show je _ _ _ (k7 g _ ds σ μ1) _ from h).mono p1 x1
  ·rintro i m σv' H' ⟨rfl,hi,ι',σ',μ',p',x',s',l',z',h'⟩
   by_cases hlt:i<ds.length
   ·obtain⟨d,ed⟩:∃d,ds[i]? = some d:=⟨ds[i],AB hlt⟩
    have edrop:ds.drop i=d::ds.drop (i+1):=by
     rw[EB hlt]
     rw[AB hlt]at ed
     cases ed;rfl
    rw[edrop]at h'
    simp![k7]at h'
    split at h'
    ·rename_i hgd
     right
     refine⟨wk.go i ι' H' μ' p' x' s' hgd hlt,?_⟩
     obtain⟨fl,μ2,e2,h2⟩:=h'.bind
     refine⟨λσ2 H2=>ds.length-(i+1)<ds.length-i/\∃ι2 σs,ι1 <+: ι2/\Ext H1 H2/\Sim X.K ι2 H2 μ2/\jx X.K ι2 H2 σs σ2/\σs.length=σ2.length /\
      je X.K ι2 H2 (k7 g (λd σ μ=>ik (ee xt d σ) λσ'=>gu φ xb σ' μ) (ds.drop (i+1)) σs μ2) E,?_,?_⟩
     ·rintro σ2 H2 ⟨_,ι2,σs,q1,q2,q3,q4,q5,q6⟩
      exact⟨ds.length-(i+1),by lia,rfl,hlt,ι2,σs,μ2,q1,q2,q3,q4,q5,q6⟩
     ·intro v H2 hy
      obtain⟨x2,s2,d',ed',hd'⟩:=wk.yld i ι' H' μ' v H2 p' x' s' hgd hlt hy
      rw[ed]at ed';cases ed'
      cases eb:ee xt d σ' with
      | none=>rw[eb]at e2;cases e2
      | some σb =>
       rw[eb]at e2
       refine⟨ι',σ',d,σb,l'.mono (AD _) x2,z',hd',eb,λσv2 l2 z2 _ _=>⟨ι',σb,μ',s2,l2,z2,?_⟩⟩
       have e2':gu φ xb σb μ'=.ok fl μ2:=e2
       rw[e2']
       cases fl with
       | nx σ3=>exact λι3 σv3 H3 p3 x3 s3 l3 z3=>⟨by lia,ι3,σ3,p'.trans p3,(x'.trans x2).trans x3,s3,l3,z3,(show je _ _ _ (k7 g _ (ds.drop (i+1)) σ3 μ2) _ from h2).mono p3 (x2.trans x3)⟩
       | ct σ3=>exact λι3 σv3 H3 p3 x3 s3 l3 z3=>⟨by lia,ι3,σ3,p'.trans p3,(x'.trans x2).trans x3,s3,l3,z3,(show je _ _ _ (k7 g _ (ds.drop (i+1)) σ3 μ2) _ from h2).mono p3 (x2.trans x3)⟩
       | bk σ3=>exact(show je _ _ _ (.ok (.nx σ3) μ2) _ from h2).mono (AD _) x2
       | rt w=>exact(show je _ _ _ (.ok (.rt w) μ2) _ from h2).mono (AD _) x2
    ·exact h'.elim
   ·have ei:i=ds.length:=by lia
    subst ei
    simp![GU,k7]at h'
    split at h'
    ·rename_i hgd
     exact .inl ⟨wk.stop ι' H' μ' p' x' s' hgd,h' ι' σv' H' (AD _) (.refl _) s' l' z'⟩
    ·exact h'.elim
end
theorem gw:lim=sizeLine:=by rw[D7];rfl
section
variable {X : Cx} {pins : List (Addr × Obj)} {σ : St} {H : Hp} {s : Shared} {φ : Phi}
theorem _root_.L2.Inv.freeze {p:Addr} {xs:List V} (I:Inv X pins σ H s) (h:H p=some (.lst xs)):∃o,Inv X pins σ (upd H p (.frz o (.lst xs))) s:=by
 have hp:=I.hok p _ h
 obtain⟨hz,its,n,hv,hget⟩:=id hp
 refine⟨{cls:=.type "list",data:=.seq its.toArray n},I.ok,I.os,I.bare,⟨I.base.keep,I.base.slot,λb o e hn hx=>?_,I.base.there,λb ys e=>?_,λb o u e=>?_,λb ps e=>?_⟩,I.loc,I.cell,?_,λx c e=>?_,λq hq=>?_,λb u e=>?_,I.len⟩
 ·have q:=I.base.free b o e hn hx
  rw[aw (λz=>by subst z;rw[h]at q;cases q)]
  exact q
 ·have q:=I.base.tups b ys e
  rw[aw (o9 q h (by intro z;cases z))];exact q
 ·have q:=I.base.frzs b o u e
  rw[aw (o9 q h (by intro z;cases z))];exact q
 ·obtain⟨more,q⟩:=I.base.tbls b ps e
  exact⟨more,by rw[aw (o9 q h (by intro z;cases z))];exact q⟩
 ·rw[aw (λz=>by rw[<-z,I.free]at h;cases h)];exact I.free
 ·rw[aw (λz=>by rw[<-z,I.freeC x c e]at h;cases h)];exact I.freeC x c e
 ·obtain⟨e1,e2,e3⟩:=I.pin q hq
  refine⟨e1,?_,e3⟩
  rw[aw (λz=>by rw[<-z,e2]at h;cases h)];exact e2
 ·by_cases hb:b=p
  ·subst hb
   rw[br]at e;cases e
   exact⟨hget,hz,its,n,hv,hget⟩
  ·rw[aw hb]at e
   refine(I.hok b u e).stay (λc v _ q=>q) (λc q=>?_) (λc ys q=>?_)
   ·rw[aw (o9 q h (by intro z;cases z))];exact q
   ·rw[aw (o9 q h (by intro z;cases z))];exact q
def FQ (Q:VK):VK:=λv H=>Q v H\/∃p xs,v=.ref p/\H p=some (.lst xs)/\∀o,Q v (upd H p (.frz o (.lst xs)))
theorem Cj {Q:VK} {u:Value} (h:EP X pins σ (FQ Q) u s):EP X pins σ Q u s:=by
 obtain⟨v,H',I,r,q⟩:=h
 rcases q with q | ⟨p,xs,rfl,e,q⟩
 ·exact⟨v,H',I,r,q⟩
 ·obtain⟨o,I'⟩:=L2.Inv.freeze I e
  exact⟨_,_,I',r,q o⟩
theorem Af {A:Around} {E:Value->Shared->Prop} {M:Model} {t:Sem Value} {Q:VK} (h:wpAny M A t (EP X pins σ (FQ Q)) E s):wpAny M A t (EP X pins σ Q) E s:=thn h λ_ _ z=>Cj z
theorem PE.fq {e:Expr} {t:TE} (h:PE X e t):PE X e (λσ H Q=>t σ H (FQ Q)):=λpins s σ H Q I q=>thn (h pins s σ H _ I q) λ_ _ z=>Cj z
theorem d0.fq {f:Value} {r:List V->Hp->VK->Prop} (h:d0 X f r):d0 X f (λxs H Q=>r xs H (FQ Q)):=by
 intro pins s σ H xs us Q I rx q
 exact thn (h pins s σ H xs us _ I rx q) λ_ _ z=>Cj z
theorem SlR.fq {r:V->Option Int->Option Int->Hp->VK->Prop} (h:SlR X r):SlR X (λx l u H Q=>r x l u H (FQ Q)):=by
 intro pins s σ H x v vl vu lo hi sl Q I rx h1 h2 h3 q
 obtain⟨T,id,e1,e2,e3⟩:=h pins s σ H x v vl vu lo hi sl _ I rx h1 h2 h3 q
 exact⟨T,id,e1,e2,thn e3 λ_ _ z=>Cj z⟩
theorem j6 {K:PySem.W.Frag} {ι:List Addr} {μ:Sto} {ds:List D} {xs:List V} {m:Mk} {Q:VK} {p:Addr} (hS:Sim K ι H μ) (hd:aq K ι H ds xs) (h:fz K (RD K) ι H (mkL m ds μ) Q) (hp:H p=none) :
  FQ Q (.ref p) (upd H p (.lst xs)):=by
 cases m with
 | z =>
  refine .inr ⟨p,xs,rfl,br,λo=>?_⟩
  rw[Eo]
  refine h ι (.ref p) _ (AD _) (.new hp) (hS.new hp) ?_
  show IsD _ _ _ _ _
  simp![IsD]
  exact⟨p,xs,rfl,.inl ⟨o,br⟩,aq.mono (AD _) (.new hp) ds xs hd⟩
 | l =>
  simp![mkL]at h
  split at h
  ·rename_i hpure
   refine .inl (h (ι++[p]) (.ref p) _ ⟨[p],rfl⟩ (.new hp) (hS.push hp ⟨xs,br,aq.pur hpure (aq.mono (AD _) (.new hp) ds xs hd)⟩) ?_)
   show IsD _ _ _ _ _
   simp![IsD]
   exact⟨p,rfl,by rw[<-hS.len];simp⟩
  ·exact h.elim
 | r =>
  simp![mkL]at h
  refine .inl (h (ι++[p]) (.ref p) _ ⟨[p],rfl⟩ (.new hp) (hS.push hp ⟨xs,br,aq.mono ⟨[p],rfl⟩ (.new hp) ds xs hd⟩) ?_)
  show IsD _ _ _ _ _
  simp![IsD]
  exact⟨p,rfl,by rw[<-hS.len];simp⟩
theorem Mr {es:List Expr} {xs:Exs} {m:Mk} {pos:Pos} (h:PA X es (tEs X.K φ xs)) (hl:∀σ μ ds μ',fb φ xs σ μ=.ok ds μ'->ds.length<=sizeLine):PE X (.List es pos) (tE X.K φ (.lst m xs)) :=
 PE.imp (PE.fq (Ia h)) λσv H Q ⟨ι,σ,μ,hS,hL,h⟩=>by
  simp![evE]at h
  obtain⟨ds,μ1,e1,h⟩:=h.bind
  refine⟨ι,σ,μ,hS,hL,?_⟩
  rw[e1]
  intro ι1 vs H1 p1 x1 s1 d1
  have hd:aq X.K ι1 H1 ds vs:=d1
  exact⟨by rw[hd.length];exact hl σ μ ds μ1 e1,λp hp=>j6 s1 hd (h.mono p1 x1) hp⟩
theorem sm {K:PySem.W.Frag} {ι:List Addr} {μ:Sto} {d:D} {v:V} {ds:List D} (hS:Sim K ι H μ) (hd:IsD K ι H d v) (h:c6 μ d=some ds) :
  ∃a xs,v=.ref a/\(LsL K H a xs\/SqT K H a xs)/\aq K ι H ds xs:=by
 cases d with
 | tup es =>
  cases h
  simp![IsD]at hd
  obtain⟨a,xs,e,q,r⟩:=hd
  exact⟨a,xs,e,.inr q,r⟩
 | lst es =>
  cases h
  simp![IsD]at hd
  obtain⟨a,xs,e,q,r⟩:=hd
  exact⟨a,xs,e,.inl (.inr q),r⟩
 | loc n =>
  simp![IsD]at hd
  obtain⟨a,e,q⟩:=hd
  simp![c6]at h
  split at h
  ·rename_i es em
   cases h
   obtain⟨a',q',ho⟩:=hS.at em
   rw[q]at q';cases q'
   obtain⟨xs,e1,e2⟩:=ho
   exact⟨a,xs,e,.inl (.inl e1),aq.mono (CU) (.refl _) _ _ e2⟩
  ·rename_i es em
   cases h
   obtain⟨a',q',ho⟩:=hS.at em
   rw[q]at q';cases q'
   obtain⟨xs,e1,e2⟩:=ho
   exact⟨a,xs,e,.inl (.inl e1),e2⟩
  ·cases h
 | _=>simp[c6]at h
theorem k8 {K:PySem.W.Frag} {ι:List Addr} {μ:Sto} {d:D} {v:V} {ds:List D} (hS:Sim K ι H μ) (hd:IsD K ι H d v) (h:listOf μ d=some ds) :
  ∃a xs,v=.ref a/\LsL K H a xs/\aq K ι H ds xs:=by
 cases d with
 | lst es =>
  cases h
  simp![IsD]at hd
  obtain⟨a,xs,e,q,r⟩:=hd
  exact⟨a,xs,e,.inr q,r⟩
 | loc n =>
  simp![IsD]at hd
  obtain⟨a,e,q⟩:=hd
  simp![listOf]at h
  split at h
  ·rename_i es em
   cases h
   obtain⟨a',q',ho⟩:=hS.at em
   rw[q]at q';cases q'
   obtain⟨xs,e1,e2⟩:=ho
   exact⟨a,xs,e,.inl e1,aq.mono (CU) (.refl _) _ _ e2⟩
  ·rename_i es em
   cases h
   obtain⟨a',q',ho⟩:=hS.at em
   rw[q]at q';cases q'
   obtain⟨xs,e1,e2⟩:=ho
   exact⟨a,xs,e,.inl e1,e2⟩
  ·cases h
 | _=>simp[listOf]at h
theorem OpR.imp {f:Value->Value->Sem Value} {r r':R2} (h:OpR X f r) (i:∀x y H Q,r' x y H Q->r x y H Q):OpR X f r':=λpins s σ H x y v u Q I rx ry q=>h pins s σ H x y v u Q I rx ry (i _ _ _ _ q)
theorem IxR.imp {r r':R2} (h:IxR X r) (i:∀x y H Q,r' x y H Q->r x y H Q):IxR X r':=λe1 e2 pins s σ H x y v u Q I rx ry q=>h e1 e2 pins s σ H x y v u Q I rx ry (i _ _ _ _ q)
theorem d0.imp {f:Value} {r r':List V->Hp->VK->Prop} (h:d0 X f r) (i:∀xs H Q,r' xs H Q->r xs H Q):d0 X f r':=λpins s σ H xs us Q I rx q=>h pins s σ H xs us Q I rx (i _ _ _ q)
theorem MtR.imp {id:String} {r r':V->List V->Hp->VK->Prop} (h:MtR X id r) (i:∀x xs H Q,r' x xs H Q->r x xs H Q):MtR X id r':=λpins s σ H x xs v us Q I rx rr q=>h pins s σ H x xs v us Q I rx rr (i _ _ _ _ q)
theorem Jh {K:PySem.W.Frag} {ι:List Addr} {ds:List D} {xs:List V} {i:Int} {j:Nat} {d:D} (h:aq K ι H ds xs) (hi:Lp.ixN ds.length i=some j) (hj:ds[j]? = some d):∃v,atI xs i=some v/\IsD K ι H d v:=by
 obtain⟨v,e,q⟩:=h.get hj
 refine⟨v,?_,q⟩
 unfold atI
 rw[h.length,show L2.ixN ds.length i=some j from hi]
 exact e
theorem Ms:IxR X (rOp X.K ixD):=IxR.imp Il λx y H Q ⟨ι,d,e,μ,hS,hd,he,h⟩=>by
 unfold ixD at h
 split at h
 ·rename_i i
  have hy:y=.int i:=by simpa[IsD]using he
  subst hy
  split at h
  ·rename_i ds es
   obtain⟨a,xs,rfl,hq,hds⟩:=sm hS hd es
   split at h
   ·rename_i j ej
    split at h
    ·rename_i d' ed
     obtain⟨v,ev,hv⟩:=Jh hds ej ed
     have qv:=h.ok hS hv
     rcases hq with hq | hq
     ·exact .inl ⟨a,xs,i,v,rfl,rfl,hq.sq,ev,qv⟩
     ·exact .inr (.inl ⟨a,xs,i,v,rfl,rfl,hq,ev,qv⟩)
    ·exact h.elim
   ·exact h.elim
  ·exact h.elim
 ·exact h.elim
theorem Ed {K:PySem.W.Frag} {ι:List Addr} {ds:List D} {xs:List V} (h:aq K ι H ds xs) (lo hi:Option Int):aq K ι H (cut ds lo hi) (D4 xs lo hi):=by
 have e1:∀n d o,Lp.sIx n d o=HT.sIx n d o:=λn d o=>by cases o<;>rfl
 unfold cut D4
 rw[h.length,e1,e1]
 exact(h.drop _).take _
end
def vd (env:Env):List (Str×NameKind)->List (Str×Addr)->List (Str×Addr)
 | [],acc=>acc
 | (n,k)::r,acc=>vd env r (if k==.free then(n,(env.cells.lookup n).getD 0)::acc else acc)
def l7 (env:Env) (x:Str×NameKind) (cs:List (Str×Addr)):Sem (ForInStep (List (Str×Addr))):=match x with
 | (name,kind)=>if kind==.free then(do let a <-cellOf env name;pure (ForInStep.yield ((name,a)::cs)))else pure (ForInStep.yield cs)
theorem k9 {env:Env}:∀(names:List (Str×NameKind)) (acc:List (Str×Addr)),(∀n,(n,NameKind.free)∈names->∃c,env.cells.lookup n=some c) ->
  forIn names acc (l7 env)=pure (vd env names acc)
 | [],acc,_=>rfl
 | (n,k)::r,acc,h=>by
  rw[EG]
  by_cases hk:k=.free
  ·subst hk
   obtain⟨c,hc⟩:=h n AT
   have e:l7 env (n,.free) acc=pure (ForInStep.yield ((n,c)::acc)):=by
    simp![l7,cellOf,hc,beq_self_eq_true,if_true]
    rfl
   rw[e]
   refine Eq.trans (b:=forIn r ((n,c)::acc) (l7 env)) rfl ?_
   rw[k9 r ((n,c)::acc) λm hm=>h m (AR _ hm)]
   simp[vd,hc]
  ·have hb:(k==NameKind.free)=false:=by simpa using hk
   have e:l7 env (n,k) acc=pure (ForInStep.yield acc):=by
    unfold l7
    simp![hb,CA,if_false]
   rw[e]
   refine Eq.trans (b:=forIn r acc (l7 env)) rfl ?_
   rw[k9 r acc λm hm=>h m (AR _ hm)]
   simp[vd,hb]
theorem lg {env:Env} {scope:Scope} (h:∀n,(n,NameKind.free)∈scope.names->∃c,env.cells.lookup n=some c):closureFor scope env=pure (vd env scope.names []):=by
 have e:=k9 (env:=env) scope.names [] h
 have e2:closureFor scope env=(forIn scope.names [] (l7 env)>>=λcs=>pure cs):=rfl
 rw[e2,e]
 rfl
theorem jm {env:Env}:∀(names:List (Str×NameKind)) (acc:List (Str×Addr)) (x:Str) (c:Addr),(∀n,(n,NameKind.free)∈names->∃c,env.cells.lookup n=some c)->(vd env names acc).lookup x=some c->acc.lookup x=some c\/env.cells.lookup x=some c
 | [],acc,x,c,_,h=>.inl h
 | (n,k)::r,acc,x,c,hh,h=>by
  rcases jm r _ x c (λm hm=>hh m (AR _ hm)) h with q | q
  ·by_cases hk:k=.free
   ·subst hk
    obtain⟨c',hc⟩:=hh n AT
    simp![beq_self_eq_true,if_true,DH]at q
    by_cases hx:x=n
    ·subst hx
     simp![beq_self_eq_true,hc,Option.getD_some,BF]at q
     subst q
     exact .inr hc
    ·have hb:(x==n)=false:=beq_eq_false_iff_ne.mpr hx
     rw[hb]at q
     exact .inl q
   ·have hb:(k==NameKind.free)=false:=by simpa using hk
    simp![hb,CA,if_false]at q
    exact .inl q
  ·exact .inr q
theorem sr {env:Env}:∀(names:List (Str×NameKind)) (acc:List (Str×Addr)) (x:Str),(∃c,acc.lookup x=some c)->∃c,(vd env names acc).lookup x=some c
 | [],acc,x,h=>h
 | (n,k)::r,acc,x,h=>by
  refine sr r _ x ?_
  by_cases hk:(k==NameKind.free)=true
  ·rw[if_pos hk,DH]
   cases hx:x==n with
   | true=>exact⟨_,rfl⟩
   | false=>exact h
  ·rw[if_neg hk];exact h
theorem qm {env:Env}:∀(names:List (Str×NameKind)) (acc:List (Str×Addr)) (x:Str),(x,NameKind.free)∈names->∃c,(vd env names acc).lookup x=some c
 | [],acc,x,h=>by cases h
 | (n,k)::r,acc,x,h=>by
  rcases AJ.mp h with e | e
  ·cases e
   refine sr r _ n ?_
   exact⟨(env.cells.lookup n).getD 0,by simp⟩
  ·exact qm r _ x e
def dk (X:Cx) (scope:Scope) (Nb:List Str) (C:Addr) (s:Shared) (H:Hp) (fp:List Addr):Cx :=
 {X with N:=Nb,s₀:=s,H₀:=H,env:=compEnvC scope (vd X.env scope.names []) C X.env,outer:=X.stack,stack:=X.stack,ex:=fp,fn:=λ_=>false,pn:=[],xe:=λ_ _=>False}
structure CompScope (sc scope:Scope) (N Nb:List Str) (cap:List Nat) (nl:Nat):Prop where
 kind:scope.kind=.function
 nocell:∀y∈scope.names,y.2≠.cell
 uniq:∀y∈scope.names,scope.names.lookup y.1=some y.2
 free:∀n,(n,NameKind.free)∈scope.names->sc.names.lookup n=some .cell\/sc.names.lookup n=some .free
 fnames:∀n,(relabel scope {scope:=sc,locals:=0,globals:=0,cells:=[]}).names.lookup n=some .cell\/(relabel scope {scope:=sc,locals:=0,globals:=0,cells:=[]}).names.lookup n=some .free->(n,NameKind.free)∈scope.names
 nd:Nb.Nodup
 len:Nb.length=cap.length+nl
 capt:∀(j:Nat) i,cap[j]? = some i->∃x,Nb[j]? = some x/\N[i]? = some x/\(x,NameKind.free)∈scope.names
theorem yn (scope:Scope) (env env':Env) (h:env.scope=env'.scope):relabel scope env=relabel scope env':=by
 unfold relabel Env.kindOf
 rw[h]
section
variable {X : Cx} {pins : List (Addr × Obj)} {σ : St} {H : Hp} {s : Shared} {scope : Scope} {Nb : List Str} {cap : List Nat} {nl : Nat}
def ef (cap:List Nat) (nl:Nat) (σ:St):St:=cap.map (λi=>(σ[i]?).getD none)++List.replicate nl none
theorem su {fp:List Addr} {h':Heap} {tk:Nat} {C:Addr} {m:Str->Option Value} {D:Addr} {n0:Nat} (I:Inv X pins σ H s) (S:CompScope X.env.scope scope X.N Nb cap nl)
  (hf:∀b∈fp,uv X pins H b) (hfp:∀b∈fp,∃o,s.heap.get? b=some o) (hk:∀b o,s.heap.get? b=some o->h'.get? b=some o) (hC:s.heap.objs.size<=C) (hD:s.heap.objs.size<=D) (hDC:D≠C)
  (hns:h'.Ns C m) (hm:∀x,m x=none) (hDo:h'.get? D=some {cls:=.type "list",data:=.seq #[] n0}) :
  Inv (dk X scope Nb C s H fp) [(D,{cls:=.type "list",data:=.seq #[] n0})] (ef cap nl σ) H {s with heap:=h',toks:=tk}:=by
 have hcells:∀n,(n,NameKind.free)∈scope.names->∃c,X.env.cells.lookup n=some c:=λn hn=>by
  rcases S.free n hn with e | e
  ·exact I.ok.has n (.inl e)
  ·exact I.ok.has n (.inr e)
 have sub:∀x c,(vd X.env scope.names []).lookup x=some c->X.env.cells.lookup x=some c:=λx c e=>by
  rcases jm scope.names [] x c hcells e with q | q
  ·cases q
  ·exact q
 have hlt:∀b∈fp,b<s.heap.objs.size:=λb hb=>let ⟨o,e⟩:=hfp b hb;AH e
 have hrel:relabel scope X.env=relabel scope {scope:=X.env.scope,locals:=0,globals:=0,cells:=[]}:=yn _ _ _ rfl
 have hcm:∀x c,X.env.cells.lookup x=some c->c<s.heap.objs.size:=λx c e=>let ⟨v,q⟩:=I.cell x c e;q.lt
 refine⟨⟨I.ok.mod,by show(relabel scope X.env).kind=_;unfold relabel;exact S.kind,I.ok.glob,I.ok.blt,hC,λx y c e1 e2=>I.ok.inj x y c (sub x c e1) (sub y c e2),λx hx=>?_,λx c hfn=>?_,I.ok.hd,I.ok.frames,.inl rfl,
  λb hb=>⟨AM (AL (hlt b hb) hC),λx c e=>(hf b hb).2.2.2.2.1 x c (sub x c e)⟩,I.bs,CF I.ok.bsz I.sz,λb o e hb=>?_,λb hb hb2=>?_,I.stack,I.stkFree⟩,
  rfl,I.bare,Un.kept hk,⟨m,hns,λi x v e1 e2 e3=>?_⟩,λx c e=>?_,I.hok.fresh hC,λx c e=>I.freeC x c (sub x c e),λp hp=>?_,I.hok.kept hk,?_⟩
 ·have hx':(relabel scope {scope:=X.env.scope,locals:=0,globals:=0,cells:=[]}).names.lookup x=some .cell\/(relabel scope {scope:=X.env.scope,locals:=0,globals:=0,cells:=[]}).names.lookup x=some .free:=by
   rw[<-hrel];exact hx
  exact qm scope.names [] x (S.fnames x hx')
 ·cases hfn
 ·rcases(hf b hb).2.2.2.1 with z | z
  ·exact I.ok.noex b o e z
  ·have:=AH e
   exact absurd (AL this (CF I.ok.bsz z)) (BQ _)
 ·rcases AJ.mp (I.stkSub b hb2)with z | z
  ·exact(hf b hb).2.1 z
  ·exact(hf b hb).2.2.1 z
 ·-- a captured name
  have hi:i<cap.length:=by
   by_cases hi:i<cap.length
   ·exact hi
   ·unfold ef at e2
    rw[BK (by simpa using hi),CB]at e2
    split at e2<;>cases e2
  unfold ef at e2
  rw[AK (by simpa using hi),AU,AB hi]at e2
  simp![FI,BF]at e2
  obtain⟨y,q1,q2,q3⟩:=S.capt i _ (AB hi)
  have ey:y=x:=BC (q1.symm.trans e1)
  subst ey
  have e4:σ[cap[i]]? = some (some v):=by
   cases e5:σ[cap[i]]? with
   | none=>rw[e5]at e2;cases e2
   | some w=>rw[e5]at e2;simp at e2;rw[e2]
  obtain⟨m0,hn0,hl0⟩:=I.loc
  have hkind:X.env.kindOf y=some .cell\/X.env.kindOf y=some .free:=S.free y q3
  obtain⟨u,r,l⟩:=hl0 _ y v q2 e4 (by rcases hkind with z | z;exact .inr (.inl z);exact .inr (.inr z))
  refine⟨u,r,.inr ?_⟩
  rcases l with⟨z,_⟩ | ⟨_,c,ec,hc⟩
  ·rcases hkind with w | w<;>(rw[w]at z;cases z)
  ·obtain⟨c',ec'⟩:=qm (env:=X.env) scope.names [] y q3
   have:c'=c:=by have:=sub y c' ec';rw[ec]at this;cases this;rfl
   subst this
   obtain⟨o,ho,hd⟩:=hc
   refine⟨?_,c',ec',o,hk _ _ ho,hd⟩
   -- a free name is seen as a cell or as free
   have hv:(dk X scope Nb C s H fp).env.kindOf y=some .local\/(dk X scope Nb C s H fp).env.kindOf y=some .cell\/(dk X scope Nb C s H fp).env.kindOf y=some .free:=e3
   rcases hv with z | z | z
   ·exfalso
    have hl:(relabel scope X.env).names.lookup y=some .local:=z
    have mem:∀(l:List (Str×NameKind)) (y:Str),(l.map fun(n,k)=>if(k==NameKind.free&&X.env.scope.kind==.function&&X.env.kindOf n==some .cell)then(n,NameKind.cell)else(n,k)).lookup y=some .local->l.lookup y=some .local:=by
     intro l
     induction l with
     | nil=>intro y h;simp at h
     | cons a r ih =>
      obtain⟨n,k⟩:=a
      intro y h
      simp![AX]at h
      rw[DH]
      by_cases hc:(k==NameKind.free&&X.env.scope.kind==.function&&X.env.kindOf n==some .cell)=true
      ·rw[if_pos hc,DH]at h
       cases hy:y==n with
       | true=>rw[hy]at h;cases h
       | false=>rw[hy]at h;exact ih y h
      ·rw[if_neg hc,DH]at h
       cases hy:y==n with
       | true=>rw[hy]at h;exact h
       | false=>rw[hy]at h;exact ih y h
    have hloc:=mem scope.names y hl
    rw[S.uniq (y,NameKind.free) q3]at hloc
    cases hloc
   ·exact .inl z
   ·exact .inr z
 ·obtain⟨v,o,ho,hd⟩:=I.cell x c (sub x c e)
  exact⟨v,o,hk _ _ ho,hd⟩
 ·have e:p=(D,{cls:=.type "list",data:=.seq #[] n0}):=by
   have:p∈([]:List (Addr×Obj))++[(D,{cls:=.type "list",data:=.seq #[] n0})]:=hp
   simpa using this
  subst e
  refine⟨hDo,I.hok.fresh hD,hDC,λz=>?_,λv z=>by cases z⟩
  have z':D∈frs X.stack:=z
  rcases AJ.mp (I.stkSub D z')with w | w
  ·exact absurd (AL I.lt hD) (by rw[w];exact BQ _)
  ·exact I.nofs hD w
 ·show(ef cap nl σ).length=Nb.length
  rw[S.len];simp[ef]
end
abbrev ve (ifs:List Expr) (env:Env) (b:Bool):Sem Bool:=forIn ifs b λc r=>if r=true then do let ok <-isTrue c env (eval c env);pure (ForInStep.yield ok)else pure (ForInStep.yield r)
def PTs (X:Cx) (ifs:List Expr) (t:TT):Prop :=
 ∀(pins:List (Addr×Obj)) (s:Shared) (σ:St) (H:Hp) (Q:Bool->Hp->Prop),Inv X pins σ H s->t σ H Q->wpAny (model X.prog X.w) X.A (ve ifs X.env true) (TP X pins σ Q) X.xe s
theorem nv {M:Model} {A:Around} {E:Value->Shared->Prop} {env:Env} {Q:Bool->Shared->Prop}:∀(ifs:List Expr) {s:Shared},Q false s->wpAny M A (ve ifs env false) Q E s
 | [],s,h=>AI h
 | c::r,s,h=>by
  show wpAny M A (forIn (c::r) false _) Q E s
  rw[EG]
  exact AA (AI (nv r h))
def tTsNil:TT:=λ_ H Q=>Q true H
def Fx (t u:TT):TT:=λσ H Q=>t σ H λb H1=>if b=true then u σ H1 Q else Q false H1
theorem Fy {X:Cx}:PTs X [] tTsNil:=λpins s σ H Q I h=>AI ⟨H,I,h⟩
theorem Ck {X:Cx} {c:Expr} {r:List Expr} {t u:TT} (h1:PT X c t) (h2:PTs X r u):PTs X (c::r) (Fx t u):=λpins s σ H Q I h=>by
 show wpAny _ _ (forIn (c::r) true _) _ _ s
 rw[EG]
 refine AA (AA (thn (h1 pins s σ H _ I h) λb s1 ⟨H1,I1,q1⟩=>AI ?_))
 cases b with
 | true=>exact h2 pins s1 σ H1 Q I1 q1
 | false=>exact nv r ⟨H1,I1,q1⟩
def Kept (σ σ':St):Prop:=σ.length=σ'.length/\∀(i:Nat) v,σ[i]? = some (some v)->σ'[i]? = some (some v)
def Fz (wi:TI) (g:TG) (ts:TT) (te:TE) (σb:St->St):TE:=λσ H Q=>wi σ H λJ H1=>∃W:Nat->Nat->Hp->List V->Prop,(∃m,W 0 m H1 [])/\∀i m H acc,W i m H acc ->
 (J.stop i H/\acc.length<=sizeLine/\∀p,H p=none->Q (.ref p) (upd H p (.lst acc))) \/
 (J.go i H/\acc.length<sizeLine/\∀x H',J.yld i H x H'->g x (σb σ) H' λσ2 H2=>Kept (σb σ) σ2/\ts σ2 H2 λb H3=>if b=true then te σ2 H3 λv H4=>∃m',m'<m/\W (i+1) m' H4 (acc++[v])else ∃m',m'<m/\W (i+1) m' H3 acc)
section
variable {X : Cx} {scope : Scope} {Nb : List Str} {cap : List Nat} {nl : Nat}
theorem _root_.L2.HOk.track {P:Program} {w:World} {H:Hp} {h:Heap} {p:Addr} {o:HO} (x:HOk P w H h) (hp:H p=none) (new:fw P w (upd H p o) h p o):HOk P w (upd H p o) h:=λb u e=>by
 by_cases hb:b=p
 ·subst hb;rw[br]at e;cases e;exact new
 ·rw[aw hb]at e
  exact(x b u e).stay (λc v _ q=>q) (λc q=>by rw[aw (ax q hp)];exact q) λc xs q=>by rw[aw (ax q hp)];exact q
theorem Ag {prog:Program} {w:World} {A:Around} {R:Result->Shared->Prop} {s:Shared} {elt target iter:Expr} {ifs:List Expr} {pos:Pos} {it acc:Value} {env:Env} (I:Nat->Shared->Prop)
  (turn:∀n s,I n s->wpAny (model prog w) A (pyNext it) (λr s₁=>match r with
   | none=>R (.ok .next) s₁
   | some v=>wpAny (model prog w) A (letOwnedTupleGo target it v) (λ_ s₀=>wpAny (model prog w) A (assign target env v) (λ_ s₂ =>
     wpAny (model prog w) A (ve ifs env true) (λok s₃ =>
      if ok=true then wpAny (model prog w) A (eval elt env) (λx s₄ =>
       wpAny (model prog w) A (call (.builtin "list.append") [acc,x]) (λ_ s₅=>∃m,m<n/\I m s₅) (λ_ _=>False) s₄) (λ_ _=>False) s₃
      else ∃m,m<n/\I m s₃) (λ_ _=>False) s₂) (λ_ _=>False) s₀) (λ_ _=>False) s₁) (λ_ _=>False) s)
  (n:Nat) (h:I n s) :
  codeAny (model prog w) A (.compLoop (.ListComp elt [⟨target,iter,ifs,0⟩] scope pos) 0 it acc env) R s:=by
 refine codeAny_loop rfl I (λn s hI=>?_) n h
 show wpAny _ A ((compTurn (.ListComp elt [⟨target,iter,ifs,0⟩] scope pos) 0 it acc env).onRaise (λx=>do noteFrame x env;theTreesLotGoes x)) _ _ s
 refine wpAny_noted ?_
 rw[compTurn_list]
 have no:∀{α:Type} {t:Sem α} {Q:α->Shared->Prop} {E:Value->Shared->Prop} {s:Shared},wpAny (model prog w) A t Q (λ_ _=>False) s->wpAny (model prog w) A t Q E s:=λh=>BI h (λ_ _ q=>q) λ_ _ q=>q.elim
 refine AA (GG (AA (BI (turn n s hI) (λr s₁ h₁=>?_) λ_ _ h'=>h'.elim)))
 cases r with
 | none=>exact AI h₁
 | some v =>
  refine AA (BI h₁ (λ_ s₀ h₀=>?_) λ_ _ h'=>h'.elim)
  refine AA (BI h₀ (λ_ s₂ h₂=>AA (BI h₂ (λok s₃ h₃=>?_) λ_ _ h'=>h'.elim)) λ_ _ h'=>h'.elim)
  cases ok with
  | false=>exact AI ⟨rfl,h₃⟩
  | true =>
   exact AA (AA (BI h₃ (λx s₄ h₄=>AA (BI h₄ (λ_ s₅ h₅=>AI (AI ⟨rfl,h₅⟩)) λ_ _ h'=>h'.elim)) λ_ _ h'=>h'.elim))
def vf (X:Cx) (scope:Scope) (Nb:List Str) (target:Expr) (ifs:List Expr) (elt:Expr) (g:TG) (ts:TT) (te:TE):Prop :=
 ∀C s H fp,PG (dk X scope Nb C s H fp) target g/\PTs (dk X scope Nb C s H fp) ifs ts/\PE (dk X scope Nb C s H fp) elt te
theorem p5 {elt target iter:Expr} {ifs:List Expr} {pos:Pos} {g:TG} {ts:TT} {te:TE} {pins:List (Addr×Obj)} {σ:St} {H:Hp} {s:Shared} {it:Addr} {fp:List Addr} {tn:Nat->Heap->Prop} {J:L2.It} {Q:VK} {E:Value->Shared->Prop} {use:Option (Value->Sem Unit)} {QQ:Value->Shared->Prop}
  (S:CompScope X.env.scope scope X.N Nb cap nl) (hc:X.calm=true) (B:vf X scope Nb target ifs elt g ts te) (I:Inv X pins σ H s) (T:Turn X.prog X.w X.K target J fp it tn) (t0:tn 0 s.heap) (hf:∀b∈fp,uv X pins H b)
  (h:∃W:Nat->Nat->Hp->List V->Prop,(∃m,W 0 m H [])/\∀i m H acc,W i m H acc ->
   (J.stop i H/\acc.length<=sizeLine/\∀p,H p=none->Q (.ref p) (upd H p (.lst acc))) \/
   (J.go i H/\acc.length<sizeLine/\∀x H',J.yld i H x H'->g x (ef cap nl σ) H' λσ2 H2=>Kept (ef cap nl σ) σ2/\ts σ2 H2 λb H3=>if b=true then te σ2 H3 λv H4=>∃m',m'<m/\W (i+1) m' H4 (acc++[v])else ∃m',m'<m/\W (i+1) m' H3 acc))
  (hQ:∀(D C:Addr) (s':Shared) m,s.heap.objs.size<=C->(∀h',Heap.SameBut C s'.heap h'->EP X pins σ (λv H=>H C=none/\Q v H) (.ref D) {s' with heap:=h'})->s'.heap.Ns C m->compPost (model X.prog X.w) X.A E use QQ (.ref D) C (.ok .next) s') :
  wpAny (model X.prog X.w) X.A (newList []) (λacc s₃=>wpAny (model X.prog X.w) X.A (newFunctionEnv scope X.env.globals (vd X.env scope.names []) [] X.env.qual none .none (some X.env)) (λcenv s₄ =>
   codeAny (model X.prog X.w) X.A (.compStart (.ListComp elt [⟨target,iter,ifs,0⟩] scope pos) 0 (.ref it) acc {cenv with scope:=relabel scope X.env}) (compPost (model X.prog X.w) X.A E use QQ acc cenv.locals) s₄) E s₃) E s:=by
 refine CG (wpAny_newFunctionEnv S.nocell (by intro y hy;simp at hy) (λh₁ hns₁ hsb₁=>?_) S.kind)
 dsimp only at hns₁ hsb₁ ⊢
 generalize hH2:s.heap.push {cls:=.type "list",dict:=none,data:=.seq ([]:List Value).toArray}=H2 at hns₁ hsb₁ ⊢
 have hC:H2.objs.size=s.heap.objs.size+1:=by rw[<-hH2,CO]
 have hDC:s.heap.objs.size≠H2.objs.size:=by rw[hC];exact AM (EY _)
 have hCle:s.heap.objs.size<=H2.objs.size:=by rw[hC];exact GB _
 have old:∀b o,s.heap.get? b=some o->h₁.get? b=some o:=λb o e=>hsb₁.extBut b o (by rw[hC];exact AM (EM (AH e))) (AC _ (hH2 ▸ AC _ e))
 have hDo:h₁.get? s.heap.objs.size=some {cls:=.type "list",data:=.seq #[]}:=hsb₁.extBut _ _ hDC (AC _ (hH2 ▸ AQ _ rfl))
 have hfp:∀b∈fp,∃o,s.heap.get? b=some o:=λb hb=>let ⟨o,e,_⟩:=T.obj 0 _ t0 b hb;⟨o,e⟩
 have hlt:∀b∈fp,b<s.heap.objs.size:=λb hb=>let ⟨o,e⟩:=hfp b hb;AH e
 obtain⟨W,⟨m0,w0⟩,turn⟩:=h
 obtain⟨BG,BT,BE⟩:=B H2.objs.size s H fp
 have I4:=su (tk:=s.toks+([]:List (Str×Value)).length) I S hf hfp old hCle (AN _) hDC hns₁ (λx=>by simp) hDo
 have hcells:∀n,(n,NameKind.free)∈scope.names->∃c,X.env.cells.lookup n=some c:=λn hn=>by
  rcases S.free n hn with e | e
  ·exact I.ok.has n (.inl e)
  ·exact I.ok.has n (.inr e)
 -- what the iterator's objects are to the block
 have stat:∀{H':Hp},(∀b∈fp,H' b=none)->∀b∈fp,uv (dk X scope Nb H2.objs.size s H fp) [] H' b:=λhn b hb=>by
  refine⟨hn b hb,AM (AL (hlt b hb) hCle),λz=>?_,.inl hb,λx c e=>?_,λp hp=>absurd (show p∈([]:List (Addr×Obj))++[]from hp) (by simp)⟩
  ·rcases AJ.mp (I.stkSub b z)with z | z
   ·exact(hf b hb).2.1 z
   ·exact(hf b hb).2.2.1 z
  ·rcases jm scope.names [] x c hcells e with q | q
   ·cases q
   ·exact(hf b hb).2.2.2.2.1 x c q
 have loop:∀s₃:Shared,s₃={s with heap:=h₁,toks:=s.toks+([]:List (Str×Value)).length} ->
   codeAny (model X.prog X.w) X.A (.compLoop (.ListComp elt [⟨target,iter,ifs,0⟩] scope pos) 0 (.ref it) (.ref s.heap.objs.size) (compEnvC scope (vd X.env scope.names []) H2.objs.size X.env))
    (compPost (model X.prog X.w) X.A E use QQ (.ref s.heap.objs.size) H2.objs.size) s₃:=by
  rintro s₃ rfl
  refine Ag (λn s'=>∃i H' acc its n',Inv (dk X scope Nb H2.objs.size s H fp) [] (ef cap nl σ) H' s'/\tn i s'.heap/\(∀b∈fp,H' b=none)/\H' s.heap.objs.size=none /\
   s'.heap.get? s.heap.objs.size=some {cls:=.type "list",data:=.seq (its:List Value).toArray n'}/\bw acc its/\W i n H' acc) ?_ m0
   ⟨0,H,[],[],_,I4.pins_of (λp hp=>absurd hp (by simp)),T.keep _ _ _ t0 λb hb o e=>old b o e,λb hb=>(hf b hb).1,I.hok.fresh (AN _),hDo,.nil,w0⟩
  rintro n s5 ⟨i,H5,acc,its,n5,I5,t5,f5,hD5,hget5,hv5,w5⟩
  rcases turn i n H5 acc w5 with⟨stop,hz,q⟩ | ⟨go,hz,q⟩
  ·refine thn (T.done (dk X scope Nb H2.objs.size s H fp) rfl rfl rfl hc i [(s.heap.objs.size,{cls:=.type "list",data:=.seq its.toArray n5})] s5 _ H5 _ (I5.pins_of ?_) ?_ t5 stop) λr s6 ⟨hr,I6⟩=>?_
   ·intro p hp
    have e:p=(s.heap.objs.size,{cls:=.type "list",data:=.seq its.toArray n5}):=by simpa using hp
    subst e
    refine⟨hget5,hD5,hDC,λz=>?_,λv z=>by cases z⟩
    rcases AJ.mp (I.stkSub _ (show s.heap.objs.size∈frs X.stack from z))with w | w
    ·exact absurd I.lt (by rw[<-w];exact BQ _)
    ·exact I.nofs (AN _) w
   ·intro b hb
    obtain⟨a1,a2,a3,a4,a5,a6⟩:=stat f5 b hb
    refine⟨a1,a2,a3,a4,a5,λp hp=>?_⟩
    have e:p=(s.heap.objs.size,{cls:=.type "list",data:=.seq its.toArray n5}):=by
     have:p∈([]:List (Addr×Obj))++[(s.heap.objs.size,{cls:=.type "list",data:=.seq its.toArray n5})]:=hp
     simpa using this
    subst e
    exact λz=>absurd (hlt b hb) (by rw[<-z];exact BQ _)
   ·subst hr
    have hget6:=(I6.pin (s.heap.objs.size,{cls:=.type "list",data:=.seq its.toArray n5}) (by show _∈([]:List (Addr×Obj))++_;simp)).1
    obtain⟨m6,hn6,_⟩:=I6.loc
    refine hQ _ _ s6 m6 hCle (λh' hs'=>?_) hn6
    have hk6:∀b o,b≠H2.objs.size->s6.heap.get? b=some o->h'.get? b=some o:=λb o hb e=>hs'.extBut b o hb e
    have hgetD:=hk6 _ _ hDC hget6
    have Cn:H5 H2.objs.size=none:=I6.free
    have hok':HOk X.prog X.w H5 h':=λb u e=>by
     refine(I6.hok b u e).stay (λc v hcc q=>hk6 c v ?_ q) (λ_ q=>q) λ_ _ q=>q
     rcases hcc with z | z
     ·rintro rfl;rw[<-z]at e;rw[Cn]at e;cases e
     ·rintro rfl;rw[Cn]at z;cases z
    refine⟨.ref s.heap.objs.size,upd H5 s.heap.objs.size (.lst acc),?_,rfl,by rw[aw (Ne.symm hDC)];exact Cn,q _ hD5⟩
    have hU:Un (frs X.stack) fp H H5 s.heap s6.heap:=I6.base
    have nC:∀b o,s.heap.get? b=some o->b≠H2.objs.size:=λb o e=>AM (AL (AH e) hCle)
    have nD:∀b o,s.heap.get? b=some o->b≠s.heap.objs.size:=λb o e=>AM (AH e)
    refine I.call' (s':={s6 with heap:=h'}) (ch:=fp) (by show s6.os=s.os;exact I6.os) ⟨λb o e nn hb hx=>hk6 b o (nC b o e) (hU.keep b o e nn hb hx),λb o e nn hb hx=>?_,λb o e nn hx=>?_,λb o e hx=>?_,λb xs e=>?_,λb o u e=>?_,λb ps e=>?_⟩ ?_ I6.bare ?_
    ·obtain⟨sl,e2⟩:=hU.slot b o e nn hb hx
     exact⟨sl,hk6 b _ (nC b o e) e2⟩
    ·rw[aw (nD b o e)];exact hU.free b o e nn hx
    ·obtain⟨o',e2⟩:=hU.there b o e hx
     exact⟨o',hk6 b _ (nC b o e) e2⟩
    ·have e2:=hU.tups b xs e
     rw[aw (ax e2 hD5)];exact e2
    ·have e2:=hU.frzs b o u e
     rw[aw (ax e2 hD5)];exact e2
    ·obtain⟨more,e2⟩:=hU.tbls b ps e
     exact⟨more,by rw[aw (ax e2 hD5)];exact e2⟩
    ·exact L2.HOk.track hok' hD5 ⟨hz,its,n5,hv5,hgetD⟩
    ·intro b hb
     obtain⟨a1,a2,a3,a4,a5,a6⟩:=hf b hb
     exact⟨a4,a2,a5,a6⟩
  ·-- one more turn
   have notfs:s.heap.objs.size∉frs X.stack:=λz=>by
    rcases AJ.mp (I.stkSub _ z)with w | w
    ·exact absurd I.lt (by rw[<-w];exact BQ _)
    ·exact I.nofs (AN _) w
   have I5':Inv (dk X scope Nb H2.objs.size s H fp) [(s.heap.objs.size,{cls:=.type "list",data:=.seq its.toArray n5})] (ef cap nl σ) H5 s5:=I5.pins_of λp hp=>by
    have e:p=(s.heap.objs.size,{cls:=.type "list",data:=.seq its.toArray n5}):=by simpa using hp
    subst e
    exact⟨hget5,hD5,hDC,notfs,λv z=>by cases z⟩
   have stat':∀{H':Hp},(∀b∈fp,H' b=none)->∀b∈fp,uv (dk X scope Nb H2.objs.size s H fp) [(s.heap.objs.size,{cls:=.type "list",data:=.seq its.toArray n5})] H' b:=λhn b hb=>by
    obtain⟨a1,a2,a3,a4,a5,a6⟩:=stat hn b hb
    refine⟨a1,a2,a3,a4,a5,λp hp=>?_⟩
    have e:p=(s.heap.objs.size,{cls:=.type "list",data:=.seq its.toArray n5}):=by
     have:p∈([]:List (Addr×Obj))++[(s.heap.objs.size,{cls:=.type "list",data:=.seq its.toArray n5})]:=hp
     simpa using this
    subst e
    exact λz=>absurd (hlt b hb) (by rw[<-z];exact BQ _)
   refine thn (T.item (dk X scope Nb H2.objs.size s H fp) rfl rfl rfl hc i _ s5 _ H5 (λ_ _=>False) I5' (stat' f5) t5 go) λr s6 ⟨u,hr,h6⟩=>?_
   subst hr
   refine thn h6 λ_ s7 ⟨x,H7,I7,r7,y7,t7,f7⟩=>?_
   have I7':=I7.pinned (stat' f7) (T.obj _ _ t7)
   have back:∀{σ':St} {H':Hp} {s':Shared},Inv (dk X scope Nb H2.objs.size s H fp) ([(s.heap.objs.size,{cls:=.type "list",data:=.seq its.toArray n5})]++ph fp s7.heap) σ' H' s' ->
     tn (i+1) s'.heap/\(∀b∈fp,H' b=none)/\H' s.heap.objs.size=none/\s'.heap.get? s.heap.objs.size=some {cls:=.type "list",data:=.seq its.toArray n5}:=λ{σ' H' s'} J'=>by
    have pD:=J'.pin (s.heap.objs.size,{cls:=.type "list",data:=.seq its.toArray n5}) (by show _∈([]:List (Addr×Obj))++_;simp)
    refine⟨T.keep _ _ _ t7 λb hb o e=>(J'.pin (b,o) (AS _ (AS _ (d9 hb e)))).1,λb hb=>?_,pD.2.1,pD.1⟩
    obtain⟨o,e,d⟩:=T.obj _ _ t7 b hb
    exact(J'.pin (b,o) (AS _ (AS _ (d9 hb e)))).2.1
   refine thn (BG _ s7 _ H7 x u _ I7' r7 (q x H7 y7)) λ_ s8 ⟨σ8,H8,I8,ks,q8⟩=>?_
   refine thn (BT _ s8 σ8 H8 _ I8 q8) λok s9 ⟨H9,I9,q9⟩=>?_
   cases ok with
   | false =>
    obtain⟨m',hm',w9⟩:∃m',m'<n/\W (i+1) m' H9 acc:=q9
    obtain⟨b1,b2,b3,b4⟩:=back I9
    exact⟨m',hm',i+1,H9,acc,its,n5,(I9.weak ks.1 ks.2).pins_of (λp hp=>absurd hp (by simp)),b1,b2,b3,b4,hv5,w9⟩
   | true =>
    refine thn (BE _ s9 σ8 H9 _ I9 q9) λxv s10 ⟨v,H10,I10,r10,m',hm',w10⟩=>?_
    obtain⟨b1,b2,b3,b4⟩:=back I10
    have hl5:=hv5.length
    refine wpAny_list_append_plain (items:=its.toArray) ⟨n5,b4⟩ (λh' hpl hs'=>?_) (by rw[AE,<-hl5];exact DJ hz)
    obtain⟨n6,hg6⟩:=hpl
    have I11:Inv (dk X scope Nb H2.objs.size s H fp) [] (ef cap nl σ) H10 {s10 with heap:=h'}:=by
     have I10':=(I10.weak ks.1 ks.2).pins_of (pins':=[]) (λp hp=>absurd hp (by simp))
     refine I10'.turned (t':=s10.toks) (it:=s.heap.objs.size) (λb o hb e=>hs'.extBut b o hb e) b3 hDC (.inr (AN _)) (λx c e=>?_) (λp hp=>absurd (show p∈([]:List (Addr×Obj))++[]from hp) (by simp))
     rcases jm scope.names [] x c hcells e with q | q
     ·cases q
     ·obtain⟨v,hcc⟩:=I.cell x c q
      exact AM hcc.lt
    refine⟨m',hm',i+1,H10,acc++[v],its++[xv],n6,I11,?_,b2,b3,by rw[hg6];simp,hv5.append (.cons r10 .nil),w10⟩
    exact T.keep _ _ _ b1 λb hb o e=>hs'.extBut b o (AM (hlt b hb)) e
 exact codeAny_compStart_list (loop _ rfl) (T.self X.A 0 _ _ _ (T.keep _ _ _ t0 λb hb o e=>old b o e) (loop _ rfl))
theorem F0 {elt target iter:Expr} {ifs:List Expr} {pos:Pos} {wi:TI} {g:TG} {ts:TT} {te:TE} (S:CompScope X.env.scope scope X.N Nb cap nl) (hc:X.calm=true) (hi:PI X target iter wi) (B:vf X scope Nb target ifs elt g ts te)
  (hs:∀x,foldedSetIterable iter X.env x=pure x):PE X (.ListComp elt [⟨target,iter,ifs,0⟩] scope pos) (Fz wi g ts te (ef cap nl)):=by
 intro pins s σ H Q I h
 rw[eval_ListComp]
 have hcells:∀n,(n,NameKind.free)∈scope.names->∃c,X.env.cells.lookup n=some c:=λn hn=>by
  rcases S.free n hn with e | e
  ·exact I.ok.has n (.inl e)
  ·exact I.ok.has n (.inr e)
 refine EE (use:=none) rfl hs (lg hcells) S.kind (λy hy hl=>by rw[S.uniq y hy,hl]) ?_
 refine thn (hi pins s σ H _ I h) λv s1 h1=>thn h1 λitv s2 ⟨it,fp,tn,J,H2,e,I2,T,t2,f2,hW⟩=>?_
 subst e
 exact p5 (Q:=Q) (QQ:=EP X pins σ Q) S hc B I2 T t2 f2 hW λD C s' m _ hq hn=>⟨m,hn,λh' hs'=>let ⟨v,H',I',r,q⟩:=hq h' hs';⟨v,H',I',r,q.2⟩⟩
theorem yo {elt target iter:Expr} {ifs:List Expr} {pos spos py:Pos} {y:Str} {i:Nat} {wi:TI} {g:TG} {ts:TT} {te:TE} (S:CompScope X.env.scope scope X.N Nb cap nl) (hc:X.calm=true) (hi:PI X target iter wi) (B:vf X scope Nb target ifs elt g ts te)
  (hs:∀x,foldedSetIterable iter X.env x=pure x) (hsw:swapsWith (.ListComp elt [⟨target,iter,ifs,0⟩] scope pos) (some (.Name y py)) spos.line X.env=pure true)
  (hN:X.N.Nodup) (hiN:X.N[i]? = some y) (hy:X.env.scope.names.lookup y=some .local) :
  PS X (.Assign [.Name y py] (.ListComp elt [⟨target,iter,ifs,0⟩] scope pos) spos) (λE σ H=>Fz wi g ts te (ef cap nl) σ H (FQ λv H1=>E.nx (σ.set i (some v)) H1)):=by
 intro pins s σ H E I h
 rw[exec_Assign_Name_used _ _ _ _ hsw]
 have hcells:∀n,(n,NameKind.free)∈scope.names->∃c,X.env.cells.lookup n=some c:=λn hn=>by
  rcases S.free n hn with e | e
  ·exact I.ok.has n (.inl e)
  ·exact I.ok.has n (.inr e)
 refine AA (GG (AA ?_))
 show wpAny _ _ (comprehension _ scope X.env _ (newList []) false (eval iter X.env) (some (assign (.Name y py) X.env))>>=λ_=>pure ()) _ _ _
 refine AA (EE (use:=some (assign (.Name y py) X.env)) rfl hs (lg hcells) S.kind (λz hz hl=>by rw[S.uniq z hz,hl]) ?_)
 refine thn (hi pins s σ H _ I h) λv s1 h1=>thn h1 λitv s2 ⟨it,fp,tn,J,H2,e,I2,T,t2,f2,hW⟩=>?_
 subst e
 refine p5 (Q:=FQ λv H1=>E.nx (σ.set i (some v)) H1) S hc B I2 T t2 f2 hW λD C s' m hC hq hn=>?_
 obtain⟨v,H',I',r,hCn,q⟩:=hq s'.heap (.refl ..)
 have hep:∃H',Inv X pins σ H' s'/\H' C=none/\E.nx (σ.set i (some v)) H':=by
  rcases q with q | ⟨p,xs,rfl,e,q⟩
  ·exact⟨H',I',hCn,q⟩
  ·obtain⟨o,I''⟩:=L2.Inv.freeze I' e
   exact⟨_,I'',by rw[aw (λz=>by rw[z,e]at hCn;cases hCn)];exact hCn,q o⟩
 obtain⟨H',I',hCn,q⟩:=hep
 have hCL:C≠X.env.locals:=Ev (AL I2.lt hC)
 show wpAny _ _ (assign (.Name y py) X.env (.ref D)) _ _ s'
 refine wpAny_assign_Name (rp I' hN hiN (.inl hy) r (λs'' I'' ⟨a,hsb,ha⟩=>?_) (.inr hy))
 have haC:C≠a:=by
  rcases ha with z | z
  ·rw[z];exact hCL
  ·obtain⟨w,hc⟩:=I2.cell y a z
   exact Ev (AL hc.lt hC)
 refine⟨m,hn.sameBut hsb haC,λh' hs'=>?_⟩
 refine AI (AI ⟨_,H',?_,q⟩)
 refine I''.turned (t':=s''.toks) (it:=C) (λb o hb e=>hs'.extBut b o hb e) hCn hCL (.inr (CF I2.sz hC)) (λx c e=>?_) (λp hp=>?_)
 ·obtain⟨w,hc⟩:=I2.cell x c e
  exact AM (AL hc.lt hC)
 ·exact AM (AL (AH (I2.pin p hp).1) hC)
end
def tTs (K:PySem.W.Frag) (φ:Phi) (x:Exs):TT:=λσv H Q=>∃ι σ μ,Sim K ι H μ/\jx K ι H σ σv/\fz K RB ι H (ym φ x σ μ) Q
section
variable {X : Cx} {φ : Phi} {scope : Scope} {Nb : List Str} {cap : List Nat} {nl : Nat}
theorem PTs.imp {ifs:List Expr} {t t':TT} (h:PTs X ifs t) (i:∀σ H Q,t' σ H Q->t σ H Q):PTs X ifs t':=λpins s σ H Q I q=>h pins s σ H Q I (i σ H Q q)
theorem Ji:PTs X [] (tTs X.K φ .nil):=PTs.imp Fy λσv H Q ⟨ι,σ,μ,hS,hL,h⟩=>by
 simp![ym]at h
 exact h.ok hS rfl
theorem F3 {c:Expr} {r:List Expr} {xc:Ex} {xr:Exs} (h1:PT X c (tT X.K φ xc)) (h2:PTs X r (tTs X.K φ xr)):PTs X (c::r) (tTs X.K φ (.cons xc xr)):=PTs.imp (Ck h1 h2) λσv H Q ⟨ι,σ,μ,hS,hL,h⟩=>by
 simp![ym]at h
 obtain⟨d,μ1,e1,h⟩:=h.bind
 refine⟨ι,σ,μ,hS,hL,?_⟩
 rw[e1]
 cases d with
 | bl k =>
  intro ι1 x H1 p1 x1 s1 d1
  cases d1
  cases k with
  | true=>exact⟨ι1,σ,μ1,s1,hL.mono p1 x1,(show fz _ _ _ _ (ym φ xr σ μ1) _ from h).mono p1 x1⟩
  | false=>exact h ι1 false H1 p1 x1 s1 rfl
 | _=>exact h.elim
theorem wy {K:PySem.W.Frag} {ι:List Addr} {H:Hp} {σ:Sl} {σv:St} (hL:jx K ι H σ σv):jx K ι H (cap.map (λi=>(σ[i]?).getD none)++List.replicate nl none) (ef cap nl σv):=λj d e=>by
 by_cases hj:j<cap.length
 ·rw[AK (by simpa using hj),AU,AB hj]at e
  simp![FI,BF]at e
  have e4:σ[cap[j]]? = some (some d):=by
   cases e5:σ[cap[j]]? with
   | none=>rw[e5]at e;cases e
   | some w=>rw[e5]at e;simp at e;rw[e]
  obtain⟨v,q1,q2⟩:=hL _ _ e4
  refine⟨v,?_,q2⟩
  unfold ef
  rw[AK (by simpa using hj),AU,AB hj]
  simp[q1]
 ·rw[BK (by simpa using hj),CB]at e
  split at e<;>cases e
theorem wz {σv σv':St} {tg:Tg} (hs:∀j∈slots tg,cap.length<=j) (hl:σv'.length=(ef cap nl σv).length) (h:∀j,j∉slots tg->σv'[j]? = (ef cap nl σv)[j]?):Kept (ef cap nl σv) σv':=by
 refine⟨hl.symm,λi v e=>?_⟩
 have hi:i<cap.length:=by
  by_cases hi:i<cap.length
  ·exact hi
  ·unfold ef at e
   rw[BK (by simpa using hi),CB]at e
   split at e<;>cases e
 rw[h i λz=>absurd (hs i z) (by lia)]
 exact e
theorem sv {m:Mk} {tg:Tg} {it:It} {cs:Exs} {elt:Ex} {σv:St} {H:Hp} {Q:VK} (hs:∀j∈slots tg,cap.length<=j) (h:tE X.K φ (.comp m cap nl tg it cs elt) σv H Q) :
  Fz (tI X.K φ it) (tG X.K tg) (tTs X.K φ cs) (tE X.K φ elt) (ef cap nl) σv H (FQ Q):=by
 obtain⟨ι,σ,μ,hS,hL,h⟩:=h
 simp![evE]at h
 obtain⟨⟨ds,g⟩,μ1,e1,h⟩:=h.bind
 refine⟨ι,σ,μ,hS,hL,?_⟩
 rw[e1]
 intro ι1 H1 J p1 x1 s1 wk
 refine⟨λi k H' acc=>k=ds.length-i/\i<=ds.length/\acc.length<=i/\∃ι' μ' ys,ι1 <+: ι'/\Ext H1 H'/\Sim X.K ι' H' μ'/\aq X.K ι' H' ys acc /\
  fz X.K (RD X.K) ι' H' ((mapR g (λd μ=>ik (ee tg d (cap.map (λi=>(σ[i]?).getD none)++List.replicate nl none)) λσ' =>
    (ym φ cs σ' μ).bind λb μ=>if b=true then(evE φ elt σ' μ).bind λx μ=>.ok [x] μ else .ok [] μ) (ds.drop i) μ').bind λxs μ=>mkL m (ys++xs) μ) Q,
  ⟨ds.length,by simp,GD _,AN _,ι1,μ1,[],AD _,.refl _,s1,by simp[aq],?_⟩,?_⟩
 ·simpa using h.mono p1 x1
 ·rintro i k H' acc ⟨rfl,hi,hacc,ι',μ',ys,p',x',s',hys,h'⟩
  have wl:=wk.len
  by_cases hlt:i<ds.length
  ·obtain⟨d,ed⟩:∃d,ds[i]? = some d:=⟨ds[i],AB hlt⟩
   have edrop:ds.drop i=d::ds.drop (i+1):=by
    rw[EB hlt]
    rw[AB hlt]at ed
    cases ed;rfl
   rw[edrop]at h'
   simp![mapR]at h'
   split at h'
   ·rename_i hgd
    right
    refine⟨wk.go i ι' H' μ' p' x' s' hgd hlt,by lia,λv H2 hy=>?_⟩
    obtain⟨x2,s2,d',ed',hd'⟩:=wk.yld i ι' H' μ' v H2 p' x' s' hgd hlt hy
    rw[ed]at ed';cases ed'
    rw[Res.bind_assoc]at h'
    cases eb:ee tg d (cap.map (λi=>(σ[i]?).getD none)++List.replicate nl none)with
    | none=>rw[eb]at h';exact h'.elim
    | some σb =>
     rw[eb]at h'
     simp![nq]at h'
     have hLb:=wy (cap:=cap) (nl:=nl) ((hL.mono (p1.trans p') (x1.trans x')).mono (AD _) x2)
     refine⟨ι',_,d,σb,hLb,?_,hd',eb,λσv2 l2 z2 z3 k2=>⟨wz hs z3 k2,ι',σb,μ',s2,l2,?_⟩⟩
     ·simp[ef]
     ·rw[Res.bind_assoc]at h'
      obtain⟨b,μ2,e2,h2⟩:=h'.bind
      rw[e2]
      intro ι3 b' H3 p3 x3 s3 d3
      cases d3
      cases b with
      | false =>
       refine⟨ds.length-(i+1),by lia,rfl,hlt,by lia,ι3,μ2,ys,p'.trans p3,(x'.trans x2).trans x3,s3,aq.mono p3 (x2.trans x3) _ _ hys,?_⟩
       have h3:=h2.mono p3 (x2.trans x3)
       simpa[Res.bind_assoc]using h3
      | true =>
       simp![if_true]at h2 ⊢
       rw[Res.bind_assoc]at h2
       obtain⟨y,μ3,e3,h3⟩:=h2.bind
       refine⟨ι3,σb,μ2,s3,l2.mono p3 x3,?_⟩
       rw[e3]
       intro ι4 w H4 p4 x4 s4 d4
       refine⟨ds.length-(i+1),by lia,rfl,hlt,by simp;lia,ι4,μ3,ys++[y],(p'.trans p3).trans p4,((x'.trans x2).trans x3).trans x4,s4,(aq.mono (p3.trans p4) ((x2.trans x3).trans x4) _ _ hys).append (.one d4),?_⟩
       have h4:=h3.mono (p3.trans p4) ((x2.trans x3).trans x4)
       simpa[Res.bind_assoc]using h4
   ·exact h'.elim
  ·have ei:i=ds.length:=by lia
   subst ei
   simp![GU,mapR]at h'
   split at h'
   ·rename_i hgd
    refine .inl ⟨wk.stop ι' H' μ' p' x' s' hgd,by lia,λp hp=>j6 s' hys (by simpa using h') hp⟩
   ·exact h'.elim
theorem Jj {e target iter:Expr} {ifs:List Expr} {pos:Pos} {m:Mk} {tg:Tg} {it:It} {cs:Exs} {elt:Ex} (S:CompScope X.env.scope scope X.N Nb cap nl) (hc:X.calm=true) (hi:PI X target iter (tI X.K φ it))
  (B:vf X scope Nb target ifs e (tG X.K tg) (tTs X.K φ cs) (tE X.K φ elt)) (hf:∀x,foldedSetIterable iter X.env x=pure x) (hs:∀j∈slots tg,cap.length<=j) :
  PE X (.ListComp e [⟨target,iter,ifs,0⟩] scope pos) (tE X.K φ (.comp m cap nl tg it cs elt)) :=
 PE.imp (PE.fq (F0 S hc hi B hf)) λσv H Q h=>sv hs h
theorem Ah {e target iter:Expr} {ifs:List Expr} {pos spos py:Pos} {y:Str} {i:Nat} {m:Mk} {tg:Tg} {it:It} {cs:Exs} {elt:Ex} (S:CompScope X.env.scope scope X.N Nb cap nl) (hc:X.calm=true) (hi:PI X target iter (tI X.K φ it))
  (B:vf X scope Nb target ifs e (tG X.K tg) (tTs X.K φ cs) (tE X.K φ elt)) (hf:∀x,foldedSetIterable iter X.env x=pure x) (hs:∀j∈slots tg,cap.length<=j)
  (hsw:swapsWith (.ListComp e [⟨target,iter,ifs,0⟩] scope pos) (some (.Name y py)) spos.line X.env=pure true) (hN:X.N.Nodup) (hiN:X.N[i]? = some y) (hy:X.env.scope.names.lookup y=some .local) :
  PS X (.Assign [.Name y py] (.ListComp e [⟨target,iter,ifs,0⟩] scope pos) spos) (tS X.K φ (.set i (.comp m cap nl tg it cs elt))) :=
 PS.imp (yo S hc hi B hf hsw hN hiN hy) λE σv H ⟨ι,σ,μ,hS,hL,hl,h⟩=>by
  refine sv (m:=m) (Q:=λv H1=>E.nx (σv.set i (some v)) H1) hs ?_
  simp![evS]at h
  obtain⟨d,μ1,e1,h⟩:=h.bind
  refine⟨ι,σ,μ,hS,hL,?_⟩
  rw[e1]
  exact λι1 v H1 p1 x1 s1 d1=>h ι1 _ H1 p1 x1 s1 ((hL.mono p1 x1).set hl d1) (by simp[hl])
end
end Lp
namespace L2
open PySem PySem.Spec PyProof.Rows
theorem sx {e:Value} {env env':Env} (h:env.frame=env'.frame):noteFrame e env=noteFrame e env':=by
 unfold noteFrame PySem.frameOf
 rw[h]
structure FlA (X:Cx) (ex:List Addr) (H0:Hp) (s0:Shared) (H':Hp) (e:Addr) (cls:Value) (s:Shared):Prop where
 os:s.os=s0.os
 bare:AllBare s.gens
 un:Un (frs X.stack) ex H0 H' s0.heap s.heap
 hok:HOk X.prog X.w H' s.heap
 new:s0.heap.get? e=none
 free:H' e=none
 fly:Ol s0.heap H' s.heap e cls
section
variable {X : Cx} {pins : List (Addr × Obj)} {σ : St} {H0 H' : Hp} {s0 s : Shared} {e : Addr} {cls : Value} {ex : List Addr}
theorem FlA.inv (I:Inv X pins σ H0 s0) (F:FlA X ex H0 s0 H' e cls s)
  (hch:∀b∈ex,(b∈X.ex\/X.s₀.heap.objs.size<=b)/\b≠X.env.locals/\(∀x c,X.env.cells.lookup x=some c->c≠b)/\∀p∈X.pn++pins,p.1≠b):Inv X pins σ H' s:=I.call' F.os F.un F.hok F.bare hch
theorem FlA.flying (I:Inv X pins σ H0 s0) (hx:X.ex=[]) (F:FlA X ex H0 s0 H' e cls s):Fly X.s₀.heap H' s.heap e cls:=by
 obtain⟨oe,vs,T,oT,ts,a0,fl,t1,t2,t3,t4,t5,t6⟩:=F.fly
 exact⟨I.old hx F.new,F.free,.inr ⟨oe,vs,T,oT,ts,a0,fl,t1,t2,t3,t4,⟨I.old hx t5.1,t5.2⟩,t6⟩⟩
theorem Fl.noted {M:Model} {A:Around} {E:Value->Shared->Prop} {Q:Shared->Prop} {env:Env} {outer:List Env} {L:Addr} (I:Inv X pins σ H0 s0) (F:Fl X H0 s0 H' e cls s) (hs:X.stack=env::outer) (hl:env.frame=some L) (hA:A.frames=some X.stack)
  (q:∀h',FlA X [] H0 s0 H' e cls {s with heap:=h'}->Q {s with heap:=h'}):wpAny M A (noteFrame (.ref e) env) (λ_ s2=>Q s2) E s:=by
 obtain⟨oe,vs,T,oT,ts,a0,t1,t2,t3,t4,t5,t6,t7,t8,t9⟩:=F.fly
 rw[hs]at hA
 have B:=F.frm I (T:=T)
 have J:=F.inv I
 have hn:∀b,b=e\/b=T->(PySem.W.hideAll s.heap (e::T::frs X.stack)).get? b=none:=λb z=>BR _ (by rcases z with z | z<;>simp[z])
 refine wpAny_noteFrame_onW (base:=PySem.W.hideAll s.heap (e::T::frs X.stack)) (cls:=cls) (a0:=a0) hA (by rw[<-hs];exact B) hl ⟨oe,vs,T,oT,ts,t1,t2,t3,t4,hn T (.inr rfl),t6,t7,t8,t9⟩ (λb o h=>CZ _ h) (hn e (.inl rfl)) λh' NW=>q h' ?_
 obtain⟨st,ff,tr,up⟩:=NW
 rw[<-hs]at ff
 have k1:∀b o,s.heap.get? b=some o->b≠e->b∉[T]->b∉frs X.stack->h'.get? b=some o:=λb o hb h1 h2 h3=>st b o (CH _ hb (by
  simp![AJ,not_or]
  exact⟨h1,by simpa using h2,h3⟩))
 have k2:∀b o,s.heap.get? b=some o->b∈frs X.stack->∃sl,h'.get? b=some {o with slots:=sl}:=λb o hb h3=>by
  obtain⟨_,o',ho',hd'⟩:=J.stack.mem h3
  rw[hb]at ho';cases ho'
  exact up b o hb hd'
 have ne:∀b o,s0.heap.get? b=some o->b≠e/\b∉[T]:=λb o hb=>⟨λz=>(by rw[z,F.new]at hb;cases hb),λz=>(by rw[BZ.mp z,t5.1]at hb;cases hb)⟩
 refine⟨F.os,F.bare,⟨λb o hb n hn hx=>?_,λb o hb n hn hx=>?_,F.un.free,λb o hb hx=>?_,F.un.tups,F.un.frzs,F.un.tbls⟩,?_,F.new,F.free,?_⟩
 ·exact k1 b o (F.un.keep b o hb n hn hx) (ne b o hb).1 (ne b o hb).2 hn
 ·obtain⟨sl,e1⟩:=F.un.slot b o hb n hn hx
  obtain⟨sl',e2⟩:=k2 b _ e1 hn
  exact⟨sl',e2⟩
 ·obtain⟨o',e1⟩:=F.un.there b o hb hx
  by_cases hn:b∈frs X.stack
  ·obtain⟨sl',e2⟩:=k2 b _ e1 hn
   exact⟨_,e2⟩
  ·exact⟨o',k1 b o' e1 (ne b o hb).1 (ne b o hb).2 hn⟩
 ·exact qi J F.free (λb hb=>by rw[BZ.mp hb];exact t5.2) k1
 ·obtain⟨oe,vs,T',oT,ts,u1,u2,u3,u4,u5,u6,u7,u8,u9⟩:=tr
  refine⟨oe,vs,T',oT,ts,a0,_,u1,u2,u3,u4,?_,u6,u7,u8,u9⟩
  cases es:s.heap.get? T' with
  | none =>
   refine⟨?_,F.hok.none es⟩
   cases e0:s0.heap.get? T' with
   | none=>rfl
   | some o =>
    obtain⟨o',e1⟩:=F.un.there T' o e0 (by simp)
    rw[es]at e1;cases e1
  | some o =>
   by_cases hm:T'∈e::T::frs X.stack
   ·simp![AJ]at hm
    rcases hm with z | z | z
    ·exact absurd z u6
    ·subst z;exact t5
    ·obtain⟨_,o',ho',hd'⟩:=ff.mem z
     rw[u7]at ho';cases ho'
     exact absurd u8 (hd' ts)
   ·rw[CH _ es hm]at u5;cases u5
theorem FlA.pass {α:Type} {M:Model} {A:Around} {E:Value->Shared->Prop} {Q:α->Shared->Prop} {env:Env} {what:String} (F:FlA X ex H0 s0 H' e cls s)
  (q:∀h',FlA X ex H0 s0 H' e cls {s with heap:=h'}->E (.ref e) {s with heap:=h'}):wpAny M A (PySem.passOn what (.ref e) env:Sem α) Q E s:=by
 obtain⟨oe,vs,T,oT,ts,a0,fl,t1,t2,t3,t4,t5,t6,t7,t8,t9⟩:=id F.fly
 have ht3:3<ts.size:=(DY.mp t9).1
 unfold PySem.passOn
 refine AA (BO t1 t3 t4 ?_)
 rw[if_neg (show ¬((Value.ref T==Value.none)=true)from by simp)]
 refine AA ?_
 unfold setFlight
 refine AA (BO t1 t3 t4 ?_)
 rw[if_pos (show(Value.ref T != Value.none)=true from by simp)]
 refine FY t7 t8 ht3 ?_
 have oth:∀b,b≠T->(s.heap.update T (Obj.mapFields (·.setIfInBounds 3 (env.frame.elim Value.none λf=>rawInt f)))).get? b=s.heap.get? b:=λb hb=>CW _ _ (Ne.symm hb)
 have nT:∀b o,s0.heap.get? b=some o->b≠T:=λb o hb z=>by rw[z,t5.1]at hb;cases hb
 refine wpAny_throw (q _ ⟨F.os,F.bare,⟨λb o hb n hn hx=>(oth b (nT b o hb)).trans (F.un.keep b o hb n hn hx),λb o hb n hn hx=>?_,F.un.free,λb o hb hx=>?_,F.un.tups,F.un.frzs,F.un.tbls⟩,λb u hb=>?_,F.new,F.free,?_⟩)
 ·obtain⟨sl,e1⟩:=F.un.slot b o hb n hn hx
  exact⟨sl,(oth b (nT b o hb)).trans e1⟩
 ·obtain⟨o',e1⟩:=F.un.there b o hb hx
  exact⟨o',(oth b (nT b o hb)).trans e1⟩
 ·refine(F.hok b u hb).stay (λc v hc k=>(oth c λz=>?_).trans k) (λ_ k=>k) λ_ _ k=>k
  subst z
  rcases hc with z | z
  ·rw[<-z,t5.2]at hb;cases hb
  ·rw[t5.2]at z;cases z
 ·exact⟨oe,vs,T,_,_,a0,_,(oth e (Ne.symm t6)).trans t1,t2,t3,t4,t5,t6,DR _ t7 (Obj.isFreed_of_fields (EH t8 _)),EH t8 _,by simp[ht3];rfl⟩
end
end L2
namespace Lp
open PySem PySem.Spec PyProof.Rows L2
section
variable {X : Cx} {scope : Scope} {Nb : List Str} {cap : List Nat} {nl : Nat}
theorem Ai {prog:Program} {w:World} {A:Around} {R:Result->Shared->Prop} {s:Shared} {elt target iter:Expr} {pos:Pos} {it acc:Value} {env:Env} (I:Nat->Shared->Prop)
  (turn:∀n s,I n s->wpAny (model prog w) A (pyNext it) (λr s₁=>match r with
   | none=>R (.ok .next) s₁
   | some v=>wpAny (model prog w) A (letOwnedTupleGo target it v) (λ_ s₀=>wpAny (model prog w) A (assign target env v) (λ_ s₂ =>
     wpAny (model prog w) A (eval elt env) (λx s₄ =>
      wpAny (model prog w) A (call (.builtin "list.append") [acc,x]) (λ_ s₅=>∃m,m<n/\I m s₅) (λ_ _=>False) s₄) (notedBy (model prog w) A env λx s'=>R (.error x) s') s₂) (λ_ _=>False) s₀) (λ_ _=>False) s₁) (λ_ _=>False) s)
  (n:Nat) (h:I n s) :
  codeAny (model prog w) A (.compLoop (.ListComp elt [⟨target,iter,[],0⟩] scope pos) 0 it acc env) R s:=by
 refine codeAny_loop rfl I (λn s hI=>?_) n h
 show wpAny _ A ((compTurn (.ListComp elt [⟨target,iter,[],0⟩] scope pos) 0 it acc env).onRaise (λx=>do noteFrame x env;theTreesLotGoes x)) _ _ s
 refine wpAny_noted ?_
 rw[compTurn_list]
 refine AA (GG (AA (BI (turn n s hI) (λr s₁ h₁=>?_) λ_ _ h'=>h'.elim)))
 cases r with
 | none=>exact AI h₁
 | some v =>
  refine AA (BI h₁ (λ_ s₀ h₀=>?_) λ_ _ h'=>h'.elim)
  refine AA (BI h₀ (λ_ s₂ h₂=>AA (AI ?_)) λ_ _ h'=>h'.elim)
  exact AA (AA (BI h₂ (λx s₄ h₄=>AA (BI h₄ (λ_ s₅ h₅=>AI (AI ⟨rfl,h₅⟩)) λ_ _ h'=>h'.elim)) λ_ _ h'=>h'))
def Mu (X:Cx) (scope:Scope) (Nb:List Str) (target:Expr) (y:Str) (cpos:Pos) (a:Expr) (es:List Expr) (g:TG) (ta:TA):Prop :=
 ∀C s H fp,PG (dk X scope Nb C s H fp) target g/\PA (dk X scope Nb C s H fp).nox (a::es) ta/\Gl (dk X scope Nb C s H fp) y /\
  starEach (a::es) (dk X scope Nb C s H fp).env=(false,eval a (dk X scope Nb C s H fp).env)::starEach es (dk X scope Nb C s H fp).env/\(backTo cpos (starEach es (dk X scope Nb C s H fp).env)).any (·.1)=false
theorem vg {y:Str} {p cpos:Pos} {a:Expr} {es:List Expr} {target iter:Expr} {pos:Pos} {g:TG} {ta:TA} {pins:List (Addr×Obj)} {σ:St} {H:Hp} {s:Shared} {it:Addr} {fp:List Addr} {tn:Nat->Heap->Prop} {J:L2.It} {Q:VK} {use:Option (Value->Sem Unit)} {QQ:Value->Shared->Prop} {EX:Value->Hp->Prop} {k:Nat} {f:Addr} {fd:FuncData} {ps:List Str} {sp:Sp}
  (Wn:pe X EX) (hx:X.ex=[]) (hst:X.stack=X.env::X.outer) (hfr:X.env.frame=some X.env.locals)
  (F:FnOk X.prog X.w X.K X.mg X.base (CX1 X.prog X.w) k f fd ps sp) (hr:Room k X.A) (hm:X.mg y=some (.ref f)) (hk:PySem.W.keepIn X.K (.ref f)=true) (hbn:Binds X.K fd ps []) (hdb:(y==("__debug__":Str))=false)
  (S:CompScope X.env.scope scope X.N Nb cap nl) (hc:X.calm=true) (B:Mu X scope Nb target y cpos a es g ta) (I:Inv X pins σ H s) (T:Turn X.prog X.w X.K target J fp it tn) (t0:tn 0 s.heap) (hf:∀b∈fp,uv X pins H b)
  (h:∃W:Nat->Nat->Hp->List V->Prop,(∃m,W 0 m H [])/\∀i m H acc,W i m H acc ->
   (J.stop i H/\acc.length<=sizeLine/\∀p,H p=none->Q (.ref p) (upd H p (.lst acc))) \/
   (J.go i H/\acc.length<sizeLine/\∀x H',J.yld i H x H'->g x (ef cap nl σ) H' λσ2 H2=>Kept (ef cap nl σ) σ2/\ta σ2 H2 λvs H3=>sp vs H3 (λv H4=>∃m',m'<m/\W (i+1) m' H4 (acc++[v])) λcls _ H4=>EX cls H4))
  (hQ:∀(D C:Addr) (s':Shared) m,s.heap.objs.size<=C->(∀h',Heap.SameBut C s'.heap h'->EP X pins σ (λv H=>H C=none/\Q v H) (.ref D) {s' with heap:=h'})->s'.heap.Ns C m->compPost (model X.prog X.w) X.A X.xe use QQ (.ref D) C (.ok .next) s') :
  wpAny (model X.prog X.w) X.A (newList []) (λacc s₃=>wpAny (model X.prog X.w) X.A (newFunctionEnv scope X.env.globals (vd X.env scope.names []) [] X.env.qual none .none (some X.env)) (λcenv s₄ =>
   codeAny (model X.prog X.w) X.A (.compStart (.ListComp (.Call (.Name y p) (a::es) [] cpos) [⟨target,iter,[],0⟩] scope pos) 0 (.ref it) acc {cenv with scope:=relabel scope X.env}) (compPost (model X.prog X.w) X.A X.xe use QQ acc cenv.locals) s₄) X.xe s₃) X.xe s:=by
 refine CG (wpAny_newFunctionEnv S.nocell (by intro y hy;simp at hy) (λh₁ hns₁ hsb₁=>?_) S.kind)
 dsimp only at hns₁ hsb₁ ⊢
 generalize hH2:s.heap.push {cls:=.type "list",dict:=none,data:=.seq ([]:List Value).toArray}=H2 at hns₁ hsb₁ ⊢
 have hC:H2.objs.size=s.heap.objs.size+1:=by rw[<-hH2,CO]
 have hDC:s.heap.objs.size≠H2.objs.size:=by rw[hC];exact AM (EY _)
 have hCle:s.heap.objs.size<=H2.objs.size:=by rw[hC];exact GB _
 have old:∀b o,s.heap.get? b=some o->h₁.get? b=some o:=λb o e=>hsb₁.extBut b o (by rw[hC];exact AM (EM (AH e))) (AC _ (hH2 ▸ AC _ e))
 have hDo:h₁.get? s.heap.objs.size=some {cls:=.type "list",data:=.seq #[]}:=hsb₁.extBut _ _ hDC (AC _ (hH2 ▸ AQ _ rfl))
 have hfp:∀b∈fp,∃o,s.heap.get? b=some o:=λb hb=>let ⟨o,e,_⟩:=T.obj 0 _ t0 b hb;⟨o,e⟩
 have hlt:∀b∈fp,b<s.heap.objs.size:=λb hb=>let ⟨o,e⟩:=hfp b hb;AH e
 obtain⟨W,⟨m0,w0⟩,turn⟩:=h
 obtain⟨BG,BA,bg,bs,bp⟩:=B H2.objs.size s H fp
 have I4:=su (tk:=s.toks+([]:List (Str×Value)).length) I S hf hfp old hCle (AN _) hDC hns₁ (λx=>by simp) hDo
 have hcells:∀n,(n,NameKind.free)∈scope.names->∃c,X.env.cells.lookup n=some c:=λn hn=>by
  rcases S.free n hn with e | e
  ·exact I.ok.has n (.inl e)
  ·exact I.ok.has n (.inr e)
 -- what the iterator's objects are to the block
 have stat:∀{H':Hp},(∀b∈fp,H' b=none)->∀b∈fp,uv (dk X scope Nb H2.objs.size s H fp) [] H' b:=λhn b hb=>by
  refine⟨hn b hb,AM (AL (hlt b hb) hCle),λz=>?_,.inl hb,λx c e=>?_,λp hp=>absurd (show p∈([]:List (Addr×Obj))++[]from hp) (by simp)⟩
  ·rcases AJ.mp (I.stkSub b z)with z | z
   ·exact(hf b hb).2.1 z
   ·exact(hf b hb).2.2.1 z
  ·rcases jm scope.names [] x c hcells e with q | q
   ·cases q
   ·exact(hf b hb).2.2.2.2.1 x c q
 have loop:∀s₃:Shared,s₃={s with heap:=h₁,toks:=s.toks+([]:List (Str×Value)).length} ->
   codeAny (model X.prog X.w) X.A (.compLoop (.ListComp (.Call (.Name y p) (a::es) [] cpos) [⟨target,iter,[],0⟩] scope pos) 0 (.ref it) (.ref s.heap.objs.size) (compEnvC scope (vd X.env scope.names []) H2.objs.size X.env))
    (compPost (model X.prog X.w) X.A X.xe use QQ (.ref s.heap.objs.size) H2.objs.size) s₃:=by
  rintro s₃ rfl
  refine Ai (λn s'=>∃i H' acc its n',Inv (dk X scope Nb H2.objs.size s H fp) [] (ef cap nl σ) H' s'/\tn i s'.heap/\(∀b∈fp,H' b=none)/\H' s.heap.objs.size=none /\
   s'.heap.get? s.heap.objs.size=some {cls:=.type "list",data:=.seq (its:List Value).toArray n'}/\bw acc its/\W i n H' acc) ?_ m0
   ⟨0,H,[],[],_,I4.pins_of (λp hp=>absurd hp (by simp)),T.keep _ _ _ t0 λb hb o e=>old b o e,λb hb=>(hf b hb).1,I.hok.fresh (AN _),hDo,.nil,w0⟩
  rintro n s5 ⟨i,H5,acc,its,n5,I5,t5,f5,hD5,hget5,hv5,w5⟩
  rcases turn i n H5 acc w5 with⟨stop,hz,q⟩ | ⟨go,hz,q⟩
  ·refine thn (T.done (dk X scope Nb H2.objs.size s H fp) rfl rfl rfl hc i [(s.heap.objs.size,{cls:=.type "list",data:=.seq its.toArray n5})] s5 _ H5 _ (I5.pins_of ?_) ?_ t5 stop) λr s6 ⟨hr,I6⟩=>?_
   ·intro p hp
    have e:p=(s.heap.objs.size,{cls:=.type "list",data:=.seq its.toArray n5}):=by simpa using hp
    subst e
    refine⟨hget5,hD5,hDC,λz=>?_,λv z=>by cases z⟩
    rcases AJ.mp (I.stkSub _ (show s.heap.objs.size∈frs X.stack from z))with w | w
    ·exact absurd I.lt (by rw[<-w];exact BQ _)
    ·exact I.nofs (AN _) w
   ·intro b hb
    obtain⟨a1,a2,a3,a4,a5,a6⟩:=stat f5 b hb
    refine⟨a1,a2,a3,a4,a5,λp hp=>?_⟩
    have e:p=(s.heap.objs.size,{cls:=.type "list",data:=.seq its.toArray n5}):=by
     have:p∈([]:List (Addr×Obj))++[(s.heap.objs.size,{cls:=.type "list",data:=.seq its.toArray n5})]:=hp
     simpa using this
    subst e
    exact λz=>absurd (hlt b hb) (by rw[<-z];exact BQ _)
   ·subst hr
    have hget6:=(I6.pin (s.heap.objs.size,{cls:=.type "list",data:=.seq its.toArray n5}) (by show _∈([]:List (Addr×Obj))++_;simp)).1
    obtain⟨m6,hn6,_⟩:=I6.loc
    refine hQ _ _ s6 m6 hCle (λh' hs'=>?_) hn6
    have hk6:∀b o,b≠H2.objs.size->s6.heap.get? b=some o->h'.get? b=some o:=λb o hb e=>hs'.extBut b o hb e
    have hgetD:=hk6 _ _ hDC hget6
    have Cn:H5 H2.objs.size=none:=I6.free
    have hok':HOk X.prog X.w H5 h':=λb u e=>by
     refine(I6.hok b u e).stay (λc v hcc q=>hk6 c v ?_ q) (λ_ q=>q) λ_ _ q=>q
     rcases hcc with z | z
     ·rintro rfl;rw[<-z]at e;rw[Cn]at e;cases e
     ·rintro rfl;rw[Cn]at z;cases z
    refine⟨.ref s.heap.objs.size,upd H5 s.heap.objs.size (.lst acc),?_,rfl,by rw[aw (Ne.symm hDC)];exact Cn,q _ hD5⟩
    have hU:Un (frs X.stack) fp H H5 s.heap s6.heap:=I6.base
    have nC:∀b o,s.heap.get? b=some o->b≠H2.objs.size:=λb o e=>AM (AL (AH e) hCle)
    have nD:∀b o,s.heap.get? b=some o->b≠s.heap.objs.size:=λb o e=>AM (AH e)
    refine I.call' (s':={s6 with heap:=h'}) (ch:=fp) (by show s6.os=s.os;exact I6.os) ⟨λb o e nn hb hx=>hk6 b o (nC b o e) (hU.keep b o e nn hb hx),λb o e nn hb hx=>?_,λb o e nn hx=>?_,λb o e hx=>?_,λb xs e=>?_,λb o u e=>?_,λb ps e=>?_⟩ ?_ I6.bare ?_
    ·obtain⟨sl,e2⟩:=hU.slot b o e nn hb hx
     exact⟨sl,hk6 b _ (nC b o e) e2⟩
    ·rw[aw (nD b o e)];exact hU.free b o e nn hx
    ·obtain⟨o',e2⟩:=hU.there b o e hx
     exact⟨o',hk6 b _ (nC b o e) e2⟩
    ·have e2:=hU.tups b xs e
     rw[aw (ax e2 hD5)];exact e2
    ·have e2:=hU.frzs b o u e
     rw[aw (ax e2 hD5)];exact e2
    ·obtain⟨more,e2⟩:=hU.tbls b ps e
     exact⟨more,by rw[aw (ax e2 hD5)];exact e2⟩
    ·exact L2.HOk.track hok' hD5 ⟨hz,its,n5,hv5,hgetD⟩
    ·intro b hb
     obtain⟨a1,a2,a3,a4,a5,a6⟩:=hf b hb
     exact⟨a4,a2,a5,a6⟩
  ·-- one more turn
   have notfs:s.heap.objs.size∉frs X.stack:=λz=>by
    rcases AJ.mp (I.stkSub _ z)with w | w
    ·exact absurd I.lt (by rw[<-w];exact BQ _)
    ·exact I.nofs (AN _) w
   have I5':Inv (dk X scope Nb H2.objs.size s H fp) [(s.heap.objs.size,{cls:=.type "list",data:=.seq its.toArray n5})] (ef cap nl σ) H5 s5:=I5.pins_of λp hp=>by
    have e:p=(s.heap.objs.size,{cls:=.type "list",data:=.seq its.toArray n5}):=by simpa using hp
    subst e
    exact⟨hget5,hD5,hDC,notfs,λv z=>by cases z⟩
   have stat':∀{H':Hp},(∀b∈fp,H' b=none)->∀b∈fp,uv (dk X scope Nb H2.objs.size s H fp) [(s.heap.objs.size,{cls:=.type "list",data:=.seq its.toArray n5})] H' b:=λhn b hb=>by
    obtain⟨a1,a2,a3,a4,a5,a6⟩:=stat hn b hb
    refine⟨a1,a2,a3,a4,a5,λp hp=>?_⟩
    have e:p=(s.heap.objs.size,{cls:=.type "list",data:=.seq its.toArray n5}):=by
     have:p∈([]:List (Addr×Obj))++[(s.heap.objs.size,{cls:=.type "list",data:=.seq its.toArray n5})]:=hp
     simpa using this
    subst e
    exact λz=>absurd (hlt b hb) (by rw[<-z];exact BQ _)
   refine thn (T.item (dk X scope Nb H2.objs.size s H fp) rfl rfl rfl hc i _ s5 _ H5 (λ_ _=>False) I5' (stat' f5) t5 go) λr s6 ⟨u,hr,h6⟩=>?_
   subst hr
   refine thn h6 λ_ s7 ⟨x,H7,I7,r7,y7,t7,f7⟩=>?_
   have I7':=I7.pinned (stat' f7) (T.obj _ _ t7)
   have back:∀{σ':St} {H':Hp} {s':Shared},Inv (dk X scope Nb H2.objs.size s H fp) ([(s.heap.objs.size,{cls:=.type "list",data:=.seq its.toArray n5})]++ph fp s7.heap) σ' H' s' ->
     tn (i+1) s'.heap/\(∀b∈fp,H' b=none)/\H' s.heap.objs.size=none/\s'.heap.get? s.heap.objs.size=some {cls:=.type "list",data:=.seq its.toArray n5}:=λ{σ' H' s'} J'=>by
    have pD:=J'.pin (s.heap.objs.size,{cls:=.type "list",data:=.seq its.toArray n5}) (by show _∈([]:List (Addr×Obj))++_;simp)
    refine⟨T.keep _ _ _ t7 λb hb o e=>(J'.pin (b,o) (AS _ (AS _ (d9 hb e)))).1,λb hb=>?_,pD.2.1,pD.1⟩
    obtain⟨o,e,d⟩:=T.obj _ _ t7 b hb
    exact(J'.pin (b,o) (AS _ (AS _ (d9 hb e)))).2.1
   refine thn (BG _ s7 _ H7 x u _ I7' r7 (q x H7 y7)) λ_ s8 ⟨σ8,H8,I8,ks,q8⟩=>?_
   refine BI (Fh (X:=dk X scope Nb H2.objs.size s H fp) F hr bg hm hk hbn BA hdb bs bp I8 q8) (λxv s10 ⟨v,H10,I10,r10,m',hm',w10⟩=>?_) λev s10 ⟨H9,s9,e,cls,H',I9,z1,F9,q9⟩=>?_
   ·obtain⟨b1,b2,b3,b4⟩:=back I10
    have hl5:=hv5.length
    refine wpAny_list_append_plain (items:=its.toArray) ⟨n5,b4⟩ (λh' hpl hs'=>?_) (by rw[AE,<-hl5];exact DJ hz)
    obtain⟨n6,hg6⟩:=hpl
    have I11:Inv (dk X scope Nb H2.objs.size s H fp) [] (ef cap nl σ) H10 {s10 with heap:=h'}:=by
     have I10':=(I10.weak ks.1 ks.2).pins_of (pins':=[]) (λp hp=>absurd hp (by simp))
     refine I10'.turned (t':=s10.toks) (it:=s.heap.objs.size) (λb o hb e=>hs'.extBut b o hb e) b3 hDC (.inr (AN _)) (λx c e=>?_) (λp hp=>absurd (show p∈([]:List (Addr×Obj))++[]from hp) (by simp))
     rcases jm scope.names [] x c hcells e with q | q
     ·cases q
     ·obtain⟨v,hcc⟩:=I.cell x c q
      exact AM hcc.lt
    refine⟨m',hm',i+1,H10,acc++[v],its++[xv],n6,I11,?_,b2,b3,by rw[hg6];simp,hv5.append (.cons r10 .nil),w10⟩
    exact T.keep _ _ _ b1 λb hb o e=>hs'.extBut b o (AM (hlt b hb)) e
   ·subst z1
    show wpAny _ _ (noteFrame (.ref e) _) _ _ _
    rw[sx (env:=compEnvC scope (vd X.env scope.names []) H2.objs.size X.env) (env':=X.env) rfl]
    refine Fl.noted (X:=dk X scope Nb H2.objs.size s H fp) I9 F9 hst hfr I.ok.frames λh2 G2=>?_
    have J2:=G2.inv I9 (λ_ z=>absurd z (by simp))
    obtain⟨m2,hn2,_⟩:=J2.loc
    refine⟨m2,hn2,λh3 sb3 cenv _=>?_⟩
    have Cn:H' H2.objs.size=none:=J2.free
    have nC:∀b o,s.heap.get? b=some o->b≠H2.objs.size:=λb o z=>AM (AL (AH z) hCle)
    have k3:∀b o,b≠H2.objs.size->h2.get? b=some o->h3.get? b=some o:=λb o hb z=>sb3.extBut b o hb z
    have hU:Un (frs X.stack) fp H H' s.heap h2:=J2.base
    have old:∀b,s9.heap.get? b=none->b∉fp->s.heap.get? b=none:=λb z hb=>by
     cases e0:s.heap.get? b with
     | none=>rfl
     | some o =>
      have hu9:Un (frs X.stack) fp H H9 s.heap s9.heap:=I9.base
      obtain⟨o',e1⟩:=hu9.there b o e0 hb
      rw[z]at e1;cases e1
    have fpo:∀b∈fp,∃o,s9.heap.get? b=some o:=λb hb=>by
     obtain⟨o,z,_⟩:=T.obj _ _ t7 b hb
     exact⟨o,(I9.pin (b,o) (AS _ (AS _ (d9 hb z)))).1⟩
    have nfp:∀b,s9.heap.get? b=none->b∉fp:=λb z hb=>by
     obtain⟨o,q⟩:=fpo b hb
     rw[z]at q;cases q
    obtain⟨oe,vs,T2,oT,ts,a0,fl,u1,u2,u3,u4,u5,u6,u7,u8,u9⟩:=G2.fly
    obtain⟨oC,_,_,hoC,hdC,_⟩:=hn2
    have neC:∀b o vs,h2.get? b=some o->o.data=.fields vs->b≠H2.objs.size:=λb o vs hb hd z=>by
     have hoC':h2.get? H2.objs.size=some oC:=hoC
     rw[z,hoC']at hb;cases hb
     rw[hdC]at hd;cases hd
    have G3:FlA X fp H s H' e cls {s10 with heap:=h3}:=by
     refine⟨J2.os,J2.bare,⟨λb o z nn hb hx=>k3 b o (nC b o z) (hU.keep b o z nn hb hx),λb o z nn hb hx=>?_,hU.free,λb o z hx=>?_,hU.tups,hU.frzs,hU.tbls⟩,λb u z=>?_,old e G2.new (nfp e G2.new),G2.free,?_⟩
     ·obtain⟨sl,e2⟩:=hU.slot b o z nn hb hx
      exact⟨sl,k3 b _ (nC b o z) e2⟩
     ·obtain⟨o',e2⟩:=hU.there b o z hx
      exact⟨o',k3 b _ (nC b o z) e2⟩
     ·refine(G2.hok b u z).stay (λc v hcc q=>k3 c v ?_ q) (λ_ q=>q) λ_ _ q=>q
      rcases hcc with w | w
      ·rintro rfl;rw[<-w]at z;rw[Cn]at z;cases z
      ·rintro rfl;rw[Cn]at w;cases w
     ·exact⟨oe,vs,T2,oT,ts,a0,fl,k3 e _ (neC e oe vs u1 u3) u1,u2,u3,u4,⟨old T2 u5.1 (nfp T2 u5.1),u5.2⟩,u6,k3 T2 _ (neC T2 oT ts u7 u8) u7,u8,u9⟩
    refine G3.pass λh4 G4=>?_
    have I4x:=G4.inv I λb hb=>by
     obtain⟨a1,a2,a3,a4,a5,a6⟩:=hf b hb
     exact⟨a4,a2,a5,a6⟩
    exact Wn pins σ H' _ e cls I4x (G4.flying I hx) q9
 exact codeAny_compStart_list (loop _ rfl) (T.self X.A 0 _ _ _ (T.keep _ _ _ t0 λb hb o e=>old b o e) (loop _ rfl))
def Jk (wi:TI) (g:TG) (ta:TA) (sp:Sp) (EX:Value->Hp->Prop) (σb:St->St):TE:=λσ H Q=>wi σ H λJ H1=>∃W:Nat->Nat->Hp->List V->Prop,(∃m,W 0 m H1 [])/\∀i m H acc,W i m H acc ->
 (J.stop i H/\acc.length<=sizeLine/\∀p,H p=none->Q (.ref p) (upd H p (.lst acc))) \/
 (J.go i H/\acc.length<sizeLine/\∀x H',J.yld i H x H'->g x (σb σ) H' λσ2 H2=>Kept (σb σ) σ2/\ta σ2 H2 λvs H3=>sp vs H3 (λv H4=>∃m',m'<m/\W (i+1) m' H4 (acc++[v])) λcls _ H4=>EX cls H4)
theorem Cm {y:Str} {p cpos:Pos} {a:Expr} {es:List Expr} {target iter:Expr} {pos:Pos} {wi:TI} {g:TG} {ta:TA} {EX:Value->Hp->Prop} {k:Nat} {f:Addr} {fd:FuncData} {ps:List Str} {sp:Sp}
  (Wn:pe X EX) (hx:X.ex=[]) (hst:X.stack=X.env::X.outer) (hfr:X.env.frame=some X.env.locals)
  (F:FnOk X.prog X.w X.K X.mg X.base (CX1 X.prog X.w) k f fd ps sp) (hr:Room k X.A) (hm:X.mg y=some (.ref f)) (hk:PySem.W.keepIn X.K (.ref f)=true) (hbn:Binds X.K fd ps []) (hdb:(y==("__debug__":Str))=false)
  (S:CompScope X.env.scope scope X.N Nb cap nl) (hc:X.calm=true) (hi:PI X target iter wi) (B:Mu X scope Nb target y cpos a es g ta) (hs:∀x,foldedSetIterable iter X.env x=pure x) :
  PE X (.ListComp (.Call (.Name y p) (a::es) [] cpos) [⟨target,iter,[],0⟩] scope pos) (Jk wi g ta sp EX (ef cap nl)):=by
 intro pins s σ H Q I h
 rw[eval_ListComp]
 have hcells:∀n,(n,NameKind.free)∈scope.names->∃c,X.env.cells.lookup n=some c:=λn hn=>by
  rcases S.free n hn with e | e
  ·exact I.ok.has n (.inl e)
  ·exact I.ok.has n (.inr e)
 refine EE (use:=none) rfl hs (lg hcells) S.kind (λy hy hl=>by rw[S.uniq y hy,hl]) ?_
 refine thn (hi pins s σ H _ I h) λv s1 h1=>thn h1 λitv s2 ⟨it,fp,tn,J,H2,e,I2,T,t2,f2,hW⟩=>?_
 subst e
 exact vg (Q:=Q) (QQ:=EP X pins σ Q) Wn hx hst hfr F hr hm hk hbn hdb S hc B I2 T t2 f2 hW λD C s' m _ hq hn=>⟨m,hn,λh' hs'=>let ⟨v,H',I',r,q⟩:=hq h' hs';⟨v,H',I',r,q.2⟩⟩
end
section
variable {X : Cx} {φ : Phi}
theorem f9 {K:PySem.W.Frag} {ι:List Addr} {H:Hp} {ds:List D} {v:V} (h:IsD K ι H (.tup ds) v):∃a xs,v=.ref a/\SqT K H a xs/\aq K ι H ds xs:=by
 simpa[IsD]using h
theorem tup_is {K:PySem.W.Frag} {ι:List Addr} {H:Hp} {ds:List D} {a:Addr} {xs:List V} (h:SqT K H a xs) (h2:aq K ι H ds xs):IsD K ι H (.tup ds) (.ref a):=by
 simp![IsD]
 exact⟨a,xs,rfl,h,h2⟩
theorem dh {K:PySem.W.Frag} {ι:List Addr} {H:Hp} {i:Int} {v:V} (h:IsD K ι H (.int i) v):v=.int i:=by simpa[IsD]using h
theorem sy {K:PySem.W.Frag} {ι:List Addr} {H:Hp} {i:Bool} {v:V} (h:IsD K ι H (.bl i) v):v=.bl i:=by simpa[IsD]using h
theorem qo {K:PySem.W.Frag} {ι:List Addr} {H:Hp} {μ:Sto} {ds:List D} {xs:List V} {Q:VK} {p:Addr} (hS:Sim K ι H μ) (hd:aq K ι H ds xs) (h:fz K (RD K) ι H (.ok (.tup ds) μ) Q) (hp:H p=none):Q (.ref p) (upd H p (.tup xs)) :=
 h ι (.ref p) _ (AD _) (.new hp) (hS.new hp) (tup_is (.of br) (aq.mono (AD _) (.new hp) ds xs hd))
theorem Aj {pins:List (Addr×Obj)} {s:Shared} {σ:St} {H:Hp} {l b:Addr} {xs zs:List V} {Q:VK} (I:Inv X pins σ H s) (hl:LsL X.K H l xs) (hb:LsL X.K H b zs) (hz:xs.length+zs.length<=sizeLine)
  (q:∀p,H p=none->Q (.ref p) (upd H p (.lst (xs++zs)))):wpAny (model X.prog X.w) X.A (binaryOp .Add (.ref l) (.ref b)) (EP X pins σ Q) X.xe s:=by
 obtain⟨z,its,n,r,hl,e⟩:=I.ls hl
 obtain⟨z2,its2,n2,r2,hl2,e2⟩:=I.ls hb
 refine PySem.P.add_list e e2 ?_ (by rw[AE,AE];lia)
 have ea:its.toArray++its2.toArray=(its++its2).toArray:=by simp
 rw[ea]
 exact⟨.ref _,_,I.lnew (t':=s.toks) (r.append r2) (by rw[BM];lia),rfl,q _ I.fresh⟩
theorem Co {pins:List (Addr×Obj)} {s:Shared} {σ:St} {H:Hp} {l:Addr} {k:Int} {t:Tok} {xs:List V} {Q:VK} (I:Inv X pins σ H s) (hH:LsL X.K H l xs) (h1:-(2 ^ 63)<=k) (h2:k<2 ^ 63) (hz:xs.length*k.toNat<=sizeLine)
  (q:∀p,H p=none->Q (.ref p) (upd H p (.lst (List.replicate k.toNat xs).flatten))):wpAny (model X.prog X.w) X.A (binaryOp .Mult (.ref l) (.int k t)) (EP X pins σ Q) X.xe s:=by
 obtain⟨z,its,n,r,hl,e⟩:=I.ls hH
 have hlen:its.toArray.size*k.toNat<=sizeLine:=by rw[AE,<-hl];exact hz
 have hcap:¬its.toArray.size*k.toNat > (2 ^ 63-1) / 8:=by
  have:(sizeLine:Nat)<=(2 ^ 63-1) / 8:=by decide
  lia
 have hfit:¬(!Builtin.List.listFitsIndex k)=true:=by
  rw[fitsIndex_both h1 h2]
  exact BH
 have hlong:¬Builtin.List.listTooLong (its.toArray.size*k.toNat)=true:=by
  rw[B1 hlen]
  exact BH
 have hnew:List.foldl (λx1 x2=>x1++x2) #[] (List.replicate (if its.toArray.isEmpty=true then 0 else k.toNat) its.toArray)=(List.replicate k.toNat its).flatten.toArray:=by
  have f0:∀m:Nat,List.foldl (λx1 x2=>x1++x2) #[] (List.replicate m its.toArray)=(List.replicate m its).flatten.toArray:=λm=>by
   have:=foldl_rep its m []
   rw[List.nil_append]at this
   exact this
  rw[f0]
  cases its with
  | nil=>simp
  | cons a r'=>rw[if_neg (by simp)]
 refine wpAny_binaryOp_repeat_ref (T:="list") (U:="int") (by decide) ⟨_,e,rfl⟩ (λs'=>typeIs_int s' k t) noFill_list_mul F.fills_int_mul F.slot_int_rmul repeat_list F.slot_int_index.lookup
  (FW F.slot_int_rmul (typeIs_int s k t) F.entry_int_rmul (F.args_int_rmul_2 _ _) (int___rmul___int_list k t l its.toArray n)
   ⟨e,rfl,⟨_,e,rfl⟩,FW F.slot_list_mul ⟨_,e,rfl⟩ F.entry_list_mul (F.args_list_mul_2 _ _) (AutoListH.list___mul___list_int_3 l its.toArray n k t hfit hcap hlong) ⟨e,?_⟩⟩)
 rw[hnew]
 exact⟨.ref _,_,I.lnew (t':=s.toks) (r.rep k.toNat) (by rw[len_rep,Nat.mul_comm];exact hz),rfl,q _ I.fresh⟩
theorem F4 {pins:List (Addr×Obj)} {s:Shared} {σ:St} {H:Hp} {a b:Addr} {ys:List V} {Q:VK} (I:Inv X pins σ H s) (ha:SqT X.K H a []) (hb:SqT X.K H b ys) (q:Q (.ref b) H) :
  wpAny (model X.prog X.w) X.A (binaryOp .Add (.ref a) (.ref b)) (EP X pins σ Q) X.xe s:=by
 obtain⟨its,r1,p1,_⟩:=I.tuple ha
 obtain⟨its2,r2,p2,_⟩:=I.tuple hb
 have e1:its=[]:=by cases r1;rfl
 subst e1
 obtain⟨⟨cls,dd,data,sl⟩,ho,hc,n,hd⟩:=id p1
 obtain⟨⟨cls2,dd2,data2,sl2⟩,ho2,hc2,n2,hd2⟩:=id p2
 simp only at hc hd hc2 hd2
 subst hc hd hc2 hd2
 exact concat_meets ⟨_,ho,rfl⟩ ⟨_,ho2,rfl⟩ GO seq_tuple_add EL EI (ED _ _)
   (tuple_addW0 a b ([]:List Value).toArray its2.toArray n n2 dd dd2 sl sl2 (by simp)) ⟨ho,ho2,⟨.ref b,H,I,rfl,q⟩⟩
theorem Jl {op:Operator} {m:Mk}:OpR X (binaryOp op) (rOp X.K (opD op m)):=by
 intro pins s σ H x y v u Q I rx ry ⟨ι,d,e,μ,hS,hd,he,h⟩
 unfold opD at h
 split at h
 ·rename_i i j
  cases dh hd
  cases dh he
  unfold opI at h
  split at h
  ·exact op_add pins s σ H _ _ v u Q I rx ry ⟨i,j,rfl,rfl,h.ok hS (by simp[IsD])⟩
  ·exact op_sub pins s σ H _ _ v u Q I rx ry ⟨i,j,rfl,rfl,h.ok hS (by simp[IsD])⟩
  ·split at h
   ·rename_i hc
    exact op_mul pins s σ H _ _ v u Q I rx ry ⟨i,j,rfl,rfl,hc,h.ok hS (by simp[IsD])⟩
   ·exact h.elim
  ·split at h
   ·rename_i hc
    exact E1 pins s σ H _ _ v u Q I rx ry ⟨i,j,rfl,rfl,hc,h.ok hS (by simp[IsD])⟩
   ·exact h.elim
  ·split at h
   ·rename_i hc
    exact op_mod pins s σ H _ _ v u Q I rx ry ⟨i,j,rfl,rfl,hc,h.ok hS (by simp[IsD])⟩
   ·exact h.elim
  ·split at h
   ·rename_i hc
    exact op_pow pins s σ H _ _ v u Q I rx ry ⟨i,j,rfl,rfl,hc,h.ok hS (by simp[IsD])⟩
   ·exact h.elim
  ·split at h
   ·rename_i hc
    exact op_shr pins s σ H _ _ v u Q I rx ry ⟨i,j,rfl,rfl,hc,h.ok hS (by simp[IsD])⟩
   ·exact h.elim
  ·exact h.elim
 ·rename_i xs ys
  split at h
  ·split at h
   ·rename_i hz
    obtain⟨a,vs,rfl,ha,hvs⟩:=f9 hd
    obtain⟨b,ws,rfl,hb,hws⟩:=f9 he
    cases rx
    cases ry
    rw[gw]at hz
    by_cases hx:vs=[]
    ·subst hx
     have e1:xs=[]:=by have:=hvs.length;simpa using this.symm
     subst e1
     exact F4 I ha hb (h.ok hS he)
    ·refine E7 pins s σ H (.ref a) (.ref b) _ _ Q I rfl rfl ⟨a,b,vs,ws,rfl,rfl,ha,hb,hx,by rw[hvs.length,hws.length];exact hz,λz=>?_,λz p hp=>qo hS (hvs.append hws) h hp⟩
     subst z
     have e1:ys=[]:=by have:=hws.length;simpa using this.symm
     subst e1
     exact h.ok hS (by simpa using hd)
   ·exact h.elim
  ·exact h.elim
 ·rename_i j _
  cases dh he
  split at h
  ·rename_i es
   split at h
   ·rename_i hz
    obtain⟨a,xs,rfl,ha,hxs⟩:=k8 hS hd es
    cases rx
    obtain⟨t,rfl⟩:=ry
    rw[gw]at hz
    exact Af (Co I ha hz.2.1 hz.2.2 (by rw[hxs.length];exact hz.1) λp hp=>j6 hS (hxs.rep _) h hp)
   ·exact h.elim
  ·exact h.elim
 ·split at h
  ·rename_i es1 es2
   split at h
   ·rename_i hz
    obtain⟨a,xs,rfl,ha,hxs⟩:=k8 hS hd es1
    obtain⟨b,ys,rfl,hb,hys⟩:=k8 hS he es2
    cases rx
    cases ry
    rw[gw]at hz
    exact Af (Aj I ha hb (by rw[hxs.length,hys.length];exact hz) λp hp=>j6 hS (hxs.append hys) h hp)
   ·exact h.elim
  ·exact h.elim
end
section
variable (K : PySem.W.Frag) (H : Hp)
mutual
def IsW:D->V->Prop
 | .non,v=>v=.non
 | .bl b,v=>v=.bl b
 | .int i,v=>v=.int i
 | .str x,v=>v=.str x
 | .tup ds,v=>∃a xs,v=.ref a/\SqT K H a xs/\jf ds xs
 | .lst ds,v=>∃a xs,v=.ref a/\LsL K H a xs/\jf ds xs
 | .loc _,_=>False
def jf:List D->List V->Prop
 | [],xs=>xs=[]
 | d::ds,xs=>∃v r,xs=v::r/\IsW d v/\jf ds r
end
end
section
variable {K : PySem.W.Frag} {H : Hp}
theorem jf.length:∀{ds:List D} {xs:List V},jf K H ds xs->xs.length=ds.length
 | [],xs,h=>by simp![jf]at h;subst h;rfl
 | d::ds,xs,h=>by
  simp![jf]at h
  obtain⟨v,r,rfl,_,t⟩:=h
  simp[jf.length t]
theorem jf.get:∀{ds:List D} {xs:List V} {i:Nat} {d:D},jf K H ds xs->ds[i]? = some d->∃v,xs[i]? = some v/\IsW K H d v
 | [],_,_,_,_,e=>by simp at e
 | d::ds,xs,0,_,h,e=>by
  simp![jf]at h
  obtain⟨v,r,rfl,q,_⟩:=h
  simp at e;subst e
  exact⟨v,rfl,q⟩
 | d::ds,xs,i+1,x,h,e=>by
  simp![jf]at h
  obtain⟨v,r,rfl,_,t⟩:=h
  obtain⟨w,h1,h2⟩:=jf.get (i:=i) (d:=x) t (by simpa using e)
  exact⟨w,by simpa using h1,h2⟩
theorem nz {ds:List D} {v:V} (h:IsW K H (.tup ds) v):∃a xs,v=.ref a/\SqT K H a xs/\jf K H ds xs:=by simpa[IsW]using h
theorem Ak {ι:List Addr} {μ:Sto} (S:Sim K ι H μ) (f:D->Option D) (hf:∀d e v,f d=some e->IsD K ι H d v->IsW K H e v):∀{ds es:List D} {xs:List V},c7 (ds.map f)=some es->aq K ι H ds xs->jf K H es xs
 | [],es,xs,h,hd=>by
  simp![FN,c7,BF]at h
  subst h
  simpa[aq,jf]using hd
 | d::ds,es,xs,h,hd=>by
  simp![AX]at h
  cases e1:f d with
  | none=>rw[e1]at h;simp[c7]at h
  | some e =>
   rw[e1]at h
   simp![c7]at h
   cases e2:c7 (ds.map f)with
   | none=>rw[e2]at h;cases h
   | some r =>
    rw[e2]at h
    cases h
    simp![aq]at hd
    obtain⟨v,t,rfl,q,hd⟩:=hd
    simp![jf]
    exact⟨v,t,rfl,hf d e v e1 q,Ak S f hf e2 hd⟩
theorem td {ι:List Addr} {μ:Sto} (S:Sim K ι H μ):∀(k:Nat) (d e:D) (v:V),bb μ k d=some e->IsD K ι H d v->IsW K H e v
 | 0,d,e,v,h,hd=>by
  cases d<;>simp_all[bb,flat,IsD,IsW]<;>(subst h;simp[IsW])
 | k+1,d,e,v,h,hd=>by
  have ih:=td S k
  have sub:∀{ι':List Addr} {ds es:List D} {xs:List V},ι' <+: ι->c7 (ds.map (bb μ k))=some es->aq K ι' H ds xs->jf K H es xs:=λp h hd=>Ak S _ ih h (aq.mono p (.refl _) _ _ hd)
  cases d with
  | tup ds =>
   simp![bb]at h
   cases e1:c7 (ds.map (bb μ k))with
   | none=>rw[e1]at h;cases h
   | some es =>
    rw[e1]at h;cases h
    obtain⟨a,xs,rfl,hq,hds⟩:=f9 hd
    simp![IsW]
    exact⟨a,xs,rfl,hq,sub (AD _) e1 hds⟩
  | lst ds =>
   simp![bb]at h
   cases e1:c7 (ds.map (bb μ k))with
   | none=>rw[e1]at h;cases h
   | some es =>
    rw[e1]at h;cases h
    obtain⟨a,xs,rfl,hq,hds⟩:∃a xs,v=.ref a/\FzL K H a xs/\aq K ι H ds xs:=by simpa[IsD]using hd
    simp![IsW]
    exact⟨a,xs,rfl,.inr hq,sub (AD _) e1 hds⟩
  | loc n =>
   obtain⟨a,rfl,hn⟩:∃a,v=.ref a/\ι[n]? = some a:=by simpa[IsD]using hd
   simp![bb]at h
   cases em:μ[n]? with
   | none=>rw[em]at h;cases h
   | some o =>
    obtain⟨a',q',ho⟩:=S.at em
    rw[hn]at q';cases q'
    rw[em]at h
    cases o with
    | l ds =>
     simp only at h
     obtain⟨xs,f1,f2⟩:=ho
     cases e1:c7 (ds.map (bb μ k))with
     | none=>rw[e1]at h;cases h
     | some es =>
      rw[e1]at h;cases h
      simp![IsW]
      exact⟨a,xs,rfl,(.inl f1),sub CU e1 f2⟩
    | r ds =>
     simp only at h
     obtain⟨xs,f1,f2⟩:=ho
     cases e1:c7 (ds.map (bb μ k))with
     | none=>rw[e1]at h;cases h
     | some es =>
      rw[e1]at h;cases h
      simp![IsW]
      exact⟨a,xs,rfl,(.inl f1),sub (AD _) e1 f2⟩
    | _=>cases h
  | _=>simp![bb]at h;cases h;simpa[IsD,IsW]using hd
mutual
theorem IsW.ofD:∀{d:D} {v:V},IsD K [] H d v->IsW K H d v
 | .non,v,h=>by simpa[IsD,IsW]using h
 | .bl _,v,h=>by simpa[IsD,IsW]using h
 | .int _,v,h=>by simpa[IsD,IsW]using h
 | .str _,v,h=>by simpa[IsD,IsW]using h
 | .tup ds,v,h=>by
  obtain⟨a,xs,rfl,hq,hds⟩:=f9 h
  simp![IsW]
  exact⟨a,xs,rfl,hq,jf.ofD hds⟩
 | .lst ds,v,h=>by
  obtain⟨a,xs,rfl,hq,hds⟩:∃a xs,v=.ref a/\FzL K H a xs/\aq K [] H ds xs:=by simpa[IsD]using h
  simp![IsW]
  exact⟨a,xs,rfl,.inr hq,jf.ofD hds⟩
 | .loc n,v,h=>by simp[IsD]at h
theorem jf.ofD:∀{ds:List D} {xs:List V},aq K [] H ds xs->jf K H ds xs
 | [],xs,h=>by simpa[aq,jf]using h
 | d::ds,xs,h=>by
  simp![aq]at h
  obtain⟨v,r,rfl,q,t⟩:=h
  simp![jf]
  exact⟨v,r,rfl,IsW.ofD q,jf.ofD t⟩
end
theorem n8 {μ:Sto} {k:Nat} (ih:∀d e,bb μ k d=some e->D.pureN k e=true):∀{ds es:List D},c7 (ds.map (bb μ k))=some es->es.all (D.pureN k)=true
 | [],es,h=>by simp![FN,c7,BF]at h;subst h;rfl
 | d::ds,es,h=>by
  simp![AX]at h
  cases e1:bb μ k d with
  | none=>rw[e1]at h;simp[c7]at h
  | some e =>
   rw[e1]at h
   simp![c7]at h
   cases e2:c7 (ds.map (bb μ k))with
   | none=>rw[e2]at h;cases h
   | some r =>
    rw[e2]at h;cases h
    simp![AY,ih d e e1,n8 ih e2,Bool.and_self]
theorem il {μ:Sto}:∀(k:Nat) (d e:D),bb μ k d=some e->D.pureN k e=true
 | 0,d,e,h=>by
  cases d<;>simp_all[bb,flat]<;>(subst h;rfl)
 | k+1,d,e,h=>by
  have ih:=il (μ:=μ) k
  have mp:∀{ds:List D} {c:List D->D},(∀es,es.all (D.pureN k)=true->D.pureN (k+1) (c es)=true)->(c7 (ds.map (bb μ k))).map c=some e->D.pureN (k+1) e=true:=λ{ds c} hc h=>by
   cases e1:c7 (ds.map (bb μ k))with
   | none=>rw[e1]at h;cases h
   | some es=>rw[e1]at h;cases h;exact hc es (n8 ih e1)
  cases d with
  | tup ds=>simp![bb]at h;exact mp (c:=.tup) (λes h=>h) h
  | lst ds=>simp![bb]at h;exact mp (c:=.lst) (λes h=>h) h
  | loc n =>
   simp![bb]at h
   cases em:μ[n]? with
   | none=>rw[em]at h;cases h
   | some o =>
    rw[em]at h
    cases o with
    | l ds=>exact mp (c:=.lst) (λes h=>h) h
    | r ds=>exact mp (c:=.lst) (λes h=>h) h
    | _=>cases h
  | _=>simp![bb]at h;cases h;rfl
end
open PySem.SeqAt (EqAt RcAt RcNeAt)
section
variable {X : Cx} {φ : Phi} {pins : List (Addr × Obj)} {σ : St} {H : Hp} {s : Shared}
theorem in1_units (A:Around):A.in1.units=A.units+1:=by
 first | rfl | simp[Around.in1]
theorem lh:∀(as bs:List D),as.length=bs.length->zi as bs=(List.range as.length).all λj=>deq (as.getD j .non) (bs.getD j .non)
 | [],[],_=>rfl
 | a::as,b::bs,h=>by
  rw[zi,lh as bs (by simpa using h),BJ,GY,AY,CN]
  rfl
 | [],_::_,h=>by simp at h
 | _::_,[],h=>by simp at h
theorem qp:∀(as bs:List D),as.length≠bs.length->zi as bs=false
 | [],[],h=>absurd rfl h
 | a::as,b::bs,h=>by rw[zi,qp as bs (by simpa using h),Bool.and_false]
 | [],_::_,_=>rfl
 | _::_,[],_=>rfl
theorem vh:∀(k:Nat) (a b:D) (v:V),D.pureN k a=true->D.pureN k b=true->IsW X.K H a v->IsW X.K H b v->Inv X pins σ H s->deq a b=true:=by
 intro k
 have list:∀k,(∀(a b:D) (v:V),D.pureN k a=true->D.pureN k b=true->IsW X.K H a v->IsW X.K H b v->Inv X pins σ H s->deq a b=true) ->
   ∀(as bs:List D) (xs:List V),as.all (D.pureN k)=true->bs.all (D.pureN k)=true->jf X.K H as xs->jf X.K H bs xs->Inv X pins σ H s->zi as bs=true:=by
  intro k ih as
  induction as with
  | nil =>
   intro bs xs _ _ ha hb _
   have e:xs=[]:=by simpa[jf]using ha
   subst e
   have:=hb.length
   have e2:bs=[]:=by simpa using this.symm
   subst e2
   rfl
  | cons a as iha =>
   intro bs xs pa pb ha hb I
   cases bs with
   | nil =>
    have e:xs=[]:=by simpa[jf]using hb
    subst e
    have:=ha.length
    simp at this
   | cons b bs =>
    simp![jf]at ha hb
    obtain⟨v,r,e,q,t⟩:=ha
    obtain⟨v',r',e',q',t'⟩:=hb
    rw[e]at e'
    cases e'
    simp![AY,AW]at pa pb
    rw[zi,ih a b v pa.1 pb.1 q q' I,iha bs r pa.2 pb.2 t t' I]
    rfl
 have flat:∀(a b:D) (v:V),(∀ds,a≠.tup ds)->(∀ds,a≠.lst ds)->(∀n,a≠.loc n)->(∀n,b≠.loc n)->IsW X.K H a v->IsW X.K H b v->deq a b=true:=by
  intro a b v h1 h2 h3 h4 ha hb
  cases a with
  | tup ds=>exact absurd rfl (h1 ds)
  | lst ds=>exact absurd rfl (h2 ds)
  | loc n=>exact absurd rfl (h3 n)
  | _=>cases b<;>simp_all[IsW,deq]
 induction k with
 | zero =>
  intro a b v pa pb ha hb I
  refine flat a b v ?_ ?_ ?_ ?_ ha hb
  ·intro z e;subst e;simp[D.pureN]at pa
  ·intro z e;subst e;simp[D.pureN]at pa
  ·intro z e;subst e;simp[D.pureN]at pa
  ·intro z e;subst e;simp[D.pureN]at pb
 | succ k ih =>
  intro a b v pa pb ha hb I
  cases a with
  | loc n=>simp[D.pureN]at pa
  | tup as =>
   simp![IsW]at ha
   obtain⟨p,xs,rfl,hq,hds⟩:=ha
   cases b with
   | tup bs =>
    simp![IsW]at hb
    obtain⟨p',xs',e,hq',hds'⟩:=hb
    cases e
    have:=I.tuple_inj hq hq'
    subst this
    rw[deq]
    exact list k ih as bs xs (by simpa[D.pureN]using pa) (by simpa[D.pureN]using pb) hds hds' I
   | lst bs =>
    simp![IsW]at hb
    obtain⟨p',xs',e,hq',hds'⟩:=hb
    cases e
    exfalso
    obtain⟨its,_,⟨o,e1,c1,_⟩,_⟩:=I.tuple hq
    obtain⟨its',_,⟨o',n',e2,c2,_⟩,_⟩:=I.list hq'.sq
    rw[e1]at e2;cases e2
    rw[c1]at c2
    injection c2 with c3
    exact absurd c3 (by decide)
   | loc n=>simp[D.pureN]at pb
   | _=>simp[IsW]at hb
  | lst as =>
   simp![IsW]at ha
   obtain⟨p,xs,rfl,hq,hds⟩:=ha
   cases b with
   | lst bs =>
    simp![IsW]at hb
    obtain⟨p',xs',e,hq',hds'⟩:=hb
    cases e
    have:=I.list_inj hq.sq hq'.sq
    subst this
    rw[deq]
    exact list k ih as bs xs (by simpa[D.pureN]using pa) (by simpa[D.pureN]using pb) hds hds' I
   | tup bs =>
    simp![IsW]at hb
    obtain⟨p',xs',e,hq',hds'⟩:=hb
    cases e
    exfalso
    obtain⟨its,_,⟨o,e1,c1,_⟩,_⟩:=I.tuple hq'
    obtain⟨its',_,⟨o',n',e2,c2,_⟩,_⟩:=I.list hq.sq
    rw[e1]at e2;cases e2
    rw[c1]at c2
    injection c2 with c3
    exact absurd c3 (by decide)
   | loc n=>simp[D.pureN]at pb
   | _=>simp[IsW]at hb
  | _ =>
   refine flat _ b v (by intro _ z;cases z) (by intro _ z;cases z) (by intro _ z;cases z) ?_ ha hb
   intro z e;subst e;simp[D.pureN]at pb
theorem Cq (I:Inv X pins σ H s) {k:Nat} {A:Around} {a b:D} {x y:V} {u v:Value} (pa:D.pureN k a=true) (pb:D.pureN k b=true) (ha:IsW X.K H a x) (hb:IsW X.K H b y) (ru:RelV x u) (rv:RelV y v) (h:RcAt A s u v (deq a b)):EqAt A s u v (deq a b):=by
 intro prog w E Q q
 have fl:∀b t,u≠.float b t:=λb t z=>by
  subst z
  cases a with
  | non=>cases(show x=.non by simpa[IsW]using ha);exact nomatch (show Value.float b t=.none from ru)
  | bl c=>cases(show x=.bl c by simpa[IsW]using ha);exact nomatch (show Value.float b t=.bool c from ru)
  | int c=>cases(show x=.int c by simpa[IsW]using ha);obtain⟨_,z⟩:=ru;cases z
  | str c=>cases(show x=.str c by simpa[IsW]using ha);obtain⟨_,z⟩:=ru;cases z
  | loc n=>simp[IsW]at ha
  | tup _=>obtain⟨c,_,rfl,_⟩:=nz ha;exact nomatch (show Value.float b t=.ref c from ru)
  | lst ds =>
        obtain⟨c,_,rfl,_⟩:∃a xs,x=.ref a/\LsL X.K H a xs/\jf X.K H ds xs:=by simpa[IsW]using ha
        exact nomatch (show Value.float b t=.ref c from ru)
 unfold eqBool
 refine DO ?_
 by_cases e:(u==v)=true
 ·rw[if_pos e]
  have e':u=v:=by simpa using e
  subst e'
  cases ru.inj rv
  rw[vh k _ _ _ pa pb ha hb I]at q
  exact AA (GZ (AI q))
 ·rw[if_neg e]
  have go:wpAny (model prog w) A (do
    let r <-richCompare .Eq u v
    truthOfDropped r) Q E s:=AA (h prog w _ _ (by exact DU q))
  cases u with
  | float b t=>exact absurd rfl (fl b t)
  | _=>exact go
theorem Al (A:Around) (a b:D) (x y:V) (u v:Value) (pa:D.pureN 0 a=true) (pb:D.pureN 0 b=true) (ha:IsW X.K H a x) (hb:IsW X.K H b y) (ru:RelV x u) (rv:RelV y v):RcAt A s u v (deq a b)/\RcNeAt A s u v (!deq a b):=by
 have b2:∀(a b:Int),decide (a=b)=(a==b):=λa b=>(DT a b).symm
 cases a with
 | tup _=>simp[D.pureN]at pa
 | lst _=>simp[D.pureN]at pa
 | loc _=>simp[D.pureN]at pa
 | non =>
  have ex:x=.non:=by simpa[IsW]using ha
  subst ex
  cases(show u=Value.none from ru)
  cases b with
  | tup _=>simp[D.pureN]at pb
  | lst _=>simp[D.pureN]at pb
  | loc _=>simp[D.pureN]at pb
  | non=>cases(show y=.non by simpa[IsW]using hb);cases(show v=Value.none from rv);exact⟨RcAt.none_none,RcNeAt.none_none⟩
  | bl c=>cases(show y=.bl c by simpa[IsW]using hb);cases(show v=Value.bool c from rv);exact⟨RcAt.none_bool _,RcNeAt.none_bool _⟩
  | int c=>cases(show y=.int c by simpa[IsW]using hb);obtain⟨t,rfl⟩:=rv;exact⟨RcAt.none_int _ _,RcNeAt.none_int _ _⟩
  | str c=>cases(show y=.str c by simpa[IsW]using hb);obtain⟨t,rfl⟩:=rv;exact⟨RcAt.none_str _ _,RcNeAt.none_str _ _⟩
 | bl d =>
  have ex:x=.bl d:=by simpa[IsW]using ha
  subst ex
  cases(show u=Value.bool d from ru)
  cases b with
  | tup _=>simp[D.pureN]at pb
  | lst _=>simp[D.pureN]at pb
  | loc _=>simp[D.pureN]at pb
  | non=>cases(show y=.non by simpa[IsW]using hb);cases(show v=Value.none from rv);exact⟨RcAt.bool_none _,RcNeAt.bool_none _⟩
  | bl c=>cases(show y=.bl c by simpa[IsW]using hb);cases(show v=Value.bool c from rv);exact⟨RcAt.bool_bool _ _,RcNeAt.bool_bool _ _⟩
  | int c=>cases(show y=.int c by simpa[IsW]using hb);obtain⟨t,rfl⟩:=rv;rw[deq,b2];exact⟨RcAt.bool_int _ _ _,RcNeAt.bool_int _ _ _⟩
  | str c=>cases(show y=.str c by simpa[IsW]using hb);obtain⟨t,rfl⟩:=rv;exact⟨RcAt.bool_str _ _ _,RcNeAt.bool_str _ _ _⟩
 | int d =>
  have ex:x=.int d:=by simpa[IsW]using ha
  subst ex
  obtain⟨t',rfl⟩:=ru
  cases b with
  | tup _=>simp[D.pureN]at pb
  | lst _=>simp[D.pureN]at pb
  | loc _=>simp[D.pureN]at pb
  | non=>cases(show y=.non by simpa[IsW]using hb);cases(show v=Value.none from rv);exact⟨RcAt.int_none _ _,RcNeAt.int_none _ _⟩
  | bl c=>cases(show y=.bl c by simpa[IsW]using hb);cases(show v=Value.bool c from rv);rw[deq,b2];exact⟨RcAt.int_bool _ _ _,RcNeAt.int_bool _ _ _⟩
  | int c=>cases(show y=.int c by simpa[IsW]using hb);obtain⟨t,rfl⟩:=rv;rw[deq,b2];exact⟨RcAt.int_int _ _ _ _,RcNeAt.int_int _ _ _ _⟩
  | str c=>cases(show y=.str c by simpa[IsW]using hb);obtain⟨t,rfl⟩:=rv;exact⟨RcAt.int_str _ _ _ _,RcNeAt.int_str _ _ _ _⟩
 | str d =>
  have ex:x=.str d:=by simpa[IsW]using ha
  subst ex
  obtain⟨t',rfl⟩:=ru
  cases b with
  | tup _=>simp[D.pureN]at pb
  | lst _=>simp[D.pureN]at pb
  | loc _=>simp[D.pureN]at pb
  | non=>cases(show y=.non by simpa[IsW]using hb);cases(show v=Value.none from rv);exact⟨RcAt.str_none _ _,RcNeAt.str_none _ _⟩
  | bl c=>cases(show y=.bl c by simpa[IsW]using hb);cases(show v=Value.bool c from rv);exact⟨RcAt.str_bool _ _ _,RcNeAt.str_bool _ _ _⟩
  | int c=>cases(show y=.int c by simpa[IsW]using hb);obtain⟨t,rfl⟩:=rv;exact⟨RcAt.str_int _ _ _ _,RcNeAt.str_int _ _ _ _⟩
  | str c =>
   cases(show y=.str c by simpa[IsW]using hb);obtain⟨t,rfl⟩:=rv
   have e:deq (.str d) (.str c)=(d==c):=by rw[deq];exact(DT d c).symm
   rw[e];exact⟨RcAt.str_str _ _ _ _,RcNeAt.str_str _ _ _ _⟩
theorem Ku (I:Inv X pins σ H s):∀(k:Nat) (A:Around) (a b:D) (x y:V) (u v:Value),A.units+k<cLine->D.pureN k a=true->D.pureN k b=true->IsW X.K H a x->IsW X.K H b y->RelV x u->RelV y v->RcAt A s u v (deq a b)/\RcNeAt A s u v (!deq a b):=by
 intro k
 induction k with
 | zero=>exact λA a b x y u v _ pa pb ha hb ru rv=>Al A a b x y u v pa pb ha hb ru rv
 | succ k ih =>
  intro A a b x y u v hu pa pb ha hb ru rv
  have hu0:A.units<cLine:=by lia
  have each:∀(as bs:List D) (xs ys:List V) (is js:List Value),as.all (D.pureN k)=true->bs.all (D.pureN k)=true->jf X.K H as xs->jf X.K H bs ys->bw xs is->bw ys js ->
    ∀j (h1:j<is.toArray.size) (h2:j<js.toArray.size),EqAt A.in1 s is.toArray[j] js.toArray[j] (deq (as.getD j .non) (bs.getD j .non)):=by
   intro as bs xs ys is js pas pbs has hbs hvx hvy j h1 h2
   have l1:as.length=is.length:=by rw[<-has.length,hvx.length]
   have l2:bs.length=js.length:=by rw[<-hbs.length,hvy.length]
   have j1:j<as.length:=by rw[l1];simpa using h1
   have j2:j<bs.length:=by rw[l2];simpa using h2
   obtain⟨p,e1,q1⟩:=has.get (AB j1)
   obtain⟨p',e1',q1'⟩:=hbs.get (AB j2)
   obtain⟨w,e2,q2⟩:=hvx.get e1
   obtain⟨w',e2',q2'⟩:=hvy.get e1'
   have g1:is.toArray[j]=w:=by
    have:is[j]? = some is.toArray[j]:=by simp[AB (show j<is.length by lia)]
    rw[this]at e2;exact BC e2
   have g2:js.toArray[j]=w':=by
    have:js[j]? = some js.toArray[j]:=by simp[AB (show j<js.length by lia)]
    rw[this]at e2';exact BC e2'
   rw[g1,g2,DZ,DZ,AB j1,AB j2]
   have pa:=AO.mp pas _ (List.getElem_mem j1)
   have pb:=AO.mp pbs _ (List.getElem_mem j2)
   exact Cq I pa pb q1 q1' q2 q2' (ih A.in1 _ _ p p' w w' (by rw[in1_units];lia) pa pb q1 q1' q2 q2').1
  have flat0:∀d:D,D.pureN (k+1) d=true->(∀ds,d≠.tup ds)->(∀ds,d≠.lst ds)->D.pureN 0 d=true:=λd h h1 h2=>by
   cases d with
   | tup ds=>exact absurd rfl (h1 ds)
   | lst ds=>exact absurd rfl (h2 ds)
   | loc n=>simp[D.pureN]at h
   | _=>rfl
  cases a with
  | loc n=>simp[D.pureN]at pa
  | tup as =>
   have pas:as.all (D.pureN k)=true:=by simpa[D.pureN]using pa
   obtain⟨p,xs,rfl,hq,hds⟩:=nz ha
   cases(show u=Value.ref p from ru)
   obtain⟨its,hv,ht,hz⟩:=I.tuple hq
   have ht':s.heap.IsTuple p its.toArray:=ht
   cases b with
   | loc n=>simp[D.pureN]at pb
   | tup bs =>
    have pbs:bs.all (D.pureN k)=true:=by simpa[D.pureN]using pb
    obtain⟨p',xs',rfl,hq',hds'⟩:=nz hb
    cases(show v=Value.ref p' from rv)
    obtain⟨its',hv',ht2,hz'⟩:=I.tuple hq'
    ·skip
     have ea:=each as bs xs xs' its its' pas pbs hds hds' hv hv'
     have q:=RcAt.tuples (A:=A) ht' (show s.heap.IsTuple p' its'.toArray from ht2) hu0 ea
     have q':=RcNeAt.tuples (A:=A) ht' (show s.heap.IsTuple p' its'.toArray from ht2) hu0 ea
     have l1:as.length=its.length:=by rw[<-hds.length,hv.length]
     have l2:bs.length=its'.length:=by rw[<-hds'.length,hv'.length]
     have e:((List.range (min its.toArray.size its'.toArray.size)).all (λj=>deq (as.getD j .non) (bs.getD j .non))&&its.toArray.size==its'.toArray.size)=deq (.tup as) (.tup bs):=by
      rw[deq]
      simp![AE,<-l1,<-l2]
      by_cases hl:as.length=bs.length
      ·rw[lh as bs hl,<-hl];simp
      ·rw[qp as bs hl];simp[hl]
     rw[e]at q q'
     exact⟨q,q'⟩
   | lst bs =>
    obtain⟨p',xs',rfl,hq',hds'⟩:∃a xs,y=.ref a/\LsL X.K H a xs/\jf X.K H bs xs:=by simpa[IsW]using hb
    cases(show v=Value.ref p' from rv)
    obtain⟨z,its',n',hv',_,hg⟩:=I.ls hq'
    exact⟨RcAt.tuple_list ht' ⟨_,hg,rfl,n',rfl⟩ hu0,RcNeAt.tuple_list ht' ⟨_,hg,rfl,n',rfl⟩ hu0⟩
   | non=>cases(show y=.non by simpa[IsW]using hb);cases(show v=Value.none from rv);exact⟨RcAt.tuple_none ht' hu0,RcNeAt.tuple_none ht' hu0⟩
   | bl c=>cases(show y=.bl c by simpa[IsW]using hb);cases(show v=Value.bool c from rv);exact⟨RcAt.tuple_bool _ ht' hu0,RcNeAt.tuple_bool _ ht' hu0⟩
   | int c=>cases(show y=.int c by simpa[IsW]using hb);obtain⟨t,rfl⟩:=rv;exact⟨RcAt.tuple_int _ _ ht' hu0,RcNeAt.tuple_int _ _ ht' hu0⟩
   | str c=>cases(show y=.str c by simpa[IsW]using hb);obtain⟨t,rfl⟩:=rv;exact⟨RcAt.tuple_str _ _ ht' hu0,RcNeAt.tuple_str _ _ ht' hu0⟩
  | lst as =>
   have pas:as.all (D.pureN k)=true:=by simpa[D.pureN]using pa
   obtain⟨p,xs,rfl,hq,hds⟩:∃a xs,x=.ref a/\LsL X.K H a xs/\jf X.K H as xs:=by simpa[IsW]using ha
   cases(show u=Value.ref p from ru)
   obtain⟨z,its,n,hv,_,hg⟩:=I.ls hq
   have hl':s.heap.IsList p its.toArray:=⟨_,hg,rfl,n,rfl⟩
   cases b with
   | loc n=>simp[D.pureN]at pb
   | lst bs =>
    have pbs:bs.all (D.pureN k)=true:=by simpa[D.pureN]using pb
    obtain⟨p',xs',rfl,hq',hds'⟩:∃a xs,y=.ref a/\LsL X.K H a xs/\jf X.K H bs xs:=by simpa[IsW]using hb
    cases(show v=Value.ref p' from rv)
    obtain⟨z',its',n',hv',_,hg'⟩:=I.ls hq'
    have hl2:s.heap.IsList p' its'.toArray:=⟨_,hg',rfl,n',rfl⟩
    ·skip
     have l1:as.length=its.length:=by rw[<-hds.length,hv.length]
     have l2:bs.length=its'.length:=by rw[<-hds'.length,hv'.length]
     by_cases hl:as.length=bs.length
     ·have ea:=each as bs xs xs' its its' pas pbs hds hds' hv hv'
      have ez:its.toArray.size=its'.toArray.size:=by simp![AE];lia
      have q:=RcAt.lists (A:=A) hl' hl2 ez hu0 ea
      have q':=RcNeAt.lists (A:=A) hl' hl2 ez hu0 ea
      have e:(List.range its.toArray.size).all (λj=>deq (as.getD j .non) (bs.getD j .non))=deq (.lst as) (.lst bs):=by
       rw[deq,lh as bs hl]
       simp![AE,<-l1]
      rw[e]at q q'
      exact⟨q,q'⟩
     ·rw[deq,qp as bs hl]
      exact⟨RcAt.lists_lengths hl' hl2 (by simp![AE];simp;lia) hu0,RcNeAt.lists_lengths hl' hl2 (by simp![AE];simp;lia) hu0⟩
   | tup bs =>
    obtain⟨p',xs',rfl,hq',hds'⟩:=nz hb
    cases(show v=Value.ref p' from rv)
    obtain⟨its',hv',ht2,hz'⟩:=I.tuple hq'
    exact⟨RcAt.list_tuple hl' (show s.heap.IsTuple p' its'.toArray from ht2) hu0,RcNeAt.list_tuple hl' (show s.heap.IsTuple p' its'.toArray from ht2) hu0⟩
   | non=>cases(show y=.non by simpa[IsW]using hb);cases(show v=Value.none from rv);exact⟨RcAt.list_none hl' hu0,RcNeAt.list_none hl' hu0⟩
   | bl c=>cases(show y=.bl c by simpa[IsW]using hb);cases(show v=Value.bool c from rv);exact⟨RcAt.list_bool _ hl' hu0,RcNeAt.list_bool _ hl' hu0⟩
   | int c=>cases(show y=.int c by simpa[IsW]using hb);obtain⟨t,rfl⟩:=rv;exact⟨RcAt.list_int _ _ hl' hu0,RcNeAt.list_int _ _ hl' hu0⟩
   | str c=>cases(show y=.str c by simpa[IsW]using hb);obtain⟨t,rfl⟩:=rv;exact⟨RcAt.list_str _ _ hl' hu0,RcNeAt.list_str _ _ hl' hu0⟩
  | _ =>
   cases b with
   | loc n=>simp[D.pureN]at pb
   | tup bs =>
    obtain⟨p',xs',rfl,hq',hds'⟩:=nz hb
    cases(show v=Value.ref p' from rv)
    obtain⟨its',hv',ht2,hz'⟩:=I.tuple hq'
    have ht':s.heap.IsTuple p' its'.toArray:=ht2
    first
    | (cases(show x=.non by simpa[IsW]using ha);cases(show u=Value.none from ru);exact⟨RcAt.none_tuple ht' hu0,RcNeAt.none_tuple ht' hu0⟩)
    | (cases(show x=.bl _ by simpa[IsW]using ha);cases(show u=Value.bool _ from ru);exact⟨RcAt.bool_tuple _ ht' hu0,RcNeAt.bool_tuple _ ht' hu0⟩)
    | (cases(show x=.int _ by simpa[IsW]using ha);obtain⟨t,rfl⟩:=ru;exact⟨RcAt.int_tuple _ _ ht' hu0,RcNeAt.int_tuple _ _ ht' hu0⟩)
    | (cases(show x=.str _ by simpa[IsW]using ha);obtain⟨t,rfl⟩:=ru;exact⟨RcAt.str_tuple _ _ ht' hu0,RcNeAt.str_tuple _ _ ht' hu0⟩)
   | lst bs =>
    obtain⟨p',xs',rfl,hq',hds'⟩:∃a xs,y=.ref a/\LsL X.K H a xs/\jf X.K H bs xs:=by simpa[IsW]using hb
    cases(show v=Value.ref p' from rv)
    obtain⟨z',its',n',hv',_,hg'⟩:=I.ls hq'
    have hl':s.heap.IsList p' its'.toArray:=⟨_,hg',rfl,n',rfl⟩
    first
    | (cases(show x=.non by simpa[IsW]using ha);cases(show u=Value.none from ru);exact⟨RcAt.none_list hl' hu0,RcNeAt.none_list hl' hu0⟩)
    | (cases(show x=.bl _ by simpa[IsW]using ha);cases(show u=Value.bool _ from ru);exact⟨RcAt.bool_list _ hl' hu0,RcNeAt.bool_list _ hl' hu0⟩)
    | (cases(show x=.int _ by simpa[IsW]using ha);obtain⟨t,rfl⟩:=ru;exact⟨RcAt.int_list _ _ hl' hu0,RcNeAt.int_list _ _ hl' hu0⟩)
    | (cases(show x=.str _ by simpa[IsW]using ha);obtain⟨t,rfl⟩:=ru;exact⟨RcAt.str_list _ _ hl' hu0,RcNeAt.str_list _ _ hl' hu0⟩)
   | _=>exact Al A _ _ x y u v rfl rfl ha hb ru rv
end
open PySem.SeqAt (EqAt RcAt)
section
variable {X : Cx} {φ : Phi} {pins : List (Addr × Obj)} {σ : St} {H : Hp} {s : Shared}
theorem Jm (hu:X.A.units+8<cLine):OpR X (compareOp .Eq) (rOp X.K (cpD .eq)):=by
 intro pins s σ H x y v u Q I rx ry ⟨ι,a,b,μ,hS,ha,hb,h⟩
 unfold cpD at h
 simp only at h
 split at h
 ·rename_i hp
  exact(Ku I 8 X.A a b x y v u hu hp.1 hp.2 (IsW.ofD (IsD.pur hp.1 ha)) (IsW.ofD (IsD.pur hp.2 hb)) rx ry).1 _ _ _ _ ⟨.bl (deq a b),H,I,rfl,h.ok hS (by simp[IsD])⟩
 ·exact h.elim
end
open PySem.SeqAt (EqAt RcNeAt)
section
variable {X : Cx} {φ : Phi} {pins : List (Addr × Obj)} {σ : St} {H : Hp} {s : Shared}
theorem Jn (hu:X.A.units+8<cLine):OpR X (compareOp .NotEq) (rOp X.K (cpD .ne)):=by
 intro pins s σ H x y v u Q I rx ry ⟨ι,a,b,μ,hS,ha,hb,h⟩
 unfold cpD at h
 simp only at h
 split at h
 ·rename_i hp
  exact(Ku I 8 X.A a b x y v u hu hp.1 hp.2 (IsW.ofD (IsD.pur hp.1 ha)) (IsW.ofD (IsD.pur hp.2 hb)) rx ry).2 _ _ _ _ ⟨.bl (!deq a b),H,I,rfl,h.ok hS (by simp[IsD])⟩
 ·exact h.elim
end
end Lp
namespace LT
open PySem PySem.Spec PyProof.Rows HT
open PySem.SeqAt
open PySem.AutoSeq1 (wpAny_loadPart')
open PySem.MeetsSeq PySem.MeetsSeq2 PySem.MeetsSeq3
theorem Q7 (A:Around) (s:Shared) (a:Int) (t:Tok) (c:Int) (u:Tok) (prog:Program) (w:World) (E:Value->Shared->Prop) (Q:Value->Shared->Prop) (h:Q (.bool (decide (a<=c))) s) :
  wpAny (model prog w) A (richCompare .LtE (.int a t) (.int c u)) Q E s :=
 (PyProof.Rows.le_int h:wpAny (model prog w) A (compareOp .LtE (.int a t) (.int c u)) Q E s)
theorem Cr (l b:Addr) (items items2:Array Value) (n n2:Nat) (dd dd2:Option Addr) (sl sl2:Array (Option Value)) (ns ms:List Int) (ii:IntsAre items.toList ns) (jj:IntsAre items2.toList ms) :
  Meets (Builtin.«tuple.__le__» ⟨[.ref l,.ref b],[]⟩) (λ_ R s=>s.heap.get? l=some {cls:=.type "tuple",dict:=dd,data:=.seq items n,slots:=sl}/\s.heap.get? b=some {cls:=.type "tuple",dict:=dd2,data:=.seq items2 n2,slots:=sl2}/\R (.ok (.ret (.bool (!lexLt ms ns)))) s) :=
 .of_wp λprog w A R s h=>by
  obtain⟨hh0,g,d,tk0,os0⟩:=s;obtain⟨ql,hb,h⟩:=h
  have sub0:=EC
  have n1:ns.length=items.size:=by rw[<-ii.length,CJ]
  have n2e:ms.length=items2.size:=by rw[<-jj.length,CJ]
  wp_walk using DM ql,DM hb,GN _ (λrest b s'=>b.1=none/\s'=⟨hh0,g,d,tk0,os0⟩/\∃(us1 us2:List Value) (ms1 ms2:List Int),rest=us1.zip us2 /\
   IntsAre us1 ms1/\IntsAre us2 ms2/\ms1.length+items2.size=ms2.length+items.size/\R (.ok (.ret (.bool (!lexLt ms2 ms1)))) ⟨hh0,g,d,tk0,os0⟩) _
  case turn =>
   rintro⟨y,x⟩ rest b s' ⟨p0,rfl,us1,us2,ms1,ms2,pz,pv,pw,pl,fin0⟩
   cases pv with
   | nil=>rw[Gt]at pz;cases pz
   | cons a t pv1 =>
    cases pw with
    | nil=>rw[FV]at pz;cases pz
    | cons c u pw1 =>
     rw[CM]at pz
     injection pz with pyx pr
     injection pyx with py px
     subst py px
     rw[fo]at fin0
     simp![BJ]at pl
     obtain⟨same,eq0,eqi⟩:=qf A.in1 ⟨hh0,g,d,tk0,os0⟩ a t c u
     refine AA (eq0 prog w _ _ ?_)
     cases same with
     | true =>
      rw[if_pos (eqi.mp rfl).symm]at fin0
      wp_walk
      exact⟨rfl,rfl,_,_,_,_,pr,pv1,pw1,by lia,fin0⟩
     | false =>
      have hne:¬c=a:=λq=>absurd (eqi.mpr q.symm) BH
      rw[if_neg hne]at fin0
      have ed:(!decide (c<a))=decide (a<=c):=by
       by_cases hc:c<a
       ·rw[decide_eq_true hc,decide_eq_false (by lia)];rfl
       ·rw[decide_eq_false hc,decide_eq_true (by lia)];rfl
      rw[ed]at fin0
      have low:=Q7 A.in1 ⟨hh0,g,d,tk0,os0⟩ a t c u prog w
      wp_walk using low
      exact⟨_,rfl,by simpa using fin0⟩
  case fin =>
   rintro⟨c1,c2⟩ s' ⟨p0,rfl,us1,us2,ms1,ms2,pz,pv,pw,pl,fin0⟩
   simp only at p0
   subst p0
   have hv:(!lexLt ms2 ms1)=decide (items.size<=items2.size):=by
    cases pv with
    | nil =>
     cases pw with
     | nil =>
      simp![BU]at pl
      rw[i4,decide_eq_true (by lia)];rfl
     | cons c u hw =>
      simp![BU,BJ]at pl
      rw[h9,decide_eq_true (by lia)];rfl
    | cons a t hv =>
     cases pw with
     | nil =>
      simp![BU,BJ]at pl
      rw[g9,decide_eq_false (by lia)];rfl
     | cons c u hw =>
      rw[CM]at pz
      cases pz
   rw[hv]at fin0
   wp_walk
   exact⟨_,rfl,by simpa[Builtin.Tuple.tupleCompareSizes]using fin0⟩
  case h =>
   exact⟨rfl,rfl,items.toList,items2.toList,ns,ms,rfl,ii,jj,by lia,h⟩
theorem Jo {prog:Program} {w:World} {A:Around} {E:Value->Shared->Prop} {s:Shared} {l b:Addr} {items items2:Array Value} {ns ms:List Int} {Q:Value->Shared->Prop} (hl:IsTup s.heap l items) (hb:IsTup s.heap b items2) (hi:IntsAre items.toList ns) (hj:IntsAre items2.toList ms)
  (hu:A.units<cLine) (h:Q (.bool (!lexLt ms ns)) s):wpAny (model prog w) A (compareOp .LtE (.ref l) (.ref b)) Q E s:=by
 obtain⟨⟨_,dd,_,sl⟩,ho,rfl,n,rfl⟩:=id hl
 obtain⟨⟨_,dd2,_,sl2⟩,ho2,rfl,n2,rfl⟩:=id hb
 exact EK (op:=.LtE) ⟨_,ho,rfl⟩ ⟨_,ho2,rfl⟩ PySem.F.slot_tuple_le PySem.F.entry_tuple_le (PySem.F.args_tuple_le_2 _ _) (Cr l b items items2 n n2 dd dd2 sl sl2 ns ms hi hj)
  ⟨ho,ho2,show Value.bool (!lexLt ms ns)≠Value.notImplemented/\Q (.bool (!lexLt ms ns)) s from⟨(λx=>nomatch x),h⟩⟩ hu
theorem Q8 (A:Around) (s:Shared) (a:Int) (t:Tok) (c:Int) (u:Tok) (prog:Program) (w:World) (E:Value->Shared->Prop) (Q:Value->Shared->Prop) (h:Q (.bool (decide (c<=a))) s) :
  wpAny (model prog w) A (richCompare .GtE (.int a t) (.int c u)) Q E s :=
 (PyProof.Rows.ge_int h:wpAny (model prog w) A (compareOp .GtE (.int a t) (.int c u)) Q E s)
theorem Ct (l b:Addr) (items items2:Array Value) (n n2:Nat) (dd dd2:Option Addr) (sl sl2:Array (Option Value)) (ns ms:List Int) (ii:IntsAre items.toList ns) (jj:IntsAre items2.toList ms) :
  Meets (Builtin.«tuple.__ge__» ⟨[.ref l,.ref b],[]⟩) (λ_ R s=>s.heap.get? l=some {cls:=.type "tuple",dict:=dd,data:=.seq items n,slots:=sl}/\s.heap.get? b=some {cls:=.type "tuple",dict:=dd2,data:=.seq items2 n2,slots:=sl2}/\R (.ok (.ret (.bool (!lexLt ns ms)))) s) :=
 .of_wp λprog w A R s h=>by
  obtain⟨hh0,g,d,tk0,os0⟩:=s;obtain⟨ql,hb,h⟩:=h
  have sub0:=EC
  have n1:ns.length=items.size:=by rw[<-ii.length,CJ]
  have n2e:ms.length=items2.size:=by rw[<-jj.length,CJ]
  wp_walk using DM ql,DM hb,GN _ (λrest b s'=>b.1=none/\s'=⟨hh0,g,d,tk0,os0⟩/\∃(us1 us2:List Value) (ms1 ms2:List Int),rest=us1.zip us2 /\
   IntsAre us1 ms1/\IntsAre us2 ms2/\ms1.length+items2.size=ms2.length+items.size/\R (.ok (.ret (.bool (!lexLt ms1 ms2)))) ⟨hh0,g,d,tk0,os0⟩) _
  case turn =>
   rintro⟨y,x⟩ rest b s' ⟨p0,rfl,us1,us2,ms1,ms2,pz,pv,pw,pl,fin0⟩
   cases pv with
   | nil=>rw[Gt]at pz;cases pz
   | cons a t pv1 =>
    cases pw with
    | nil=>rw[FV]at pz;cases pz
    | cons c u pw1 =>
     rw[CM]at pz
     injection pz with pyx pr
     injection pyx with py px
     subst py px
     rw[fo]at fin0
     simp![BJ]at pl
     obtain⟨same,eq0,eqi⟩:=qf A.in1 ⟨hh0,g,d,tk0,os0⟩ a t c u
     refine AA (eq0 prog w _ _ ?_)
     cases same with
     | true =>
      rw[if_pos (eqi.mp rfl)]at fin0
      wp_walk
      exact⟨rfl,rfl,_,_,_,_,pr,pv1,pw1,by lia,fin0⟩
     | false =>
      have hne:¬a=c:=λq=>absurd (eqi.mpr q) BH
      rw[if_neg hne]at fin0
      have ed:(!decide (a<c))=decide (c<=a):=by
       by_cases hc:a<c
       ·rw[decide_eq_true hc,decide_eq_false (by lia)];rfl
       ·rw[decide_eq_false hc,decide_eq_true (by lia)];rfl
      rw[ed]at fin0
      have low:=Q8 A.in1 ⟨hh0,g,d,tk0,os0⟩ a t c u prog w
      wp_walk using low
      exact⟨_,rfl,by simpa using fin0⟩
  case fin =>
   rintro⟨c1,c2⟩ s' ⟨p0,rfl,us1,us2,ms1,ms2,pz,pv,pw,pl,fin0⟩
   simp only at p0
   subst p0
   have hv:(!lexLt ms1 ms2)=decide (items2.size<=items.size):=by
    cases pv with
    | nil =>
     cases pw with
     | nil =>
      simp![BU]at pl
      rw[i4,decide_eq_true (by lia)];rfl
     | cons c u hw =>
      simp![BU,BJ]at pl
      rw[g9,decide_eq_false (by lia)];rfl
    | cons a t hv =>
     cases pw with
     | nil =>
      simp![BU,BJ]at pl
      rw[h9,decide_eq_true (by lia)];rfl
     | cons c u hw =>
      rw[CM]at pz
      cases pz
   rw[hv]at fin0
   wp_walk
   exact⟨_,rfl,by simpa[Builtin.Tuple.tupleCompareSizes]using fin0⟩
  case h =>
   exact⟨rfl,rfl,items.toList,items2.toList,ns,ms,rfl,ii,jj,by lia,h⟩
theorem Jp {prog:Program} {w:World} {A:Around} {E:Value->Shared->Prop} {s:Shared} {l b:Addr} {items items2:Array Value} {ns ms:List Int} {Q:Value->Shared->Prop} (hl:IsTup s.heap l items) (hb:IsTup s.heap b items2) (hi:IntsAre items.toList ns) (hj:IntsAre items2.toList ms)
  (hu:A.units<cLine) (h:Q (.bool (!lexLt ns ms)) s):wpAny (model prog w) A (compareOp .GtE (.ref l) (.ref b)) Q E s:=by
 obtain⟨⟨_,dd,_,sl⟩,ho,rfl,n,rfl⟩:=id hl
 obtain⟨⟨_,dd2,_,sl2⟩,ho2,rfl,n2,rfl⟩:=id hb
 exact EK (op:=.GtE) ⟨_,ho,rfl⟩ ⟨_,ho2,rfl⟩ PySem.F.slot_tuple_ge PySem.F.entry_tuple_ge (PySem.F.args_tuple_ge_2 _ _) (Ct l b items items2 n n2 dd dd2 sl sl2 ns ms hi hj)
  ⟨ho,ho2,show Value.bool (!lexLt ns ms)≠Value.notImplemented/\Q (.bool (!lexLt ns ms)) s from⟨(λx=>nomatch x),h⟩⟩ hu
end LT
namespace L2
open PySem PySem.Spec PyProof.Rows
variable {X : Cx}
theorem Jq (hu:X.A.units<cLine) {pins s σ H x y v u Q} (I:Inv X pins σ H s) (rx:RelV x v) (ry:RelV y u) (h:∃a b ns ms,x=.ref a/\y=.ref b/\SqT X.K H a (ns.map V.int)/\SqT X.K H b (ms.map V.int)/\Q (.bl (!HT.lexLt ms ns)) H) :
  wpAny (model X.prog X.w) X.A (compareOp .LtE v u) (EP X pins σ Q) X.xe s:=by
 obtain⟨c,d,ns,ms,rfl,rfl,hc,hd,q⟩:=h
 cases rx
 cases ry
 obtain⟨us,r1,p1,_⟩:=I.tuple hc
 obtain⟨us2,r2,p2,_⟩:=I.tuple hd
 exact LT.Jo p1 p2 (intsAre_of r1) (intsAre_of r2) hu ⟨.bl (!HT.lexLt ms ns),H,I,rfl,q⟩
theorem Jr (hu:X.A.units<cLine) {pins s σ H x y v u Q} (I:Inv X pins σ H s) (rx:RelV x v) (ry:RelV y u) (h:∃a b ns ms,x=.ref a/\y=.ref b/\SqT X.K H a (ns.map V.int)/\SqT X.K H b (ms.map V.int)/\Q (.bl (!HT.lexLt ns ms)) H) :
  wpAny (model X.prog X.w) X.A (compareOp .GtE v u) (EP X pins σ Q) X.xe s:=by
 obtain⟨c,d,ns,ms,rfl,rfl,hc,hd,q⟩:=h
 cases rx
 cases ry
 obtain⟨us,r1,p1,_⟩:=I.tuple hc
 obtain⟨us2,r2,p2,_⟩:=I.tuple hd
 exact LT.Jp p1 p2 (intsAre_of r1) (intsAre_of r2) hu ⟨.bl (!HT.lexLt ns ms),H,I,rfl,q⟩
end L2
namespace Lp
open PySem PySem.Spec PyProof.Rows L2
open PySem.SeqAt (EqAt RcAt)
def opOf:Cp->CmpOp
 | .eq=>.Eq
 | .ne=>.NotEq
 | .eqM=>.Eq
 | .neM=>.NotEq
 | .lt=>.Lt
 | .le=>.LtE
 | .gt=>.Gt
 | .ge=>.GtE
 | .is=>.Is
 | .isnot=>.IsNot
 | .in_=>.In
 | .notin=>.NotIn
section
variable {X : Cx} {φ : Phi} {pins : List (Addr × Obj)} {σ : St} {H : Hp} {s : Shared}
theorem ints_of {K:PySem.W.Frag} {ι:List Addr}:∀{ds:List D} {xs:List V} {ns:List Int},aq K ι H ds xs->ke ds=some ns->xs=ns.map V.int
 | [],xs,ns,h,e=>by
  simp![ke,BF]at e
  subst e
  simpa[aq]using h
 | d::ds,xs,ns,h,e=>by
  simp![aq]at h
  obtain⟨v,r,rfl,q,t⟩:=h
  cases d with
  | int i =>
   simp![ke,DK]at e
   obtain⟨ms,e1,rfl⟩:=e
   cases dh q
   rw[ints_of t e1]
   rfl
  | _=>simp[ke]at e
theorem xg {K:PySem.W.Frag} {ι:List Addr}:∀{ds:List D} {xs:List V} {ns:List Bool},aq K ι H ds xs->kf ds=some ns->xs=ns.map V.bl
 | [],xs,ns,h,e=>by
  simp![kf,BF]at e
  subst e
  simpa[aq]using h
 | d::ds,xs,ns,h,e=>by
  simp![aq]at h
  obtain⟨v,r,rfl,q,t⟩:=h
  cases d with
  | bl i =>
   simp![kf,DK]at e
   obtain⟨ms,e1,rfl⟩:=e
   cases sy q
   rw[xg t e1]
   rfl
  | _=>simp[kf]at e
theorem vi {K:PySem.W.Frag} {ι:List Addr} {d:D} {v:V} (h:IsD K ι H d v) (hf:flat d=true):pd v=true:=by
 cases d with
 | tup _=>simp[flat]at hf
 | lst _=>simp[flat]at hf
 | loc _=>simp[flat]at hf
 | _=>have e:=h;simp![IsD]at e;subst e;rfl
theorem qq {K:PySem.W.Frag} {ι:List Addr}:∀{ds:List D} {xs:List V},aq K ι H ds xs->ds.all flat=true->xs.all pd=true
 | [],xs,h,_=>by
  have e:xs=[]:=by simpa[aq]using h
  subst e
  rfl
 | d::ds,xs,h,hf=>by
  simp![aq]at h
  obtain⟨v,r,rfl,q,t⟩:=h
  simp![AY,AW]at hf ⊢
  exact⟨vi q hf.1,qq t hf.2⟩
theorem Js {K:PySem.W.Frag} {ι:List Addr} {d e:D} {v w:V} (hd:IsD K ι H d v) (he:IsD K ι H e w) (fd:flat d=true) (fe:flat e=true):eqV v w=deq d e:=by
 have b2:∀(a b:Int),decide (a=b)=(a==b):=λa b=>(DT a b).symm
 have b3:∀(a b:Str),decide (a=b)=(a==b):=λa b=>(DT a b).symm
 cases d with
 | tup _=>simp[flat]at fd
 | lst _=>simp[flat]at fd
 | loc _=>simp[flat]at fd
 | _ =>
  cases e with
  | tup _=>simp[flat]at fe
  | lst _=>simp[flat]at fe
  | loc _=>simp[flat]at fe
  | _ =>
   simp![IsD]at hd he
   subst hd he
   simp![eqV,deq,b2,b3]
theorem Am {K:PySem.W.Frag} {ι:List Addr} {e:D} {w:V} (he:IsD K ι H e w) (fe:flat e=true):∀{ds:List D} {xs:List V},aq K ι H ds xs->ds.all flat=true->inV w xs=ds.any λy=>deq y e
 | [],xs,h,_=>by
  have e:xs=[]:=by simpa[aq]using h
  subst e
  rfl
 | d::ds,xs,h,hf=>by
  simp![aq]at h
  obtain⟨v,r,rfl,q,t⟩:=h
  simp![AY,AW]at hf
  have ih:=Am he fe t hf.2
  unfold inV at ih ⊢
  rw[CY,CY,Js q he hf.1 fe,ih]
theorem is_bool {u:Bool} {v:Bool} {Q:VK} (I:Inv X pins σ H s) (q:Q (.bl (u==v)) H):wpAny (model X.prog X.w) X.A (compareOp .Is (.bool u) (.bool v)) (EP X pins σ Q) X.xe s:=by
 cases u<;>cases v<;>exact AI ⟨.bl _,H,I,rfl,q⟩
theorem isnot_bool {u:Bool} {v:Bool} {Q:VK} (I:Inv X pins σ H s) (q:Q (.bl (!(u==v))) H):wpAny (model X.prog X.w) X.A (compareOp .IsNot (.bool u) (.bool v)) (EP X pins σ Q) X.xe s:=by
 cases u<;>cases v<;>exact AI ⟨.bl _,H,I,rfl,q⟩
theorem tf {v:Bool} {Q:VK} (I:Inv X pins σ H s) (q:Q (.bl false) H):wpAny (model X.prog X.w) X.A (compareOp .Is .none (.bool v)) (EP X pins σ Q) X.xe s:=by
 cases v<;>exact AI ⟨.bl _,H,I,rfl,q⟩
theorem og {v:Bool} {Q:VK} (I:Inv X pins σ H s) (q:Q (.bl true) H):wpAny (model X.prog X.w) X.A (compareOp .IsNot .none (.bool v)) (EP X pins σ Q) X.xe s:=by
 cases v<;>exact AI ⟨.bl _,H,I,rfl,q⟩
def kD:Key->D
 | .inl i=>.int i
 | .inr x=>.str x
theorem An {K:PySem.W.Frag} {ι:List Addr} {d:D} {x:V} (hk:D8 d=true) (h:IsD K ι H d x):∃k,d=kD k/\x=kV k:=by
 cases d with
 | int i=>exact⟨.inl i,rfl,by simpa[IsD,kV]using h⟩
 | str i=>exact⟨.inr i,rfl,by simpa[IsD,kV]using h⟩
 | _=>simp[D8]at hk
theorem vj {K:PySem.W.Frag} {ι:List Addr} {d:D} {k:Key} (h:IsD K ι H d (kV k)):d=kD k:=by
 cases k with
 | inl i=>cases d<;>simp_all[IsD,kV,kD]
 | inr i=>cases d<;>simp_all[IsD,kV,kD]
theorem tj (a b:Key):deq (kD a) (kD b)=decide (a=b):=by
 cases a<;>cases b<;>simp[kD,deq]
def OR (K:PySem.W.Frag) (H:Hp):Option D->Option V->Prop
 | some d,some v=>IsD K [] H d v
 | none,none=>True
 | _,_=>False
theorem OR.isSome {K:PySem.W.Frag} {o:Option D} {p:Option V} (h:OR K H o p):p.isSome=o.isSome:=by
 cases o<;>cases p<;>first | rfl | exact h.elim
theorem qr {K:PySem.W.Frag} {k:Key}:∀{kvs:List (D×D)} {xs:List (Key×V)},Ec K H kvs xs->OR K H (Ci (kD k) kvs) (wo xs k)
 | _,_,.nil=>True.intro
 | p::kvs,q::xs,.cons h t=>by
  obtain⟨d,e⟩:=p
  have hk:=vj h.1
  dsimp only at hk
  subst hk
  have ih:=qr (k:=k) (kvs:=kvs) (xs:=xs) t
  by_cases z:q.1=k
  ·rw[mn z,Ci,tj,if_pos (by simpa using z)]
   exact h.2
  ·rw[mq z,Ci,tj,if_neg (by simpa using z)]
   exact ih
theorem Ao {K:PySem.W.Frag} {k:Key}:∀{kvs:List (D×D)} {xs:List (Key×V)},Ec K H kvs xs->(kvs.any λp=>deq p.1 (kD k))=xs.any λkv=>decide (kv.1=k)
 | _,_,.nil=>rfl
 | p::kvs,q::xs,.cons h t=>by
  obtain⟨d,e⟩:=p
  have hk:=vj h.1
  dsimp only at hk
  subst hk
  rw[CY,CY,Ao t,tj]
theorem xj {K:PySem.W.Frag} {k:Key} {d:D} {v:V} (hv:IsD K [] H d v):∀{kvs:List (D×D)} {xs:List (Key×V)},Ec K H kvs xs ->
  Ec K H (kvs.map λp=>if deq p.1 (kD k)=true then(p.1,d)else p) (xs.map λkv=>if kv.1=k then(kv.1,v)else kv)
 | _,_,.nil=>.nil
 | p::kvs,q::xs,.cons h t=>by
  obtain⟨e,w⟩:=p
  have hk:=vj h.1
  dsimp only at hk
  subst hk
  rw[AX,AX]
  refine .cons ?_ (xj hv t)
  by_cases z:q.1=k
  ·rw[if_pos z,tj,if_pos (by simpa using z)]
   exact⟨h.1,hv⟩
  ·rw[if_neg z,tj,if_neg (by simpa using z)]
   exact h
theorem oh {α β:Type} {F:α->β->Prop}:∀{xs:List α} {ys:List β} {x:α} {y:β},Paired F xs ys->F x y->Paired F (xs++[x]) (ys++[y])
 | _,_,_,_,.nil,h=>.cons h .nil
 | _,_,_,_,.cons a t,h=>.cons a (oh t h)
theorem Cu {K:PySem.W.Frag} {k:Key} {d:D} {v:V} (hv:IsD K [] H d v) {kvs:List (D×D)} {xs:List (Key×V)} (h:Ec K H kvs xs):Ec K H (dput (kD k) d kvs) (putK xs k v):=by
 unfold dput putK
 rw[Ao h]
 split
 ·exact xj hv h
 ·refine oh h ⟨?_,hv⟩
  cases k<;>simp[kD,kV,IsD]
theorem Ap {K:PySem.W.Frag} {ι:List Addr} {μ:Sto} {o k:D} {x y:V} {kvs:List (D×D)} (hS:Sim K ι H μ) (ho:IsD K ι H o x) (hk:IsD K ι H k y) (h:dictAt μ o k=some kvs) :
  ∃p q xs,x=.ref p/\y=kV q/\k=kD q/\H p=some (.dK xs)/\Ec K H kvs xs:=by
 cases o with
 | loc n =>
  simp![dictAt]at h
  split at h
  ·rename_i kvs' em
   split at h
   ·rename_i hkey
    cases h
    obtain⟨p,rfl,hp⟩:∃p,x=.ref p/\ι[n]? = some p:=by simpa[IsD]using ho
    obtain⟨a',q',ob⟩:=hS.at em
    rw[hp]at q';cases q'
    obtain⟨xs,e1,e2⟩:=ob
    obtain⟨q,rfl,rfl⟩:=An hkey hk
    exact⟨p,q,xs,rfl,rfl,rfl,e1,e2⟩
   ·cases h
  ·cases h
 | _=>simp[dictAt]at h
theorem Aq (cp:Cp) (hu:X.A.units+8<cLine):OpR X (compareOp (opOf cp)) (rOp X.K (cpD cp)):=by
 have hu0:X.A.units<cLine:=by lia
 cases cp with
 | eq=>exact Jm hu
 | ne=>exact Jn hu
 | eqM =>
  intro pins s σ H x y v u Q I rx ry ⟨ι,a,b,μ,hS,ha,hb,h⟩
  simp![cpD]at h
  cases e1:bb μ 8 a with
  | none=>simp![e1]at h;exact h.elim
  | some a1 =>
   cases e2:bb μ 8 b with
   | none=>simp![e1,e2]at h;exact h.elim
   | some b1 =>
    simp![e1,e2]at h
    exact(Ku I 8 X.A a1 b1 x y v u hu (il 8 _ _ e1) (il 8 _ _ e2) (td hS 8 _ _ _ e1 ha) (td hS 8 _ _ _ e2 hb) rx ry).1 _ _ _ _ ⟨.bl (deq a1 b1),H,I,rfl,h.ok hS (by simp[IsD])⟩
 | neM =>
  intro pins s σ H x y v u Q I rx ry ⟨ι,a,b,μ,hS,ha,hb,h⟩
  simp![cpD]at h
  cases e1:bb μ 8 a with
  | none=>simp![e1]at h;exact h.elim
  | some a1 =>
   cases e2:bb μ 8 b with
   | none=>simp![e1,e2]at h;exact h.elim
   | some b1 =>
    simp![e1,e2]at h
    exact(Ku I 8 X.A a1 b1 x y v u hu (il 8 _ _ e1) (il 8 _ _ e2) (td hS 8 _ _ _ e1 ha) (td hS 8 _ _ _ e2 hb) rx ry).2 _ _ _ _ ⟨.bl (!deq a1 b1),H,I,rfl,h.ok hS (by simp[IsD])⟩
 | lt =>
  intro pins s σ H x y v u Q I rx ry ⟨ι,a,b,μ,hS,ha,hb,h⟩
  simp![cpD]at h
  split at h
  ·cases dh ha;cases dh hb
   exact Ll pins s σ H _ _ v u Q I rx ry ⟨_,_,rfl,rfl,h.ok hS (by simp[IsD])⟩
  ·obtain⟨p,xs,rfl,hq,hds⟩:=f9 ha
   obtain⟨p',xs',rfl,hq',hds'⟩:=f9 hb
   split at h
   ·rename_i ns ms e1 e2
    have:=ints_of hds e1
    subst this
    have:=ints_of hds' e2
    subst this
    refine Ii hu0 pins s σ H _ _ v u Q I rx ry ⟨p,p',ns,ms,rfl,rfl,hq,hq',?_⟩
    have el:∀(a b:List Int),HT.lexLt a b=Lp.lexLt a b:=by
     intro a
     induction a with
     | nil=>intro b;cases b<;>rfl
     | cons x r ih=>intro b;cases b with
      | nil=>rfl
      | cons y q=>rw[HT.fo,Lp.lexLt,ih]
    rw[el]
    exact h.ok hS (by simp[IsD])
   ·exact h.elim
  ·exact h.elim
 | le =>
  intro pins s σ H x y v u Q I rx ry ⟨ι,a,b,μ,hS,ha,hb,h⟩
  simp![cpD]at h
  split at h
  ·cases dh ha;cases dh hb
   exact Lm pins s σ H _ _ v u Q I rx ry ⟨_,_,rfl,rfl,h.ok hS (by simp[IsD])⟩
  ·obtain⟨p,xs,rfl,hq,hds⟩:=f9 ha
   obtain⟨p',xs',rfl,hq',hds'⟩:=f9 hb
   split at h
   ·rename_i ns ms e1 e2
    have:=ints_of hds e1
    subst this
    have:=ints_of hds' e2
    subst this
    refine Jq hu0 I rx ry ⟨p,p',ns,ms,rfl,rfl,hq,hq',?_⟩
    have el:∀(a b:List Int),HT.lexLt a b=Lp.lexLt a b:=by
     intro a
     induction a with
     | nil=>intro b;cases b<;>rfl
     | cons x r ih=>intro b;cases b with
      | nil=>rfl
      | cons y q=>rw[HT.fo,Lp.lexLt,ih]
    rw[el]
    exact h.ok hS (by simp[IsD])
   ·exact h.elim
  ·exact h.elim
 | gt =>
  refine OpR.imp Ln λx y H Q ⟨ι,a,b,μ,hS,ha,hb,h⟩=>?_
  simp![cpD]at h
  split at h
  ·cases dh ha;cases dh hb
   exact⟨_,_,rfl,rfl,h.ok hS (by simp[IsD])⟩
  ·exact h.elim
 | ge =>
  intro pins s σ H x y v u Q I rx ry ⟨ι,a,b,μ,hS,ha,hb,h⟩
  simp![cpD]at h
  split at h
  ·cases dh ha;cases dh hb
   exact Lo pins s σ H _ _ v u Q I rx ry ⟨_,_,rfl,rfl,h.ok hS (by simp[IsD])⟩
  ·obtain⟨p,xs,rfl,hq,hds⟩:=f9 ha
   obtain⟨p',xs',rfl,hq',hds'⟩:=f9 hb
   split at h
   ·rename_i ns ms e1 e2
    have:=ints_of hds e1
    subst this
    have:=ints_of hds' e2
    subst this
    refine Jr hu0 I rx ry ⟨p,p',ns,ms,rfl,rfl,hq,hq',?_⟩
    have el:∀(a b:List Int),HT.lexLt a b=Lp.lexLt a b:=by
     intro a
     induction a with
     | nil=>intro b;cases b<;>rfl
     | cons x r ih=>intro b;cases b with
      | nil=>rfl
      | cons y q=>rw[HT.fo,Lp.lexLt,ih]
    rw[el]
    exact h.ok hS (by simp[IsD])
   ·exact h.elim
  ·exact h.elim
 | is =>
  intro pins s σ H x y v u Q I rx ry ⟨ι,a,b,μ,hS,ha,hb,h⟩
  simp![cpD]at h
  split at h
  ·refine Hx pins s σ H x y v u Q I rx ry ⟨by simpa[IsD]using hb,?_⟩
   cases a with
   | tup ds=>obtain⟨p,xs,rfl,_⟩:=f9 ha;exact h.ok hS (by simp[IsD])
   | lst ds =>
         obtain⟨p,xs,rfl,_⟩:∃p xs,x=V.ref p/\FzL X.K H p xs/\aq X.K ι H ds xs:=by simpa[IsD]using ha
         exact h.ok hS (by simp[IsD])
   | loc n =>
        obtain⟨p,rfl,_⟩:∃p,x=V.ref p/\ι[n]? = some p:=by simpa[IsD]using ha
        exact h.ok hS (by simp[IsD])
   | _=>have e:=ha;simp![IsD]at e;subst e;exact h.ok hS (by simp[IsD])
  ·cases sy hb
   cases(show u=Value.bool _ from ry)
   split at h
   ·cases sy ha
    cases(show v=Value.bool _ from rx)
    exact is_bool I (h.ok hS (by simp[IsD]))
   ·cases(show x=.non by simpa[IsD]using ha)
    cases(show v=Value.none from rx)
    exact tf I (h.ok hS (by simp[IsD]))
   ·exact h.elim
  ·exact h.elim
 | isnot =>
  intro pins s σ H x y v u Q I rx ry ⟨ι,a,b,μ,hS,ha,hb,h⟩
  simp![cpD]at h
  split at h
  ·refine E2 pins s σ H x y v u Q I rx ry ⟨by simpa[IsD]using hb,?_⟩
   cases a with
   | tup ds=>obtain⟨p,xs,rfl,_⟩:=f9 ha;exact h.ok hS (by simp[IsD])
   | lst ds =>
         obtain⟨p,xs,rfl,_⟩:∃p xs,x=V.ref p/\FzL X.K H p xs/\aq X.K ι H ds xs:=by simpa[IsD]using ha
         exact h.ok hS (by simp[IsD])
   | loc n =>
        obtain⟨p,rfl,_⟩:∃p,x=V.ref p/\ι[n]? = some p:=by simpa[IsD]using ha
        exact h.ok hS (by simp[IsD])
   | _=>have e:=ha;simp![IsD]at e;subst e;exact h.ok hS (by simp[IsD])
  ·cases sy hb
   cases(show u=Value.bool _ from ry)
   split at h
   ·cases sy ha
    cases(show v=Value.bool _ from rx)
    exact isnot_bool I (h.ok hS (by simp[IsD]))
   ·cases(show x=.non by simpa[IsD]using ha)
    cases(show v=Value.none from rx)
    exact og I (h.ok hS (by simp[IsD]))
   ·exact h.elim
  ·exact h.elim
 | in_ =>
  intro pins s σ H x y v u Q I rx ry ⟨ι,a,b,μ,hS,ha,hb,h⟩
  simp![cpD]at h
  split at h
  ·rename_i ds e
   obtain⟨p,xs,rfl,hq,hds⟩:=sm hS hb e
   split at h
   ·rename_i hf
    refine z7 pins s σ H _ _ v u Q I rx ry ⟨p,xs,rfl,hq.imp (·.sq) id,vi ha hf.1,qq hds hf.2,?_⟩
    simp![CA,if_false]
    rw[Am ha hf.1 hds hf.2]
    exact h.ok hS (by simp[IsD])
   ·exact h.elim
  ·split at h
   ·rename_i kvs e
    obtain⟨p,q,xs,rfl,rfl,rfl,hp,hk⟩:=Ap hS hb ha e
    cases(show u=Value.ref p from ry)
    refine Qw (by lia) I (Hf.k hp) rx λs' I'=>⟨.bl (wo xs q).isSome,H,I',rfl,?_⟩
    rw[(qr hk).isSome]
    exact h.ok hS (by simp[IsD])
   ·exact h.elim
 | notin =>
  intro pins s σ H x y v u Q I rx ry ⟨ι,a,b,μ,hS,ha,hb,h⟩
  simp![cpD]at h
  split at h
  ·rename_i ds e
   obtain⟨p,xs,rfl,hq,hds⟩:=sm hS hb e
   split at h
   ·rename_i hf
    refine sd pins s σ H _ _ v u Q I rx ry ⟨p,xs,rfl,hq.imp (·.sq) id,vi ha hf.1,qq hds hf.2,?_⟩
    simp![if_true]
    rw[Am ha hf.1 hds hf.2]
    exact h.ok hS (by simp[IsD])
   ·exact h.elim
  ·split at h
   ·rename_i kvs e
    obtain⟨p,q,xs,rfl,rfl,rfl,hp,hk⟩:=Ap hS hb ha e
    cases(show u=Value.ref p from ry)
    refine Fe (by lia) I (Hf.k hp) rx λs' I'=>⟨.bl (!(wo xs q).isSome),H,I',rfl,?_⟩
    rw[(qr hk).isSome]
    exact h.ok hS (by simp[IsD])
   ·exact h.elim
end
open PySem.SeqAt (EqAt RcAt)
section
variable {X : Cx} {φ : Phi} {pins : List (Addr × Obj)} {σ : St} {H : Hp} {s : Shared}
def PCh (X:Cx) (ops:List CmpOp) (es:List Expr) (t:V->TE):Prop :=
 ∀(pos:Pos) (pins:List (Addr×Obj)) (s:Shared) (σ:St) (H:Hp) (Q:VK) (x:V) (v:Value),Inv X pins σ H s->RelV x v->t x σ H Q ->
  wpAny (model X.prog X.w) X.A (compareChain pos v ops (evalEach es X.env)) (EP X pins σ Q) X.xe s
def PTh (X:Cx) (ops:List CmpOp) (es:List Expr) (t:V->TT):Prop :=
 ∀(pos:Pos) (pins:List (Addr×Obj)) (s:Shared) (σ:St) (H:Hp) (Q:Bool->Hp->Prop) (x:V) (v:Value),Inv X pins σ H s->RelV x v->t x σ H Q ->
  wpAny (model X.prog X.w) X.A (testChain pos v ops (evalEach es X.env)) (TP X pins σ Q) X.xe s
def tCh (K:PySem.W.Frag) (φ:Phi) (r:Cps):V->TE:=λx σv H Q=>∃ι σ μ d,Sim K ι H μ/\jx K ι H σ σv/\IsD K ι H d x/\fz K (RD K) ι H (evC φ r d σ μ) Q
def tTh (K:PySem.W.Frag) (φ:Phi) (r:Cps):V->TT:=λx σv H Q=>∃ι σ μ d,Sim K ι H μ/\jx K ι H σ σv/\IsD K ι H d x/\fz K RB ι H ((evC φ r d σ μ).bind λz μ=>Ov z μ) Q
theorem Ar {op:Cp} {xe:Ex} {d:D} {σ:Sl} {μ:Sto}:evC φ (.cons op xe .nil) d σ μ=(evE φ xe σ μ).bind λy μ=>cpD op d y μ:=by
 simp![evC]
 cases evE φ xe σ μ with
 | ok y μ1 =>
  simp![Res.bj]
  cases cpD op d y μ1<;>rfl
 | exc _ _ _=>rfl
 | stuck=>rfl
theorem Cv {op op':Cp} {xe xe':Ex} {r:Cps} {d:D} {σ:Sl} {μ:Sto}:evC φ (.cons op xe (.cons op' xe' r)) d σ μ=(evE φ xe σ μ).bind λy μ=>(cpD op d y μ).bind λz μ=>match z with
  | .bl b=>if b=true then evC φ (.cons op' xe' r) y σ μ else .ok (.bl false) μ
  | _=>.stuck:=by
 rw[evC]
 all_goals rfl
theorem F5 {op:Cp} {e:Expr} {xe:Ex} (ho:OpR X (compareOp (opOf op)) (rOp X.K (cpD op))) (he:PE X e (tE X.K φ xe)):PCh X [opOf op] [e] (tCh X.K φ (.cons op xe .nil)):=by
 intro pos pins s σv H Q x v I rx ⟨ι,σ,μ,d,hS,hL,hd,h⟩
 rw[Ar]at h
 obtain⟨y,μ1,e1,h⟩:=h.bind
 refine chain_last (thn (he pins s σv H (λw H1=>rOp X.K (cpD op) x w H1 Q) I ⟨ι,σ,μ,hS,hL,?_⟩) λu s1 ⟨w,H1,I1,r1,q1⟩=>ho pins s1 σv H1 x w v u Q I1 rx r1 q1)
 rw[e1]
 exact λι1 w H1 p1 x1 s1 d1=>⟨ι1,d,y,μ1,s1,IsD.mono p1 x1 _ _ hd,d1,h.mono p1 x1⟩
theorem F6 {op op':Cp} {e e':Expr} {es:List Expr} {ops:List CmpOp} {xe xe':Ex} {r:Cps} (ho:OpR X (compareOp (opOf op)) (rOp X.K (cpD op))) (he:PE X e (tE X.K φ xe)) (hr:PCh X (opOf op'::ops) (e'::es) (tCh X.K φ (.cons op' xe' r))) :
  PCh X (opOf op::opOf op'::ops) (e::e'::es) (tCh X.K φ (.cons op xe (.cons op' xe' r))):=by
 intro pos pins s σv H Q x v I rx ⟨ι,σ,μ,d,hS,hL,hd,h⟩
 rw[Cv]at h
 obtain⟨y,μ1,e1,h⟩:=h.bind
 refine chain_link (thn (he pins s σv H (λw H1=>rOp X.K (cpD op) x w H1 (λz H2=>∃k,z=.bl k/\if k=true then tCh X.K φ (.cons op' xe' r) w σv H2 Q else Q (.bl false) H2)) I ⟨ι,σ,μ,hS,hL,?_⟩) λu s1 ⟨w,H1,I1,r1,q1⟩ =>
  thn (ho pins s1 σv H1 x w v u _ I1 rx r1 q1) λc s2 ⟨z,H2,I2,r2,k,ek,q2⟩=>?_)
 ·rw[e1]
  intro ι1 w H1 p1 x1 s1 d1
  obtain⟨z,μ2,e2,h⟩:=h.bind
  refine⟨ι1,d,y,μ1,s1,IsD.mono p1 x1 _ _ hd,d1,?_⟩
  rw[e2]
  intro ι2 z' H2 p2 x2 s2 d2
  cases z with
  | bl k =>
   refine⟨k,sy d2,?_⟩
   cases k with
   | true=>exact⟨ι2,σ,μ2,y,s2,(hL.mono p1 x1).mono p2 x2,IsD.mono p2 x2 _ _ d1,(show fz _ _ _ _ (evC φ (.cons op' xe' r) y σ μ2) _ from h).mono (p1.trans p2) (x1.trans x2)⟩
   | false=>exact h ι2 (.bl false) H2 (p1.trans p2) (x1.trans x2) s2 (by simp[IsD])
  | _=>exact h.elim
 ·subst ek
  cases r2
  refine DU ?_
  cases k with
  | false=>exact ite_ff ⟨.bl false,H2,I2,rfl,q2⟩
  | true=>exact ite_tt (hr pos pins s2 σv H2 Q w u I2 r1 q2)
theorem F7 {op:Cp} {e:Expr} {xe:Ex} (ho:OpR X (compareOp (opOf op)) (rOp X.K (cpD op))) (he:PE X e (tE X.K φ xe)):PTh X [opOf op] [e] (tTh X.K φ (.cons op xe .nil)):=by
 intro pos pins s σv H Q x v I rx ⟨ι,σ,μ,d,hS,hL,hd,h⟩
 rw[Ar,Res.bind_assoc]at h
 obtain⟨y,μ1,e1,h⟩:=h.bind
 refine test_last (thn (he pins s σv H (λw H1=>rOp X.K (cpD op) x w H1 (λz H2=>∃k,z=.bl k/\Q k H2)) I ⟨ι,σ,μ,hS,hL,?_⟩) λu s1 ⟨w,H1,I1,r1,q1⟩=>thn (ho pins s1 σv H1 x w v u _ I1 rx r1 q1) λc s2 ⟨z,H2,I2,r2,k,ek,q2⟩=>?_)
 ·rw[e1]
  intro ι1 w H1 p1 x1 s1 d1
  obtain⟨z,μ2,e2,h⟩:=h.bind
  refine⟨ι1,d,y,μ1,s1,IsD.mono p1 x1 _ _ hd,d1,?_⟩
  rw[e2]
  intro ι2 z' H2 p2 x2 s2 d2
  cases z with
  | bl k=>exact⟨k,sy d2,h ι2 k H2 (p1.trans p2) (x1.trans x2) s2 rfl⟩
  | _=>exact h.elim
 ·subst ek
  cases r2
  exact DU ⟨H2,I2,q2⟩
theorem Mv {a:Expr} {xa:Ex} {ops:List CmpOp} {es:List Expr} {r:Cps} {pos:Pos} (ha:PE X a (tE X.K φ xa)) (hr:PCh X ops es (tCh X.K φ r)) (hm:lastMarks ops es=false):PE X (.Compare a ops es pos) (tE X.K φ (.cmp xa r)):=by
 intro pins s σv H Q I ⟨ι,σ,μ,hS,hL,h⟩
 simp![evE]at h
 obtain⟨d,μ1,e1,h⟩:=h.bind
 show wpAny _ _ (do compareChain pos (<-eval a X.env) ops (markedEach ops es (evalEach es X.env))) _ _ _
 rw[markedEach_of_false _ _ _ hm]
 refine AA (thn (ha pins s σv H (λx H1=>tCh X.K φ r x σv H1 Q) I ⟨ι,σ,μ,hS,hL,?_⟩) λv s1 ⟨x,H1,I1,r1,q1⟩=>hr pos pins s1 σv H1 Q x v I1 r1 q1)
 rw[e1]
 exact λι1 x H1 p1 x1 s1 d1=>⟨ι1,σ,μ1,d,s1,hL.mono p1 x1,d1,h.mono p1 x1⟩
theorem Jt {a:Expr} {xa:Ex} {ops:List CmpOp} {es:List Expr} {r:Cps} {pos:Pos} (ha:PE X a (tE X.K φ xa)) (hr:PTh X ops es (tTh X.K φ r)) (hm:lastMarks ops es=false):PT X (.Compare a ops es pos) (tT X.K φ (.cmp xa r)):=by
 intro pins s σv H Q I ⟨ι,σ,μ,hS,hL,h⟩
 simp![evE]at h
 rw[Res.bind_assoc]at h
 obtain⟨d,μ1,e1,h⟩:=h.bind
 show wpAny _ _ (do testChain pos (<-eval a X.env) ops (markedEach ops es (evalEach es X.env))) _ _ _
 rw[markedEach_of_false _ _ _ hm]
 refine AA (thn (ha pins s σv H (λx H1=>tTh X.K φ r x σv H1 Q) I ⟨ι,σ,μ,hS,hL,?_⟩) λv s1 ⟨x,H1,I1,r1,q1⟩=>hr pos pins s1 σv H1 Q x v I1 r1 q1)
 rw[e1]
 exact λι1 x H1 p1 x1 s1 d1=>⟨ι1,σ,μ1,d,s1,hL.mono p1 x1,d1,h.mono p1 x1⟩
theorem Ju {l:Expr} {xl:Ex} {tg:Expr} (hl:PE X l (tE X.K φ xl)):PI X tg l (tI X.K φ (.seq xl)):=by
 intro pins s σv H R I ⟨ι,σ,μ,hS,hL,h⟩
 simp![evI]at h
 cases e1:evE φ xl σ μ with
 | exc _ _ _=>rw[e1]at h;exact h.elim
 | stuck=>rw[e1]at h;exact h.elim
 | ok d μ1 =>
 rw[e1]at h
 simp![Res.bj]at h
 have hq:tE X.K φ xl σv H (λv H1=>∃ι1,ι <+: ι1/\Ext H H1/\Sim X.K ι1 H1 μ1/\IsD X.K ι1 H1 d v):=⟨ι,σ,μ,hS,hL,by rw[e1];exact λι1 v H1 p1 x1 s1 d1=>⟨ι1,p1,x1,s1,d1⟩⟩
 refine thn (hl pins s σv H _ I hq) λu s1 ⟨v,H1,I1,r1,ι1,p1,x1,S1,d1⟩=>?_
 -- a list,at a,whatever its items
 have lst:∀(a:Addr) (xs:List V) (ds:List D) (g:Gd),v=.ref a->LsL X.K H1 a xs->aq X.K ι1 H1 ds xs->(∀ι2 H2 μ2,ι1 <+: ι2->Ext H1 H2->Sim X.K ι2 H2 μ2->gd g μ2->∃ys,LsL X.K H2 a ys/\aq X.K ι2 H2 ds ys) ->
   (∀ι' H' J,ι <+: ι'->Ext H H'->Sim X.K ι' H' μ1->Walk X.K ι' H' J ds g->R J H')->wpAny (model X.prog X.w) X.A (pyIter u) (PIE X pins σv tg R) X.xe s1:=by
  intro a xs ds g ev hls hds stay hR
  subst ev
  cases(show u=Value.ref a from r1)
  obtain⟨its,rv,p,hz⟩:=I1.list hls.sq
  refine GF p.isList ?_
  refine⟨s1.heap.objs.size,[s1.heap.objs.size],_,_,H1,rfl,I1.kept (t':=s1.toks) λb o e=>AC _ e,zt a _,⟨_,AQ _ rfl,rfl,rfl⟩,λb hb=>?_,hR ι1 H1 _ p1 x1 S1 ?_⟩
  ·have e:b=s1.heap.objs.size:=by simpa using hb
   subst e
   exact I1.fpOk (AN _) (I1.hok.fresh (AN _))
  ·refine⟨by rw[<-hds.length];exact hz,λi ι2 H2 μ2 q1 q2 q3 q4 hi=>?_,λi ι2 H2 μ2 w H3 q1 q2 q3 q4 hi hy=>?_,λι2 H2 μ2 q1 q2 q3 q4=>?_⟩
   ·obtain⟨ys,y1,y2⟩:=stay ι2 H2 μ2 q1 q2 q3 q4
    obtain⟨w,e,_⟩:=y2.get (AB hi)
    exact⟨ys,w,y1.sq,e⟩
   ·obtain⟨ys,y1,y2⟩:=stay ι2 H2 μ2 q1 q2 q3 q4
    obtain⟨e,hy⟩:=hy
    subst e
    obtain⟨w',e',q'⟩:=y2.get (AB hi)
    have:=hy ys y1.sq
    rw[e']at this;cases this
    exact⟨.refl _,q3,_,AB hi,q'⟩
   ·obtain⟨ys,y1,y2⟩:=stay ι2 H2 μ2 q1 q2 q3 q4
    exact⟨ys,y1.sq,by rw[y2.length];exact AN _⟩
 cases d with
 | tup ds =>
  simp![cc]at h
  obtain⟨a,xs,rfl,hq,hds⟩:=f9 d1
  cases(show u=Value.ref a from r1)
  obtain⟨its,rv,p,hz⟩:=I1.tuple hq
  refine FZ (show s1.heap.IsTuple a its.toArray from p) ?_
  refine⟨s1.heap.objs.size,[s1.heap.objs.size],_,_,H1,rfl,I1.kept (t':=s1.toks) λb o e=>AC _ e,yd a _,⟨_,AQ _ rfl,rfl,rfl⟩,λb hb=>?_,h ι1 H1 _ p1 x1 S1 ?_⟩
  ·have e:b=s1.heap.objs.size:=by simpa using hb
   subst e
   exact I1.fpOk (AN _) (I1.hok.fresh (AN _))
  ·refine⟨by rw[<-hds.length];exact hz,λi ι2 H2 μ2 q1 q2 q3 q4 hi=>?_,λi ι2 H2 μ2 w H3 q1 q2 q3 q4 hi hy=>?_,λι2 H2 μ2 q1 q2 q3 q4=>?_⟩
   ·obtain⟨w,e,_⟩:=hds.get (AB hi)
    exact⟨xs,w,hq.ext q2,e⟩
   ·obtain⟨e,hy⟩:=hy
    subst e
    obtain⟨w',e',q'⟩:=hds.get (AB hi)
    have:=hy xs (hq.ext q2)
    rw[e']at this;cases this
    exact⟨.refl _,q3,_,AB hi,IsD.mono q1 q2 _ _ q'⟩
   ·exact⟨xs,hq.ext q2,by rw[hds.length];exact AN _⟩
 | lst ds =>
  simp![cc]at h
  obtain⟨a,xs,rfl,hq,hds⟩:∃a xs,v=.ref a/\FzL X.K H1 a xs/\aq X.K ι1 H1 ds xs:=by simpa[IsD]using d1
  exact lst a xs ds none rfl (.inr hq) hds (λι2 H2 μ2 q1 q2 q3 q4=>⟨xs,.inr (hq.ext q2),aq.mono q1 q2 _ _ hds⟩) h
 | loc n =>
  obtain⟨a,rfl,hn⟩:∃a,v=.ref a/\ι1[n]? = some a:=by simpa[IsD]using d1
  have pre:∀{ι2:List Addr},ι1 <+: ι2->ι2[n]? = some a:=λhp=>by
   obtain⟨t,rfl⟩:=hp
   rw[AK (AF.mp hn).1];exact hn
  cases em:μ1[n]? with
  | none=>simp![cc,em]at h
  | some o =>
   simp![cc,em]at h
   cases o with
   | l ds =>
    simp only at h
    obtain⟨a',q',ho⟩:=S1.at em
    rw[hn]at q';cases q'
    obtain⟨xs,f1,f2⟩:=ho
    refine lst a xs ds (some (n,.l ds)) rfl (.inl f1) (aq.mono (CU) (.refl _) _ _ f2) (λι2 H2 μ2 q1 q2 q3 q4=>?_) h
    obtain⟨a2,e2,o2⟩:=q3.at (show μ2[n]? = some (.l ds)from q4)
    rw[pre q1]at e2;cases e2
    obtain⟨ys,g1,g2⟩:=o2
    exact⟨ys,.inl g1,aq.mono (CU) (.refl _) _ _ g2⟩
   | r ds =>
    simp only at h
    obtain⟨a',q',ho⟩:=S1.at em
    rw[hn]at q';cases q'
    obtain⟨xs,f1,f2⟩:=ho
    refine lst a xs ds (some (n,.r ds)) rfl (.inl f1) f2 (λι2 H2 μ2 q1 q2 q3 q4=>?_) h
    obtain⟨a2,e2,o2⟩:=q3.at (show μ2[n]? = some (.r ds)from q4)
    rw[pre q1]at e2;cases e2
    obtain⟨ys,g1,g2⟩:=o2
    exact⟨ys,.inl g1,g2⟩
   | d kvs=>simp only at h
   | dt kvs=>simp only at h
   | x _=>simp only at h
   | dead=>simp only at h
 | _=>simp![cc]at h
theorem yq {K:PySem.W.Frag} {ι:List Addr} {H:Hp} (lo:Int) (n:Nat) (hn:n<=sizeLine):Walk K ι H (Itr lo n) ((List.range n).map fun(k:Nat)=>D.int (lo+k)) none:=by
 refine⟨by simpa using hn,λi ι2 H2 μ2 q1 q2 q3 q4 hi=>by simpa[Itr]using hi,λi ι2 H2 μ2 w H3 q1 q2 q3 q4 hi hy=>?_,λι2 H2 μ2 q1 q2 q3 q4=>by simp[Itr]⟩
 obtain⟨e,hy⟩:=hy
 subst e
 have hi':i<n:=by simpa using hi
 exact⟨.refl _,q3,.int (lo+i),by simp[hi'],by simp[IsD,hy]⟩
theorem Jv {a:Expr} {xa:Ex} {tg:Expr} {p pos:Pos} (hg:Gl X "range") (hm:X.mg "range"=none) (ha:PE X a (tE X.K φ xa)) (hs:starEach [a] X.env=[(false,eval a X.env)]):PI X tg (.Call (.Name "range" p) [a] [] pos) (tI X.K φ (.rng xa)) :=
 PI.imp (zu hg hm (wx ha Ft hs) hs) λσv H R ⟨ι,σ,μ,hS,hL,h⟩=>by
  simp![evI]at h
  refine⟨ι,σ,μ,hS,hL,?_⟩
  simp![fb]
  cases e1:evE φ xa σ μ with
  | exc _ _ _=>rw[e1]at h;exact h.elim
  | stuck=>rw[e1]at h;exact h.elim
  | ok d μ1 =>
   rw[e1]at h
   simp![Res.bj]at h ⊢
   cases d with
   | int j =>
    simp only at h
    by_cases hj:-(lim:Int)<=j/\j<=lim
    ·rw[if_pos hj]at h
     rw[gw]at hj
     have h24:sizeLine=16777216:=FB
     rw[h24]at hj
     intro ι1 vs H1 p1 x1 s1 d1
     have e:vs=[.int j]:=by
      have q:aq X.K ι1 H1 [.int j] vs:=d1
      simp![aq]at q
      obtain⟨v,r,rfl,q1,rfl⟩:=q
      cases dh q1
      rfl
     refine⟨j,e,by lia,by lia,h ι1 H1 _ p1 x1 s1 ?_⟩
     have w:=yq (K:=X.K) (ι:=ι1) (H:=H1) 0 j.toNat (by lia)
     simpa using w
    ·rw[if_neg hj]at h
     exact h.elim
   | _=>exact h.elim
def tm (K:PySem.W.Frag) (f:List D->Sto->Res D):List V->Hp->VK->Prop:=λxs H Q=>∃ι ds μ,Sim K ι H μ/\aq K ι H ds xs/\fz K (RD K) ι H (f ds μ) Q
theorem Ee {K:PySem.W.Frag} {ι:List Addr} {d:D} {xs:List V} (h:aq K ι H [d] xs):∃v,xs=[v]/\IsD K ι H d v:=by
 simp![aq]at h
 obtain⟨v,r,rfl,q,rfl⟩:=h
 exact⟨v,rfl,q⟩
theorem As {K:PySem.W.Frag} {ι:List Addr} {d e:D} {xs:List V} (h:aq K ι H [d,e] xs):∃v w,xs=[v,w]/\IsD K ι H d v/\IsD K ι H e w:=by
 simp![aq]at h
 obtain⟨v,r,rfl,q,w,r2,rfl,q2,rfl⟩:=h
 exact⟨v,w,rfl,q,q2⟩
theorem lj {K:PySem.W.Frag} {ι:List Addr} {ds:List D} {xs:List V} {μ:Sto} {f:D->Sto->Res D} {Q:VK} (hds:aq K ι H ds xs) (h:fz K (RD K) ι H (nt f ds μ) Q) :
  ∃d v,xs=[v]/\IsD K ι H d v/\fz K (RD K) ι H (f d μ) Q:=by
 unfold nt at h
 split at h
 ·rename_i d
  obtain⟨v,rfl,hv⟩:=Ee hds
  exact⟨d,v,rfl,hv,h⟩
 ·exact h.elim
theorem vk {K:PySem.W.Frag} {ι:List Addr} {d:D} {v:V} {μ:Sto} {f:List D->Sto->Res D} {Q:VK} (hS:Sim K ι H μ) (hd:IsD K ι H d v) (h:fz K (RD K) ι H (seq1 f d μ) Q) :
  ∃a xs ds,v=.ref a/\(LsL K H a xs\/SqT K H a xs)/\aq K ι H ds xs/\fz K (RD K) ι H (f ds μ) Q:=by
 unfold seq1 at h
 split at h
 ·rename_i ds e
  obtain⟨a,xs,rfl,hq,hxs⟩:=sm hS hd e
  exact⟨a,xs,ds,rfl,hq,hxs,h⟩
 ·exact h.elim
theorem Cw {K:PySem.W.Frag} {ι:List Addr} {d:D} {v:V} {μ:Sto} {f:List Bool->Sto->Res D} {Q:VK} (hS:Sim K ι H μ) (hd:IsD K ι H d v) (h:fz K (RD K) ι H (Ae f d μ) Q) :
  ∃a ns,v=.ref a/\(LsL K H a (ns.map V.bl)\/SqT K H a (ns.map V.bl))/\fz K (RD K) ι H (f ns μ) Q:=by
 unfold Ae at h
 cases e:c6 μ d with
 | none=>rw[e]at h;exact h.elim
 | some ds =>
  rw[e]at h
  simp![Option.bind_some]at h
  split at h
  ·rename_i ns e2
   obtain⟨a,xs,rfl,hq,hxs⟩:=sm hS hd e
   rw[xg hxs e2]at hq
   exact⟨a,ns,rfl,hq,h⟩
  ·exact h.elim
theorem bt_len {m:Mk}:d0 X (.builtin "len") (tm X.K (btD .len m)):=d0.imp se λxs H Q ⟨ι,ds,μ,hS,hds,h⟩=>by
 obtain⟨d,v,rfl,hv,h⟩:=lj hds h
 obtain⟨a,xs,es,rfl,hq,hxs,h⟩:=vk hS hv h
 exact⟨a,xs,rfl,hq.imp (·.sq) id,by rw[hxs.length];exact h.ok hS (by simp[IsD])⟩
theorem bt_tuple {m:Mk}:d0 X (.type "tuple") (tm X.K (btD .tuple m)):=d0.imp kc λxs H Q ⟨ι,ds,μ,hS,hds,h⟩=>by
 obtain⟨d,v,rfl,hv,h⟩:=lj hds h
 obtain⟨a,xs,es,rfl,hq,hxs,h⟩:=vk hS hv h
 refine⟨a,xs,rfl,?_⟩
 rcases hq with hq | hq
 ·exact .inl ⟨hq.sq,λl hl=>qo hS hxs h hl⟩
 ·exact .inr ⟨hq,h.ok hS (tup_is hq hxs)⟩
theorem bt_list {m:Mk}:d0 X (.type "list") (tm X.K (btD .list m)):=d0.imp (d0.fq sf) λxs H Q ⟨ι,ds,μ,hS,hds,h⟩=>by
 obtain⟨d,v,rfl,hv,h⟩:=lj hds h
 obtain⟨a,xs,es,rfl,hq,hxs,h⟩:=vk hS hv h
 exact⟨a,xs,rfl,hq.imp (·.sq) id,λl hl=>j6 hS hxs h hl⟩
theorem bt_min {m:Mk} (hc:X.calm=true):d0 X (.builtin "min") (tm X.K (btD .min m)):=d0.imp (zx hc) λxs H Q ⟨ι,ds,μ,hS,hds,h⟩=>by
 simp![btD,minD]at h
 split at h
 ·rename_i i j
  obtain⟨v,w,rfl,hv,hw⟩:=As hds
  cases dh hv
  cases dh hw
  exact⟨i,j,rfl,h.ok hS (by simp[IsD])⟩
 ·exact h.elim
theorem bt_max {m:Mk} (hc:X.calm=true):d0 X (.builtin "max") (tm X.K (btD .max m)):=d0.imp (zw hc) λxs H Q ⟨ι,ds,μ,hS,hds,h⟩=>by
 simp![btD,maxD]at h
 split at h
 ·rename_i i j
  obtain⟨v,w,rfl,hv,hw⟩:=As hds
  cases dh hv
  cases dh hw
  exact⟨i,j,rfl,h.ok hS (by simp[IsD])⟩
 ·exact h.elim
theorem Jw {m:Mk}:d0 X (.type "int") (tm X.K (btD .int m)):=d0.imp zy λxs H Q ⟨ι,ds,μ,hS,hds,h⟩=>by
 obtain⟨d,v,rfl,hv,h⟩:=lj hds h
 unfold D9 at h
 split at h
 ·rename_i b
  cases sy hv
  exact .inr ⟨b,rfl,h.ok hS (by simp[IsD])⟩
 ·rename_i i
  cases dh hv
  exact .inl ⟨i,rfl,h.ok hS (by simp[IsD])⟩
 ·exact h.elim
theorem Cy {A:Around} {E:Value->Shared->Prop} {a:Addr} {xs:List V} (I:Inv X pins σ H s) (hq:LsL X.K H a xs\/SqT X.K H a xs) (hh:A.handled=none) {Q:Value->Shared->Prop}
  (h:∀(it:Addr) (fp:List Addr) (its:List Value) St s2,bw xs its->Walks X.prog X.w A it fp [it] its.length (λi v=>its[i]? = some v) St->St 0 s2.heap->(∀b∈fp,b<s2.heap.objs.size) ->
   (∀h' tk,(∀b o,b∉[it]->s2.heap.get? b=some o->h'.get? b=some o)->Inv X pins σ H {s2 with heap:=h',toks:=tk})->Q (.ref it) s2) :
  wpAny (model X.prog X.w) A (pyIter (.ref a)) Q E s:=by
 have fin:∀(ob:Obj) (h':Heap) (tk:Nat),(∀b o,b∉[s.heap.objs.size]->(s.heap.push ob).get? b=some o->h'.get? b=some o)->Inv X pins σ H {s with heap:=h',toks:=tk}:=λob h' tk hk =>
  I.kept λb u e=>hk b u (by simp;exact AM (AH e)) (AC _ e)
 rcases hq with hq | hq
 ·obtain⟨z,its,n,hv,hl,hg⟩:=I.ls hq
  have hil:s.heap.IsList a its.toArray:=⟨_,hg,rfl,n,rfl⟩
  refine GF hil ?_
  have hne:a≠s.heap.objs.size:=AM (AH hg)
  have W:=Walks.list (prog:=X.prog) (w:=X.w) (A:=A) hh s.heap.objs.size a hne its.toArray
  simp![AE,EW]at W
  refine h s.heap.objs.size _ its _ _ hv W ⟨⟨_,AQ _ rfl,rfl,rfl⟩,hil.at λo e=>AC _ e⟩ (λb hb=>?_) (λh' tk hk=>fin _ h' tk hk)
  simp![AJ,BP,or_false]at hb
  rw[CO]
  rcases hb with rfl | rfl
  ·exact EY _
  ·exact EM (AH hg)
 ·obtain⟨its,hv,ht,hz⟩:=I.tuple hq
  have hit:s.heap.IsTuple a its.toArray:=ht
  refine FZ hit ?_
  obtain⟨o,ho,_⟩:=id hit
  have hne:a≠s.heap.objs.size:=AM (AH ho)
  have W:=Walks.tuple (prog:=X.prog) (w:=X.w) (A:=A) hh s.heap.objs.size a hne its.toArray
  simp![AE,EW]at W
  refine h s.heap.objs.size _ its _ _ hv W ⟨⟨_,AQ _ rfl,rfl,rfl⟩,hit.at λo e=>AC _ e⟩ (λb hb=>?_) (λh' tk hk=>fin _ h' tk hk)
  simp![AJ,BP,or_false]at hb
  rw[CO]
  rcases hb with rfl | rfl
  ·exact EY _
  ·exact EM (AH ho)
theorem all_range (bs:List Bool):(List.range bs.length).all (λi=>bs.getD i false)=bs.all id:=by
 induction bs with
 | nil=>rfl
 | cons b r ih=>rw[BJ,GY,AY,CN,AY];exact congrArg _ ih
theorem Cz {A:Around} {bs:List Bool} {its:List Value} (hvs:bw (bs.map V.bl) its):TruthOf X.prog X.w A (λi v=>its[i]? = some v) (λi=>bs.getD i false):=by
 intro i v s Q E e q
 have hl:bs.length=its.length:=by have:=hvs.length;simpa using this
 have hi:i<bs.length:=by rw[hl];exact(AF.mp e).1
 obtain⟨u',e1,e2⟩:=hvs.get (i:=i) (x:=.bl bs[i]) (by simp[AB hi])
 rw[e]at e1;cases e1
 cases(show v=Value.bool bs[i]from e2)
 refine DU ?_
 simpa[DZ,AB hi]using q
theorem bt_all {m:Mk} (hc:X.calm=true):d0 X (.builtin "all") (tm X.K (btD .all m)):=by
 intro pins s σ H xs us Q I r ⟨ι,ds,μ,hS,hds,h⟩
 obtain⟨d,v,rfl,hv,h⟩:=lj hds h
 obtain⟨a,bs,rfl,hq,h⟩:=Cw hS hv h
 obtain⟨u,rfl,ru⟩:=vals1 r
 cases(show u=Value.ref a from ru)
 refine call_all_walk (Cy I hq (show X.A.in1.handled=none from I.ok.hd hc) λit fp its St s2 hvs W st hfp hI=>?_)
 have hl:bs.length=its.length:=by have:=hvs.length;simpa using this
 refine⟨it,fp,[it],its.length,_,St,λi=>bs.getD i false,rfl,W,st,Cz hvs,λh' tk hk=>?_⟩
 refine⟨.bl (bs.all id),H,hI h' tk hk,?_,h.ok hS (by simp[IsD])⟩
 rw[<-hl,all_range]
 rfl
end
theorem vm {prog:Program} {w:World} {A:Around} {E:Value->Shared->Prop} {s:Shared} {t sl:Addr} {items:Array Value} {vl vu:Value} {lo hi:Option Int} {Q:Value->Shared->Prop} (ht:IsTup s.heap t items) (hs:s.heap.IsSliceOf sl vl vu .none) (pl:IsPart vl lo) (pu:IsPart vu hi)
  (hw:HT.sIx items.size 0 lo=0/\HT.sIx items.size items.size hi=items.size) (h:Q (.ref t) s):wpAny (model prog w) A (getItem (.ref t) (.ref sl)) Q E s:=by
 obtain⟨os,hos,hcs,hds⟩:=id hs
 have hTs:s.TypeIs (.ref sl) "slice":=⟨os,hos,hcs⟩
 unfold getItem
 try with_reducible refine DO ?_
 first | refine AA (AI ?_) | skip
 refine AA (wpAny_sequenceKey ht.typeIs (by decide) ?_)
 refine AA (CC (name:=Str.ofString "__getitem__") ht.typeIs BN
  (DG BN ht.typeIs entry_tuple_getitem ?_ (args_tuple_getitem _ _)))
 show wpAny _ _ (Builtin.Tuple.tupleItemsOf (.ref t)>>=_) _ _ s
 refine AA (tupleItemsOf_ ht ?_)
 refine AA (GW hTs ?_)
 rw[if_pos (by decide)]
 refine AA (HT.jc hs pl pu ?_)
 have hyes:(((HT.sIx items.size 0 lo:Nat):Int)==0&&(1:Int)==1&&(HT.sIx items.size items.size hi-HT.sIx items.size 0 lo)==items.size)=true:=by
  rw[hw.1,hw.2];simp
 show wpAny _ _ (if(((HT.sIx items.size 0 lo:Nat):Int)==0&&(1:Int)==1&&(HT.sIx items.size items.size hi-HT.sIx items.size 0 lo)==items.size)=true then _ else _) _ _ s
 rw[if_pos hyes]
 refine AA ?_
 unfold Builtin.Tuple.tupleIsExact
 refine AA (GW ht.typeIs (AI ?_))
 rw[if_pos (by decide)]
 exact AA (GZ (AI ⟨_,rfl,AI h⟩))
section
variable {X : Cx} {φ : Phi} {pins : List (Addr × Obj)} {σ : St} {H : Hp} {s : Shared}
theorem Mw {m:Mk}:SlR X (λx lo hi H Q=>∃ι d μ,Sim X.K ι H μ/\IsD X.K ι H d x/\fz X.K (RD X.K) ι H (slD m d lo hi μ) Q):=by
 intro pins s σ H x v vl vu lo hi sl Q I rx hs pl pu ⟨ι,d,μ,hS,hd,h⟩
 unfold slD at h
 split at h
 ·rename_i ds
  obtain⟨a,xs,rfl,hq,hxs⟩:=f9 hd
  by_cases hw:HT.sIx xs.length 0 lo=0/\HT.sIx xs.length xs.length hi=xs.length
  ·cases(show v=Value.ref a from rx)
   obtain⟨its,r,ht,hz⟩:=I.tuple hq
   have hlen:its.toArray.size=xs.length:=by rw[AE];exact r.length.symm
   refine⟨"tuple",_,BN.lookup,ht.typeIs,vm ht hs pl pu (by rw[hlen];exact hw) ⟨.ref a,H,I,rfl,h.ok hS ?_⟩⟩
   have e1:∀n d o,Lp.sIx n d o=HT.sIx n d o:=λn d o=>by cases o<;>rfl
   have ec:cut ds lo hi=ds:=by
    unfold cut
    rw[e1,e1,<-hxs.length,hw.1,hw.2]
    simp[hxs.length]
   rw[ec]
   exact hd
  ·exact Ih pins s σ H _ v vl vu lo hi sl Q I rx hs pl pu ⟨a,xs,rfl,hq,hw,λp hp=>qo hS (Ed hxs lo hi) h hp⟩
 ·split at h
  ·rename_i es
   obtain⟨a,xs,rfl,ha,hxs⟩:=k8 hS hd es
   exact SlR.fq E9 pins s σ H _ v vl vu lo hi sl Q I rx hs pl pu ⟨a,xs,rfl,ha.sq,λp hp=>j6 hS (Ed hxs lo hi) h hp⟩
  ·exact h.elim
theorem PO.imp {e:Option Expr} {t t':TO} (h:PO X e t) (i:∀σ H Q,t' σ H Q->t σ H Q):PO X e t':=by
 intro pins s σ H Q I q
 exact h pins s σ H Q I (i _ _ _ q)
theorem Q9:PO X none (tEo X.K φ .no):=PO.imp E5 λσv H Q ⟨ι,σ,μ,hS,hL,h⟩=>by
 simp![evO]at h
 exact h.ok hS rfl
theorem Ra {e:Expr} {x:Ex} (he:PE X e (tE X.K φ x)):PO X (some e) (tEo X.K φ (.so x)):=PO.imp (E6 he) λσv H Q ⟨ι,σ,μ,hS,hL,h⟩=>by
 simp![evO]at h
 obtain⟨d,μ1,e1,h⟩:=h.bind
 refine⟨ι,σ,μ,hS,hL,?_⟩
 rw[e1]
 intro ι1 v H1 p1 x1 s1 d1
 cases d with
 | int i=>exact⟨i,dh d1,h ι1 (some i) H1 p1 x1 s1 rfl⟩
 | _=>exact h.elim
theorem Rb {e:Expr} {lo hi:Option Expr} {x:Ex} {xl xh:ExO} {m:Mk} {p2 pos:Pos} (he:PE X e (tE X.K φ x)) (hl:PO X lo (tEo X.K φ xl)) (hh:PO X hi (tEo X.K φ xh)):PE X (.Subscript e (.Slice lo hi none p2) pos) (tE X.K φ (.sl m x xl xh)) :=
 PE.imp (Bz Mw he hl hh) λσv H Q ⟨ι,σ,μ,hS,hL,h⟩=>by
  simp![evE]at h
  obtain⟨d,μ1,e1,h⟩:=h.bind
  refine⟨ι,σ,μ,hS,hL,?_⟩
  rw[e1]
  intro ι1 v H1 p1 x1 s1 d1
  obtain⟨l,μ2,e2,h⟩:=h.bind
  refine⟨ι1,σ,μ1,s1,hL.mono p1 x1,?_⟩
  rw[e2]
  intro ι2 l' H2 p2 x2 s2 d2
  cases d2
  obtain⟨u,μ3,e3,h⟩:=h.bind
  refine⟨ι2,σ,μ2,s2,(hL.mono p1 x1).mono p2 x2,?_⟩
  rw[e3]
  intro ι3 u' H3 p3 x3 s3 d3
  cases d3
  exact⟨ι3,d,μ3,s3,IsD.mono p3 x3 _ _ (IsD.mono p2 x2 _ _ d1),h.mono ((p1.trans p2).trans p3) ((x1.trans x2).trans x3)⟩
theorem Ef {K:PySem.W.Frag} {ι:List Addr} {μ:Sto} {n:Nat} {v:V} {ob:O} {xs:List D} (hS:Sim K ι H μ) (hd:IsD K ι H (.loc n) v) (e:μ[n]? = some ob) (hi:gv ob=some xs) :
  ∃a vs,v=.ref a/\ι[n]? = some a/\H a=some (.lst vs)/\aq K ι H xs vs/\(∀ds,ob=.l ds->aq K [] H xs vs):=by
 obtain⟨a,rfl,ha⟩:∃a,v=.ref a/\ι[n]? = some a:=by simpa[IsD]using hd
 obtain⟨a',ea,ho⟩:=hS.at e
 rw[ha]at ea;cases ea
 cases ob with
 | l ds =>
  cases hi
  obtain⟨vs,e1,e2⟩:=ho
  exact⟨a,vs,rfl,ha,e1,aq.mono (CU) (.refl _) _ _ e2,λ_ _=>e2⟩
 | r ds =>
  cases hi
  obtain⟨vs,e1,e2⟩:=ho
  exact⟨a,vs,rfl,ha,e1,e2,λ_ z=>by cases z⟩
 | d _=>cases hi
 | dt _=>cases hi
 | x _=>cases hi
 | dead=>cases hi
theorem kg {K:PySem.W.Frag} {ι:List Addr} {μ:Sto} {n:Nat} {ob:O} {ys:List D} {vs ws:List V} {d:D} {v:V} {a:Addr} {Q:VK} (hS:Sim K ι H μ) (ha:ι[n]? = some a) (hH:H a=some (.lst vs))
  (hw:aq K ι H ys ws) (hw0:∀ds,ob=.l ds->aq K [] H ys ws) (hd:IsD K ι H d v) (h:fz K (RD K) ι H (putL n ob ys d μ) Q):Q v (upd H a (.lst ws)):=by
 cases ob with
 | l ds =>
  exact h ι v _ (AD _) (.lst hH) (hS.put ha (.lst hH) ⟨ws,br,aq.mono (AD _) (.lst hH) _ _ (hw0 ds rfl)⟩) (IsD.mono (AD _) (.lst hH) _ _ hd)
 | r ds =>
  exact h ι v _ (AD _) (.lst hH) (hS.put ha (.lst hH) ⟨ws,br,aq.mono (AD _) (.lst hH) _ _ hw⟩) (IsD.mono (AD _) (.lst hH) _ _ hd)
 | d _=>exact h.elim
 | dt _=>exact h.elim
 | x _=>exact h.elim
 | dead=>exact h.elim
theorem oi {K:PySem.W.Frag} {ι:List Addr} {ob:O} {d:D} {v:V} (hf:fits ob d=true) (hd:IsD K ι H d v):∀ds,ob=.l ds->IsD K [] H d v:=λds e=>by
 subst e
 exact IsD.pur hf hd
def rMt (K:PySem.W.Frag) (mt:Mt):V->List V->Hp->VK->Prop:=λx vs H Q=>∃ι d ds μ,Sim K ι H μ/\IsD K ι H d x/\aq K ι H ds vs/\fz K (RD K) ι H (mtD mt d ds μ) Q
theorem F8 {mt:Mt} (hne:mt≠.count/\mt≠.countL/\mt≠.get) {x:V} {vs:List V} {Q:VK} (h:rMt X.K mt x vs H Q):∃ι n ob xs ds μ a ws,Sim X.K ι H μ/\aq X.K ι H ds vs/\x=.ref a/\ι[n]? = some a/\H a=some (.lst ws)/\aq X.K ι H xs ws /\
  (∀es,ob=.l es->aq X.K [] H xs ws)/\fz X.K (RD X.K) ι H (mtL mt n ob xs ds μ) Q:=by
 obtain⟨ι,d,ds,μ,hS,hd,hds,h⟩:=h
 have e0:mtD mt d ds μ=sj mt d ds μ:=by
  cases mt<;>first | exact absurd rfl hne.1 | exact absurd rfl hne.2.1 | exact absurd rfl hne.2.2 | rfl
 rw[e0]at h
 cases d with
 | loc n =>
  simp![sj]at h
  cases em:μ[n]? with
  | none=>rw[em]at h;exact h.elim
  | some ob =>
   rw[em]at h
   simp only at h
   cases ei:gv ob with
   | none=>rw[ei]at h;exact h.elim
   | some xs =>
    rw[ei]at h
    obtain⟨a,ws,ex,ha,hH,h1,h2⟩:=Ef hS hd em ei
    exact⟨ι,n,ob,xs,ds,μ,a,ws,hS,hds,ex,ha,hH,h1,h2,h⟩
 | _=>exact h.elim
theorem C0:MtR X "list.append" (rMt X.K .append):=MtR.imp z8 λx vs H Q h0=>by
 obtain⟨ι,n,ob,xs,ds,μ,a,ws,hS,hds,rfl,ha,hH,h1,h2,h⟩:=F8 (by decide) h0
 clear h0
 simp![mtL]at h
 obtain⟨d,v,rfl,hv,h⟩:=lj hds h
 split at h
 ·rename_i hf
  rw[gw]at hf
  refine⟨a,ws,v,rfl,rfl,hH,by rw[h1.length];exact hf.2,kg hS ha hH (h1.append (.one hv)) (λes e=>(h2 es e).append (.one (oi hf.1 hv es e))) (by simp[IsD]) h⟩
 ·exact h.elim
theorem Jx:MtR X "list.pop" (rMt X.K .pop):=by
 intro pins s σ H x vs v us Q I rx rv h0
 obtain⟨ι,n,ob,xs,ds,μ,a,ws,hS,hds,rfl,ha,hH,h1,h2,h⟩:=F8 (by decide) h0
 clear h0
 simp![mtL]at h
 split at h
 ·have e:vs=[]:=by simpa[aq]using hds
  subst e
  split at h
  ·rename_i d ed
   have hl:xs[xs.length-1]? = some d:=by rw[<-List.getLast?_eq_getElem?];exact ed
   obtain⟨w,ew,hw⟩:=h1.get hl
   refine Ip pins s σ H _ _ v us Q I rx rv ⟨a,ws,w,rfl,rfl,hH,by rw[h1.length];exact ew,kg hS ha hH h1.dropLast (λes e=>(h2 es e).dropLast) hw h⟩
  ·exact h.elim
 ·rename_i i
  obtain⟨w0,rfl,hw0⟩:=Ee hds
  cases dh hw0
  split at h
  ·rename_i hi
   rw[gw]at hi
   have h24:sizeLine=16777216:=FB
   rw[h24]at hi
   split at h
   ·rename_i d ed
    obtain⟨w,ew,hw⟩:=h1.get ed
    have hlt:i.toNat<xs.length:=(AF.mp ed).1
    refine B2 pins s σ H _ _ v us Q I rx rv ⟨a,ws,i,i.toNat,w,rfl,rfl,hH,by lia,by lia,?_,ew,kg hS ha hH (h1.eraseIdx _) (λes e=>(h2 es e).eraseIdx _) hw h⟩
    rw[h1.length]
    exact PySem.StrLaws.seqIndex_nonneg hi.1 (by lia)
   ·exact h.elim
  ·exact h.elim
 ·exact h.elim
end
theorem IsD.belowN {K:PySem.W.Frag} {ι ι':List Addr} {H:Hp} (hp:ι <+: ι'):∀(k:Nat) (d:D) (v:V),D.belowN ι.length k d=true->IsD K ι' H d v->IsD K ι H d v:=by
 have list:∀(k:Nat),(∀(d:D) (v:V),D.belowN ι.length k d=true->IsD K ι' H d v->IsD K ι H d v) ->
   ∀(ds:List D) (xs:List V),ds.all (D.belowN ι.length k)=true->aq K ι' H ds xs->aq K ι H ds xs:=by
  intro k ih ds
  induction ds with
  | nil=>intro xs _ h;simpa[aq]using h
  | cons d ds ihd =>
   intro xs hp h
   simp![aq]at h ⊢
   simp![AY,AW]at hp
   obtain⟨v,r,e,q,t⟩:=h
   exact⟨v,r,e,ih d v hp.1 q,ihd r hp.2 t⟩
 have loc:∀(n:Nat) (v:V),n<ι.length->IsD K ι' H (.loc n) v->IsD K ι H (.loc n) v:=λn v hn h=>by
  simp![IsD]at h ⊢
  obtain⟨a,e,q⟩:=h
  obtain⟨t,rfl⟩:=hp
  rw[AK hn]at q
  exact⟨a,e,q⟩
 intro k
 induction k with
 | zero =>
  intro d v hb h
  cases d with
  | loc n=>exact loc n v (by simpa[D.belowN]using hb) h
  | tup ds=>simp[D.belowN]at hb
  | lst ds=>simp[D.belowN]at hb
  | _=>simpa[IsD]using h
 | succ k ih =>
  intro d v hb h
  cases d with
  | tup ds =>
   simp![D.belowN]at hb
   simp![IsD]at h ⊢
   obtain⟨a,xs,e,q,r⟩:=h
   exact⟨a,xs,e,q,list k ih ds xs hb r⟩
  | lst ds =>
   simp![D.belowN]at hb
   simp![IsD]at h ⊢
   obtain⟨a,xs,e,q,r⟩:=h
   exact⟨a,xs,e,q,list k ih ds xs hb r⟩
  | loc n=>exact loc n v (by simpa[D.belowN]using hb) h
  | _=>simpa[IsD]using h
theorem aq.belowN {K:PySem.W.Frag} {ι ι':List Addr} {H:Hp} (hp:ι <+: ι') {k:Nat}:∀(ds:List D) (xs:List V),ds.all (D.belowN ι.length k)=true->aq K ι' H ds xs->aq K ι H ds xs
 | [],xs,_,h=>by simpa[aq]using h
 | d::ds,xs,hb,h=>by
  simp![aq]at h ⊢
  simp![AY,AW]at hb
  obtain⟨v,r,e,q,t⟩:=h
  exact⟨v,r,e,IsD.belowN hp k d v hb.1 q,aq.belowN hp ds r hb.2 t⟩
theorem Sim.cut {K:PySem.W.Frag} {ι ι':List Addr} {H:Hp} {μ:Sto} (h:Sim K ι' H μ) (hp:ι <+: ι') (hc:(μ.take ι.length).all (dj ι.length)=true):Sim K ι H (μ.take ι.length):=by
 have hl:ι.length<=μ.length:=by rw[<-h.len];exact hp.length_le
 refine⟨by rw[DF];lia,hp.sublist.nodup h.nd,λn a o e1 e2=>?_⟩
 have hn:n<ι.length:=(AF.mp e1).1
 have e1':ι'[n]? = some a:=by
  obtain⟨t,rfl⟩:=hp
  rw[AK hn];exact e1
 have e2':μ[n]? = some o:=by
  rw[GI hn]at e2;exact e2
 have q:=h.obj n a o e1' e2'
 have c:dj ι.length o=true:=AO.mp hc o (AV e2)
 cases o with
 | l ds=>exact q
 | r ds =>
  obtain⟨xs,e,r⟩:=q
  exact⟨xs,e,aq.belowN hp ds xs c r⟩
 | d kvs=>exact q
 | dt kvs=>exact q
 | x c=>exact q
 | dead=>exact q
theorem tq {K:PySem.W.Frag} {ι:List Addr} {H:Hp} {μ:Sto} {keep:Bool} {r:Res D} {Q:VK} (hS:Sim K ι H μ) (h:fz K (RD K) ι H (nu keep μ.length r) Q):fz K (RD K) ι H r Q:=by
 cases r with
 | exc c ds μ'=>exact h
 | stuck=>exact h
 | ok d μ' =>
  cases keep with
  | true=>simpa[nu]using h
  | false =>
   simp![nu,CA,if_false]at h
   split at h
   ·rename_i hc
    rw[<-hS.len]at hc h
    exact λι' v H' p e s q=>h ι v H' (AD _) e (s.cut p hc.2) (IsD.belowN p 8 d v hc.1 q)
   ·exact h.elim
def spD (K:PySem.W.Frag) (φ:Phi) (f:Nat):Sp:=λvs H Q _=>∃ι ds μ,Sim K ι H μ/\aq K ι H ds vs/\fz K (RD K) ι H (φ f ds μ) Q
def Callee (P:Program) (w:World) (K:PySem.W.Frag) (mg:Str->Option Value) (base:Heap) (A:Around) (φ:Phi) (f:Nat) (x:Str):Prop :=
 ∃(k:Nat) (fa:Addr) (fd:FuncData) (ps:List Str),FnOk P w K mg base CX0 k fa fd ps (spD K φ f)/\Room k A/\mg x=some (.ref fa)/\PySem.W.keepIn K (.ref fa)=true/\Binds K fd ps []
section
variable {X : Cx} {φ : Phi} {x : Str} {p pos : Pos} {e : Expr} {es : List Expr} {xs : Exs} {f : Nat} {keep : Bool}
theorem s_call (C:Callee X.prog X.w X.K X.mg X.base X.A φ f x) (hg:Gl X x) (ha:PA X (e::es) (tEs X.K φ xs)) (hdb:(x==("__debug__":Str))=false)
  (he:starEach (e::es) X.env=(false,eval e X.env)::starEach es X.env) (hpl:(backTo pos (starEach es X.env)).any (·.1)=false):PE X (.Call (.Name x p) (e::es) [] pos) (tE X.K φ (.call keep f xs)):=by
 obtain⟨k,fa,fd,ps,F,hr,hm,hk,hb⟩:=C
 refine PE.imp (E3 F hr hg hm hk hb .nil Lz ha hdb he hpl) λσv H Q ⟨ι,σ,μ,hS,hL,h⟩=>?_
 simp![evE]at h
 obtain⟨ds,μ1,e1,h⟩:=h.bind
 refine⟨ι,σ,μ,hS,hL,?_⟩
 rw[e1]
 intro ι1 vs H1 p1 x1 s1 d1
 exact⟨ι1,ds,μ1,s1,by rw[BD];exact d1,tq s1 (h.mono p1 x1)⟩
end
theorem Ga {P:Program} {w:World} {K:PySem.W.Frag} {mg:Str->Option Value} {base:Heap} {x qual:Str} {st:Stmt} {fa:Addr} {fd:FuncData} {N ps:List Str} {n f:Nat} {T:List Df} {df:Df} (F:Fun K x qual st fa fd) (S:FnScope N ps (ao st))
  (hd:T[f]? = some df) (hnp:df.np=ps.length) (hnn:df.nn=N.length)
  (hb:∀(cdv:Value) (A:Around) (outer:List Env) (s:Shared) (H:Hp) (E:XK),Room n (A.deeper (envOfC qual (ao st) s.heap.objs.size fa cdv)) ->
   PSs (my CX0 P w K mg base N qual (ao st) fa cdv A outer s H E).nox (dn st) (tSs K (ai T n) df.body)):FnOk P w K mg base CX0 (n+1) fa fd ps (spD K (ai T (n+1)) f):=by
 have len:∀{vs:List V} {H:Hp} {ds:List D} {ι:List Addr} {μ:Sto} {Q:VK},aq K ι H ds vs->fz K (RD K) ι H (ai T (n+1) f ds μ) Q->ds.length=df.np:=λ{vs H ds ι μ Q} hds h=>by
  simp![ai,hd,Bo]at h
  split at h
  ·assumption
  ·exact h.elim
 refine F.ok S (λvs H Q E ⟨ι,ds,μ,hS,hds,h⟩=>?_) λcdv A outer s H vs Q E hr ⟨ι,ds,μ,hS,hds,h⟩=>⟨_,hb cdv A outer s H E hr,?_⟩
 ·rw[hds.length,len hds h,hnp]
 ·have hl:=len hds h
  refine⟨ι,ds.map some++List.replicate (df.nn-df.np) none,μ,hS,λi d e=>?_,?_,?_⟩
  ·by_cases hi:i<ds.length
   ·rw[AK (by simpa using hi),AU]at e
    cases ed:ds[i]? with
    | none=>rw[ed]at e;cases e
    | some d' =>
     rw[ed]at e
     simp![FI,BF]at e
     subst e
     obtain⟨v,ev,hv⟩:=hds.get ed
     refine⟨v,?_,hv⟩
     unfold L2.start
     rw[AK (by rw[AG,hds.length];exact hi),AU,ev]
     rfl
   ·rw[BK (by simpa using hi),CB]at e
    split at e<;>cases e
  ·unfold L2.start
   simp![BM,AG,ES,hds.length]
   lia
  ·simp![ai,hd,Bo,if_pos hl]at h
   cases er:gu (ai T n) df.body (ds.map some++List.replicate (df.nn-df.np) none) μ with
   | exc c es μ'=>rw[er]at h;exact h.elim
   | stuck=>rw[er]at h;exact h.elim
   | ok fl μ' =>
    rw[er]at h
    simp![Res.bj]at h
    cases fl with
    | nx σ'=>exact λι' σv H' p e s' l z=>h ι' .non H' p e s' (by simp[IsD])
    | rt d=>exact λι' v H' p e s' q=>h ι' v H' p e s' q
    | bk σ'=>exact h.elim
    | ct σ'=>exact h.elim
theorem Gb {P:Program} {w:World} {K:PySem.W.Frag} {mg:Str->Option Value} {base:Heap} {fa:Addr} {fd:FuncData} {ps:List Str} {f:Nat} {T:List Df}:FnOk P w K mg base CX0 0 fa fd ps (spD K (ai T 0) f) :=
 ⟨λvs H Q E ⟨ι,ds,μ,hS,hds,h⟩=>h.elim,λA outer s H args us vs Q E hr he hb hv ⟨ι,ds,μ,hS,hds,h⟩=>h.elim⟩
structure Ent where
 id:Nat
 name:Str
 st:Stmt
 N:List Str
 ps:List Str
 df:Df
structure ModOf (K:PySem.W.Frag) (mg:Str->Option Value) (e:Ent):Prop where
 ex:∃(fa:Addr) (fd:FuncData),mg e.name=some (.ref fa)/\Fun K e.name e.name e.st fa fd/\∀us:List Value,us.length=e.ps.length->bindArgs fd ⟨us,[]⟩=pure (e.ps.zip us)
theorem di {K:PySem.W.Frag} {h:Heap} {mg:Str->Option Value} {e:Ent} {f:Addr} {oc:Value} {od an:Option Addr} {sl:Array (Option Value)} {kV dc pm cd ct:Value} (X:K.In h) (G:h.Ns mainGlobals mg) (a:PySem.W.nsIn K mainGlobals e.name=some (some (.ref f)))
  (l:K.lookup f=some ⟨oc,od,.func (PySem.W.fnOf e.name e.name (nj e.st) (dn e.st) (ao e.st) .none kV dc pm an cd ct),sl⟩) (c:PySem.W.codeIn K cd e.name=true) (k:PySem.W.keepIn K (.ref f)=true)
  (hb:∀(kV doc pm:Value) (an:Option Addr) (cdv ct:Value) (us:List Value),us.length=e.ps.length->bindArgs (PySem.W.fnOf e.name e.name (nj e.st) (dn e.st) (ao e.st) .none kV doc pm an cdv ct) ⟨us,[]⟩=pure (e.ps.zip us)):ModOf K mg e :=
 ⟨f,_,DP X G a,Iu l c k,hb kV dc pm an cd ct⟩
def C2 (K:PySem.W.Frag):Sp:=λvs H Q _=>∃(a:Addr) (ns:List Int),vs=[.ref a]/\FzL K H a (ns.map V.int)/\ns.length<=63/\∀H',Q (.bl true) H'
theorem C3 {l:PySem.W.OpenLaw} {n:Nat} {q:Program} {loose:List Str} {XP:(Str->Option Value)->Heap->Prop} {YP:World->Heap->Prop} {d:DefRec} {K:Params->PySem.W.Frag} (hr:Room n callerA) (hn:l.most=some 63) (hdf:d.params.defaults=[])
  (hY:∀(w:World) (h:Heap),YP w h->(K w.params).In h)
  (F:∀(w:World) (mg:Str->Option Value) (fa:Addr) (h:Heap),(K w.params).In h->h.Ns mainGlobals mg->mg d.name=some (.ref fa) ->
   ∃fd:FuncData,(∀(s:Shared) (u:Value),BindsTo s fd ⟨[u],[]⟩ [("script",u)])/\∀base:Heap,(K w.params).In base->base.Ns mainGlobals mg->FnOk l.prog w (K w.params) mg base CX0 n fa fd ["script"] (C2 (K w.params))) :
  PySem.W.WalkO q loose XP YP l.row.toRowW d [] (λf vs=>PySem.call f vs) :=
 L2.Ff (n:=63) (k:=n) (x:="script") (CX:=λ_=>CX0) (sp:=λw=>C2 (K w.params)) hn (by decide) hdf hr hY F (λ_ _ a ns hl _ hS=>⟨a,ns,rfl,hS,hl,λ_=>rfl⟩) λ_ _ _ _ _ z=>z
def Exs.len:Exs->Nat
 | .nil=>0
 | .cons _ r=>r.len+1
theorem mr {φ:Phi}:∀{xs:Exs} {σ:Sl} {μ:Sto} {ds:List D} {μ':Sto},fb φ xs σ μ=.ok ds μ'->ds.length=xs.len
 | .nil,σ,μ,ds,μ',h=>by
  simp![fb]at h
  cases h;rfl
 | .cons e r,σ,μ,ds,μ',h=>by
  simp![fb]at h
  cases e1:evE φ e σ μ with
  | exc _ _ _=>rw[e1]at h;cases h
  | stuck=>rw[e1]at h;cases h
  | ok d μ1 =>
   rw[e1]at h
   simp![Res.bj]at h
   cases e2:fb φ r σ μ1 with
   | exc _ _ _=>rw[e2]at h;cases h
   | stuck=>rw[e2]at h;cases h
   | ok es μ2 =>
    rw[e2]at h
    cases h
    simp[Exs.len,mr e2]
def tu (sc scope:Scope) (N Nb:List Str) (cap:List Nat) (nl:Nat):Bool :=
 decide (scope.kind=.function)&&scope.names.all (λy=>decide (y.2≠.cell)&&decide (scope.names.lookup y.1=some y.2)
  && (!decide (y.2=.free) || decide (sc.names.lookup y.1=some .cell) || decide (sc.names.lookup y.1=some .free)))
 && decide Nb.Nodup&&decide (Nb.length=cap.length+nl)
 && (List.range cap.length).all (λj=>match cap[j]?,Nb[j]? with
  | some i,some x=>decide (N[i]? = some x)&&scope.names.any λy=>decide (y.1=x)&&decide (y.2=.free)
  | _,_=>false)
theorem lookup_mem {l:List (Str×NameKind)} {n:Str} {k:NameKind} (h:l.lookup n=some k):(n,k)∈l:=by
 induction l with
 | nil=>cases h
 | cons a r ih =>
  obtain⟨m,j⟩:=a
  rw[DH]at h
  cases hb:n==m with
  | true =>
   rw[hb]at h
   cases h
   have:n=m:=by simpa using hb
   subst this
   exact AT
  | false =>
   rw[hb]at h
   exact AR _ (ih h)
theorem oj {scope:Scope} {env:Env} {n:Str} {k:NameKind} (h:(n,k)∈(relabel scope env).names):(n,k)∈scope.names\/(k=.cell/\(n,NameKind.free)∈scope.names):=by
 have h2:(n,k)∈scope.names.map (fun(n,k)=>if(k==NameKind.free&&env.scope.kind==.function&&env.kindOf n==some .cell)then(n,NameKind.cell)else(n,k)):=h
 obtain⟨⟨m,j⟩,hm,e⟩:=BX.mp h2
 dsimp only at e
 split at e
 ·rename_i hc
  cases e
  simp![AW,beq_iff_eq]at hc
  obtain⟨⟨rfl,_⟩,_⟩:=hc
  exact .inr ⟨rfl,hm⟩
 ·cases e
  exact .inl hm
theorem ll {sc scope:Scope} {N Nb:List Str} {cap:List Nat} {nl:Nat} (h:tu sc scope N Nb cap nl=true):CompScope sc scope N Nb cap nl:=by
 simp![tu,AW,AO,decide_eq_true_eq,Bool.or_eq_true,Bool.not_eq_true',decide_eq_false_iff_not]at h
 obtain⟨⟨⟨⟨h1,h2⟩,h3⟩,h4⟩,h5⟩:=h
 refine⟨h1,λy hy=>(h2 y hy).1.1,λy hy=>(h2 y hy).1.2,λn hn=>?_,λn hn=>?_,h3,h4,λj i e=>?_⟩
 ·rcases(h2 (n,.free) hn).2 with(z | z) | z
  ·exact absurd rfl z
  ·exact .inl z
  ·exact .inr z
 ·rcases hn with hn | hn
  ·rcases oj (lookup_mem hn)with z | z
   ·exact absurd rfl (h2 _ z).1.1
   ·exact z.2
  ·rcases oj (lookup_mem hn)with z | z
   ·exact z
   ·exact z.2
 ·have hj:j<cap.length:=(AF.mp e).1
  have q:=h5 j (HE.mpr hj)
  rw[e]at q
  cases ex:Nb[j]? with
  | none=>rw[ex]at q;simp at q
  | some x =>
   rw[ex]at q
   simp![AW,decide_eq_true_eq,List.any_eq_true]at q
   obtain⟨q1,⟨y,k⟩,hy,e1,e2⟩:=q
   dsimp only at e1 e2
   subst e1;subst e2
   exact⟨y,rfl,q1,hy⟩
def ndB (l:List Str):Bool:=decide l.Nodup
theorem p7 {l:List Str} (h:ndB l=true):l.Nodup:=of_decide_eq_true h
section
variable {X : Cx} {φ : Phi} {a b c e : Expr} {es : List Expr} {xa xb xc xe : Ex} {xs : Exs} {pos : Pos}
theorem ae (i:Nat) {x:Str} (hN:X.N[i]? = some x:=by rfl) (hv:Vis X.env.scope x:=by first | exact Or.inl rfl | exact Or.inr (Or.inl rfl) | exact Or.inr (Or.inr rfl)) (hd:(x==("__debug__":Str))=false:=by decide)
  (hcd:(x==("__classdict__":Str))=false:=by decide):PE X (.Name x pos) (tE X.K φ (.var i)):=Mc hN hv hd hcd
theorem af {i:Int} {j:Nat}:PE X (.Constant (.int i) j pos) (tE X.K φ (.cst (.int i))):=Md
theorem Gc {i:Bool} {j:Nat}:PE X (.Constant (.bool i) j pos) (tE X.K φ (.cst (.bl i))):=Q4
theorem dw {i:Str} {j:Nat}:PE X (.Constant (.str i) j pos) (tE X.K φ (.cst (.str i))):=Me
theorem ag:PA X [] (tEs X.K φ .nil):=Ft
theorem aa (ha:PE X a (tE X.K φ xa)) (hb:PA X es (tEs X.K φ xs)) (hs:starEach (a::es) X.env=(false,eval a X.env)::starEach es X.env:=by rfl):PA X (a::es) (tEs X.K φ (.cons xa xs)):=wx ha hb hs
theorem ak {op:Operator} {m:Mk} (ha:PE X a (tE X.K φ xa)) (hb:PE X b (tE X.K φ xb)):PE X (.BinOp a op b pos) (tE X.K φ (.bin op m xa xb)):=Mf Jl ha hb
theorem Ge (ha:PE X a (tE X.K φ xa)):PE X (.UnaryOp .USub a pos) (tE X.K φ (.neg xa)):=Mi ha
theorem fi {k:Nat} (h:PA X es (tEs X.K φ xs)) (hl:xs.len<=1000:=by decide):PE X (.Tuple es k pos) (tE X.K φ (.tup xs)):=Mg h λσ μ ds μ' e=>by
 rw[mr e];exact DJ (nk hl)
theorem j7 {m:Mk} (h:PA X es (tEs X.K φ xs)) (hl:xs.len<=1000:=by decide):PE X (.List es pos) (tE X.K φ (.lst m xs)):=Mr h λσ μ ds μ' e=>by
 rw[mr e];exact DJ (nk hl)
theorem jn (ha:PE X a (tE X.K φ xa)) (hb:PE X b (tE X.K φ xb)) (hs:ux b:=by intro _ _;rfl):PE X (.Subscript a b pos) (tE X.K φ (.ix xa xb)):=Q5 Ms ha hb hs
theorem Kv:PO X none (tEo X.K φ .no):=Q9
theorem Kw (he:PE X e (tE X.K φ xe)):PO X (some e) (tEo X.K φ (.so xe)):=Ra he
theorem Kx {lo hi:Option Expr} {xl xh:ExO} {m:Mk} {p2:Pos} (he:PE X e (tE X.K φ xe)) (hl:PO X lo (tEo X.K φ xl)) (hh:PO X hi (tEo X.K φ xh)):PE X (.Subscript e (.Slice lo hi none p2) pos) (tE X.K φ (.sl m xe xl xh)):=Rb he hl hh
theorem gb (hu:X.A.units+64<cLine) (op:Cp) (he:PE X e (tE X.K φ xe)):PCh X [opOf op] [e] (tCh X.K φ (.cons op xe .nil)):=F5 (Aq op (by lia)) he
theorem vn (hu:X.A.units+64<cLine) (op:Cp) {op':Cp} {e':Expr} {ops:List CmpOp} {xe':Ex} {r:Cps} (he:PE X e (tE X.K φ xe)) (hr:PCh X (opOf op'::ops) (e'::es) (tCh X.K φ (.cons op' xe' r))) :
  PCh X (opOf op::opOf op'::ops) (e::e'::es) (tCh X.K φ (.cons op xe (.cons op' xe' r))):=F6 (Aq op (by lia)) he hr
theorem jy (hu:X.A.units+64<cLine) (op:Cp) (he:PE X e (tE X.K φ xe)):PTh X [opOf op] [e] (tTh X.K φ (.cons op xe .nil)):=F7 (Aq op (by lia)) he
theorem gc {ops:List CmpOp} {r:Cps} (ha:PE X a (tE X.K φ xa)) (hr:PCh X ops es (tCh X.K φ r)) (hm:lastMarks ops es=false:=by rfl):PE X (.Compare a ops es pos) (tE X.K φ (.cmp xa r)):=Mv ha hr hm
theorem fg {ops:List CmpOp} {r:Cps} (ha:PE X a (tE X.K φ xa)) (hr:PTh X ops es (tTh X.K φ r)) (hm:lastMarks ops es=false:=by rfl):PT X (.Compare a ops es pos) (tT X.K φ (.cmp xa r)):=Jt ha hr hm
theorem qt (ha:PE X a (tE X.K φ xa)) (he:∀whole,isTrue a X.env whole=(do let v <-whole;standAt a.pos;holding [v] (truthy v)):=by intro _;rfl):PT X a (tT X.K φ xa):=Fu ha he
theorem xk (ha:PT X a (tT X.K φ xa)):PT X (.UnaryOp .Not a pos) (tT X.K φ (.not xa)):=Jb ha
theorem Jy (ha:PT X a (tT X.K φ xa)):PW X (.BoolOp .Or [a] pos) (tT X.K φ xa):=Hq ha
theorem Mx {rest:List Expr} (ha:PT X a (tT X.K φ xa)) (hb:PW X (.BoolOp .Or (b::rest) pos) (tT X.K φ xb)):PW X (.BoolOp .Or (a::b::rest) pos) (tT X.K φ (.or xa xb)):=Mj ha hb
theorem Rc {t:TT} (h:PW X a t):PT X a t:=h.pt
theorem ar {x:Str} {p:Pos} {f:Nat} {keep:Bool} (C:Callee X.prog X.w X.K X.mg X.base X.A φ f x) (ha:PA X (e::es) (tEs X.K φ xs)) (hg:Gl X x:=by rfl) (hdb:(x==("__debug__":Str))=false:=by decide)
  (he:starEach (e::es) X.env=(false,eval e X.env)::starEach es X.env:=by rfl) (hpl:(backTo pos (starEach es X.env)).any (·.1)=false:=by rfl):PE X (.Call (.Name x p) (e::es) [] pos) (tE X.K φ (.call keep f xs)):=s_call C hg ha hdb he hpl
theorem j8 {r:List V->Hp->VK->Prop} {b:Bt} {m:Mk} {es:List Expr} (h:PE X e (tCB (tm X.K (btD b m)) (tEs X.K φ xs))):PE X e (tE X.K φ (.blt b m xs)) :=
 PE.imp h λσv H Q ⟨ι,σ,μ,hS,hL,h⟩=>by
  simp![evE]at h
  obtain⟨ds,μ1,e1,h⟩:=h.bind
  refine⟨ι,σ,μ,hS,hL,?_⟩
  rw[e1]
  exact λι1 vs H1 p1 x1 s1 d1=>⟨ι1,ds,μ1,s1,d1,h.mono p1 x1⟩
theorem bt {m:Mk} {p:Pos} (hm:X.mg "len"=none) (ha:PA X (e::es) (tEs X.K φ xs)) (hg:Gl X "len":=by rfl) (he:starEach (e::es) X.env=(false,eval e X.env)::starEach es X.env:=by rfl) (hpl:(backTo pos (starEach es X.env)).any (·.1)=false:=by rfl) :
  PE X (.Call (.Name "len" p) (e::es) [] pos) (tE X.K φ (.blt .len m xs)):=j8 (r:=λ_ _ _=>True) (es:=es) (jl bt_len hg hm PySem.boot_len ha (by decide) (by decide) he hpl)
theorem c8 {m:Mk} {p:Pos} (hm:X.mg "tuple"=none) (ha:PA X (e::es) (tEs X.K φ xs)) (hg:Gl X "tuple":=by rfl) (he:starEach (e::es) X.env=(false,eval e X.env)::starEach es X.env:=by rfl) (hpl:(backTo pos (starEach es X.env)).any (·.1)=false:=by rfl) :
  PE X (.Call (.Name "tuple" p) (e::es) [] pos) (tE X.K φ (.blt .tuple m xs)):=j8 (r:=λ_ _ _=>True) (es:=es) (j9 bt_tuple hg hm (by first | exact GV | decide +kernel) ha (by decide) (by decide) he hpl)
theorem kh {m:Mk} {p:Pos} (hm:X.mg "list"=none) (ha:PA X (e::es) (tEs X.K φ xs)) (hg:Gl X "list":=by rfl) (he:starEach (e::es) X.env=(false,eval e X.env)::starEach es X.env:=by rfl) (hpl:(backTo pos (starEach es X.env)).any (·.1)=false:=by rfl) :
  PE X (.Call (.Name "list" p) (e::es) [] pos) (tE X.K φ (.blt .list m xs)):=j8 (r:=λ_ _ _=>True) (es:=es) (j9 bt_list hg hm (by first | exact HA | decide +kernel) ha (by decide) (by decide) he hpl)
theorem Gf {m:Mk} {p:Pos} (hm:X.mg "int"=none) (ha:PA X (e::es) (tEs X.K φ xs)) (hg:Gl X "int":=by rfl) (he:starEach (e::es) X.env=(false,eval e X.env)::starEach es X.env:=by rfl) (hpl:(backTo pos (starEach es X.env)).any (·.1)=false:=by rfl) :
  PE X (.Call (.Name "int" p) (e::es) [] pos) (tE X.K φ (.blt .int m xs)):=j8 (r:=λ_ _ _=>True) (es:=es) (j9 Jw hg hm (by first | exact PyProof.Rows.boot_int | decide +kernel) ha (by decide) (by decide) he hpl)
theorem vo {m:Mk} {p:Pos} (hm:X.mg "min"=none) (ha:PA X (e::es) (tEs X.K φ xs)) (hc:X.calm=true:=by rfl) (hg:Gl X "min":=by rfl) (he:starEach (e::es) X.env=(false,eval e X.env)::starEach es X.env:=by rfl) (hpl:(backTo pos (starEach es X.env)).any (·.1)=false:=by rfl) :
  PE X (.Call (.Name "min" p) (e::es) [] pos) (tE X.K φ (.blt .min m xs)):=j8 (r:=λ_ _ _=>True) (es:=es) (jl (bt_min hc) hg hm (by first | exact PyProof.Rows.boot_min | decide +kernel) ha (by decide) (by decide) he hpl)
theorem Au {m:Mk} {p:Pos} (hm:X.mg "max"=none) (ha:PA X (e::es) (tEs X.K φ xs)) (hc:X.calm=true:=by rfl) (hg:Gl X "max":=by rfl) (he:starEach (e::es) X.env=(false,eval e X.env)::starEach es X.env:=by rfl) (hpl:(backTo pos (starEach es X.env)).any (·.1)=false:=by rfl) :
  PE X (.Call (.Name "max" p) (e::es) [] pos) (tE X.K φ (.blt .max m xs)):=j8 (r:=λ_ _ _=>True) (es:=es) (jl (bt_max hc) hg hm (by first | exact PyProof.Rows.boot_max | decide +kernel) ha (by decide) (by decide) he hpl)
theorem vq {m:Mk} {p:Pos} (hm:X.mg "all"=none) (ha:PA X (e::es) (tEs X.K φ xs)) (hc:X.calm=true:=by rfl) (hg:Gl X "all":=by rfl) (he:starEach (e::es) X.env=(false,eval e X.env)::starEach es X.env:=by rfl) (hpl:(backTo pos (starEach es X.env)).any (·.1)=false:=by rfl) :
  PE X (.Call (.Name "all" p) (e::es) [] pos) (tE X.K φ (.blt .all m xs)):=j8 (r:=λ_ _ _=>True) (es:=es) (jl (bt_all hc) hg hm (by first | exact PyProof.Rows.boot_all | decide +kernel) ha (by decide) (by decide) he hpl)
theorem gf {tg:Expr} (hl:PE X e (tE X.K φ xe)):PI X tg e (tI X.K φ (.seq xe)):=Ju hl
theorem xm {tg:Expr} {p:Pos} (hm:X.mg "range"=none) (ha:PE X a (tE X.K φ xa)) (hg:Gl X "range":=by rfl) (hs:starEach [a] X.env=[(false,eval a X.env)]:=by rfl):PI X tg (.Call (.Name "range" p) [a] [] pos) (tI X.K φ (.rng xa)):=Jv hg hm ha hs
theorem ck (i:Nat) {y:Str} (hi:X.N[i]? = some y:=by rfl) (hN:ndB X.N=true:=by first | rfl | kernel_rfl) (hx:Loc X.env.scope y:=by first | exact Or.inl rfl | exact Or.inr rfl) (hf:X.fn y=true\/X.env.scope.names.lookup y=some .local:=by first | exact Or.inl rfl | exact Or.inr rfl) :
  PG X (.Name y pos) (tG X.K (.one i)):=Je (p7 hN) hi hx hf
theorem tv:PGs X [] (tGs X.K []):=Jf
theorem cz (i:Nat) {is:List Nat} {y:Str} (h2:PGs X es (tGs X.K is)) (hi:X.N[i]? = some y:=by rfl) (hN:ndB X.N=true:=by first | rfl | kernel_rfl) (hx:Loc X.env.scope y:=by first | exact Or.inl rfl | exact Or.inr rfl) (hf:X.fn y=true\/X.env.scope.names.lookup y=some .local:=by first | exact Or.inl rfl | exact Or.inr rfl)
  (hs:(assignEach (.Name y pos::es) X.env).map (·.2)=assign (.Name y pos) X.env::(assignEach es X.env).map (·.2):=by rfl):PGs X (.Name y pos::es) (tGs X.K (i::is)):=Fw (zr (p7 hN) hi hx hf) h2 hs
theorem tw {is:List Nat} {k:Nat} (h:PGs X es (tGs X.K is)) (hc:X.calm=true:=by rfl) (hn:(assignEach es X.env).length=is.length:=by rfl) (hst:(assignEach es X.env).findIdx? (·.1)=none:=by rfl):PG X (.Tuple es k pos) (tG X.K (.many is)):=Mn hc h hn hst
theorem c9:PTs X [] (tTs X.K φ .nil):=Ji
theorem C6 {r:List Expr} {xr:Exs} (h1:PT X c (tT X.K φ xc)) (h2:PTs X r (tTs X.K φ xr)):PTs X (c::r) (tTs X.K φ (.cons xc xr)):=F3 h1 h2
theorem jg (Nb:List Str) {target iter:Expr} {ifs:List Expr} {scope:Scope} {cap:List Nat} {nl:Nat} {m:Mk} {tg:Tg} {it:It} {cs:Exs} {elt:Ex} (hi:PI X target iter (tI X.K φ it))
  (B:vf X scope Nb target ifs e (tG X.K tg) (tTs X.K φ cs) (tE X.K φ elt)) (S:tu X.env.scope scope X.N Nb cap nl=true:=by first | rfl | kernel_rfl) (hc:X.calm=true:=by rfl) (hf:∀x,foldedSetIterable iter X.env x=pure x:=by intro _;rfl) (hs:∀j∈slots tg,cap.length<=j:=by decide) :
  PE X (.ListComp e [⟨target,iter,ifs,0⟩] scope pos) (tE X.K φ (.comp m cap nl tg it cs elt)):=Jj (ll S) hc hi B hf hs
theorem ip (i:Nat) (Nb:List Str) {target iter:Expr} {ifs:List Expr} {scope:Scope} {cap:List Nat} {nl:Nat} {m:Mk} {tg:Tg} {it:It} {cs:Exs} {elt:Ex} {spos py:Pos} {y:Str} (hi:PI X target iter (tI X.K φ it))
  (B:vf X scope Nb target ifs e (tG X.K tg) (tTs X.K φ cs) (tE X.K φ elt)) (S:tu X.env.scope scope X.N Nb cap nl=true:=by first | rfl | kernel_rfl) (hc:X.calm=true:=by rfl) (hf:∀x,foldedSetIterable iter X.env x=pure x:=by intro _;rfl) (hs:∀j∈slots tg,cap.length<=j:=by decide)
  (hsw:swapsWith (.ListComp e [⟨target,iter,ifs,0⟩] scope pos) (some (.Name y py)) spos.line X.env=pure true:=by rfl) (hiN:X.N[i]? = some y:=by rfl) (hN:ndB X.N=true:=by first | rfl | kernel_rfl) (hy:X.env.scope.names.lookup y=some .local:=by rfl) :
  PS X (.Assign [.Name y py] (.ListComp e [⟨target,iter,ifs,0⟩] scope pos) spos) (tS X.K φ (.set i (.comp m cap nl tg it cs elt))):=Ah (ll S) hc hi B hf hs hsw (p7 hN) hiN hy
theorem eo:PSs X [] (tSs X.K φ .nil):=Ml
theorem ba {s:Stmt} {ss:List Stmt} {x:Sm} {xss:Sms} (h1:PS X s (tS X.K φ x)) (h2:PSs X ss (tSs X.K φ xss)):PSs X (s::ss) (tSs X.K φ (.cons x xss)):=Jc h1 h2
theorem qu (he:PE X e (tE X.K φ xe)) (hs:swapsWith e none pos.line X.env=pure false:=by rfl):PS X (.Expr e pos) (tS X.K φ (.ex xe)):=Jd he hs
theorem ia (he:PE X e (tE X.K φ xe)):PS X (.Return (some e) pos) (tS X.K φ (.ret xe)):=Mm he
theorem Gg {s:Stmt}:PS X s (tS X.K φ .never):=Fv
theorem tx {x y:List Stmt} {xx xy:Sms} (hc:PT X c (tT X.K φ xc)) (ha:PSs X x (tSs X.K φ xx)) (hb:PSs X y (tSs X.K φ xy)):PS X (.If c x y pos) (tS X.K φ (.ite xc xx xy)):=Q6 hc ha hb
theorem cb (i:Nat) {y:Str} {pos':Pos} (he:PE X e (tE X.K φ xe)) (hi:X.N[i]? = some y:=by rfl) (hN:ndB X.N=true:=by first | rfl | kernel_rfl) (hx:Loc X.env.scope y:=by first | exact Or.inl rfl | exact Or.inr rfl) (hf:X.fn y=true\/X.env.scope.names.lookup y=some .local:=by first | exact Or.inl rfl | exact Or.inr rfl)
  (hs:swapsWith e (some (.Name y pos')) pos.line X.env=pure false:=by rfl):PS X (.Assign [.Name y pos'] e pos) (tS X.K φ (.set i xe)):=Mo (p7 hN) hi hx hf he hs
theorem C7 {is:List Nat} {tg:Expr} (hg:PG X tg (tG X.K (.many is))) (he:PE X e (tE X.K φ xe)) (hs:swapsWithSole [tg] e pos.line X.env=pure false:=by rfl) (hw:swappedStores [tg] e X.env=pure none:=by rfl)
  (h1:(assignEach [tg] X.env).map (·.2)=[assign tg X.env]:=by rfl):PS X (.Assign [tg] e pos) (tS X.K φ (.unp is xe)):=Mp hg he hs hw h1
theorem My {tg it:Expr} {body:List Stmt} {xt:Tg} {xi:It} {xb:Sms} (hi:PI X tg it (tI X.K φ xi)) (hg:PG X tg (tG X.K xt)) (hb:PSs X body (tSs X.K φ xb)) (hp:PassesOwn (model X.prog X.w) X.A X.env X.xe:=by exact PassesOwn.never) (hc:X.calm=true:=by rfl)
  (hs:∀x,foldedSetIterable it X.env x=pure x:=by intro _;rfl):PS X (.For tg it body [] pos) (tS X.K φ (.loop xt xi xb)):=Mq hp hc hi hg hb hs
end
theorem C8:typeLookup (.type "list_reverseiterator") "__len__"=pure none:=by rw[typeLookup_type,builtinLookup_eq_fast];kernel_rfl
theorem Gh:typeLookup (.type "list_reverseiterator") "__length_hint__"=pure (some (.builtin "list_reverseiterator.__length_hint__")):=by rw[typeLookup_type,builtinLookup_eq_fast];kernel_rfl
section
variable {prog : Program} {w : World} {A : Around} {E : Value -> Shared -> Prop} {s : Shared} {r l : Addr}
theorem Gi {Q:Bool->Shared->Prop} (hT:s.TypeIs (.ref r) "list_reverseiterator") (h:Q false s):wpAny (model prog w) A (Builtin.List.listLengthHint (.ref r)) Q E s:=by
 unfold Builtin.List.listLengthHint
 refine AA (wpAny_specialOf hT C8 ?_)
 show wpAny _ _ (specialOf (Value.ref r) (Str.ofString "__length_hint__")>>=_) _ _ _
 refine AA (wpAny_specialOf hT Gh ?_)
 generalize hid:("list_reverseiterator.__length_hint__":String)=id0
 wp_delta
 rw[show splitId id0=some ("list_reverseiterator","__length_hint__")from by subst hid;decide +kernel]
 subst hid
 refine AA (wpAny_isInstance (T:="list_reverseiterator") (b:=true) hT (by rw[isSubtype_type];kernel_rfl) ?_)
 refine FJ (λhab=>absurd hab (by decide)) (λ_=>?_)
 refine FJ (λ_=>?_) (λhab=>absurd (by decide +kernel) hab)
 refine FJ (λhab=>absurd hab (by decide +kernel)) (λ_=>?_)
 exact AI h
theorem Av {R:Result->Shared->Prop} {items:Array Value} (hh:A.handled=none) (S:Addr) (hSr:S≠r) (hSl:S≠l) (hlr:l≠r) (res:Value) (c₀:Nat) (hit:s.heap.IsRevIter r l ((items.size:Int)-1)) (hl:s.heap.IsList l items)
  (hS:s.heap.get? S=some {cls:=.type "list",data:=.seq #[] c₀})
  (hR:∀h' tk acc' c',(∀b o,b≠S->b≠r->s.heap.get? b=some o->h'.get? b=some o)->h'.get? S=some {cls:=.type "list",dict:=none,data:=.seq acc' c',slots:=#[]}->ItemsOf (λi v=>items[items.size-1-i]? = some v) acc' items.size->R (.ok (.ret res)) {s with heap:=h',toks:=tk}) (hn:items.size<=sizeLine) :
  wpAny (model prog w) A.in1 (Builtin.List.listExtendWith (.ref S) (.ref r) res)
   (λfin s'=>match fin with | .done f=>R (.ok f) s' | .again c'=>c'.quiet=true/\codeAny (model prog w) A c' R s') (λe s'=>R (.error e) s') s:=by
 have W:=Walks.listRev (prog:=prog) (w:=w) (A:=A.in1) hh r l hlr items
 have hSf:S∉[r,l]:=by simp![AJ,BP,or_false,not_or];exact⟨hSr,hSl⟩
 have st0:∀h:Heap,h.IsRevIter r l ((items.size:Int)-1)->h.IsList l items->(0<=items.size/\h.IsRevIter r l ((items.size:Int)-1-((0:Nat):Int))/\h.IsList l items):=λh a b=>⟨GD _,by simpa using a,b⟩
 have key:∀(h:Heap) (c₁ tk:Nat),(0<=items.size/\h.IsRevIter r l ((items.size:Int)-1-((0:Nat):Int))/\h.IsList l items)->(∀b o,b≠S->s.heap.get? b=some o->h.get? b=some o) ->
   h.get? S=some {cls:=.type "list",data:=.seq #[] c₁}->codeAny (model prog w) A (.builtin "list.extend.loop" ⟨[.ref S,.ref r,res],[]⟩) R {s with heap:=h,toks:=tk}:=by
  intro h c₁ tk hst hk hS₁
  refine codeAny_extend_loopS W.toS hn S hSf res items.size 0 _ #[] c₁ rfl (GD _) hst hS₁ (ItemsOf.nil _) λs' acc' c' hm hS' hacc=>?_
  rw[Moved.eq_with hm]
  refine hR s'.heap s'.toks acc' c' (λb o hb hbr e=>hm.heap b o (λhmem=>?_) (hk b o hb e)) hS' hacc
  rcases AJ.mp hmem with e' | hmem
  ·exact hb e'
  ·exact hbr (BZ.mp hmem)
 unfold Builtin.List.listExtendWith
 refine AA (GW (T:="list_reverseiterator") hit.typeIs ?_)
 have h1:Builtin.List.listSameRef (.ref S) (.ref r)=false:=by simp[Builtin.List.listSameRef,hSr]
 have h2:(Value.type "list_reverseiterator"==Value.type "list")=false:=by decide
 have h3:(Value.type "list_reverseiterator"==Value.type "tuple")=false:=by decide
 simp![h1,h2,h3,Bool.or_false,CA,if_false]
 refine AA (wpAny_pyIter_revIter hit ?_)
 refine AA (DO (Gi hit.typeIs ?_))
 refine FJ (λhab=>absurd hab (by decide)) (λ_=>AI ⟨plainId_quiet PySem.F.plain_extend_loop _,key _ c₀ _ (st0 _ hit hl) (λb o _ e=>e) hS⟩)
theorem Gj {R:Result->Shared->Prop} {items:Array Value} (hh:A.handled=none) (S:Addr) (hSr:S≠r) (hSl:S≠l) (hlr:l≠r) (hit:s.heap.IsRevIter r l ((items.size:Int)-1)) (hl:s.heap.IsList l items)
  (hS:s.heap.get? S=some {cls:=.type "list",data:=.seq #[]})
  (hR:∀h' tk acc' c',(∀b o,b≠S->b≠r->s.heap.get? b=some o->h'.get? b=some o)->h'.get? S=some {cls:=.type "list",dict:=none,data:=.seq acc' c',slots:=#[]}->ItemsOf (λi v=>items[items.size-1-i]? = some v) acc' items.size->R (.ok (.ret .none)) {s with heap:=h',toks:=tk}) (hn:items.size<=sizeLine) :
  wpAny (model prog w) A.in1 (Builtin.«list.__init__» ⟨[.ref S,.ref r],[]⟩)
   (λfin s'=>match fin with | .done f=>R (.ok f) s' | .again c'=>c'.quiet=true/\codeAny (model prog w) A c' R s') (λe s'=>R (.error e) s') s:=by
 show wpAny _ _ (do let old <-Builtin.List.listItems (.ref S);Builtin.List.listUpdate (.ref S) (λ_=>#[]);letGo old.toList.reverse;Builtin.List.listExtendWith (.ref S) (.ref r) .none) _ _ s
 refine AA ?_
 unfold Builtin.List.listItems
 refine AA (CP hS rfl (AI ?_))
 show wpAny _ _ (updateSeq S (λ_=>#[])>>=λ_=>letGo (#[]:Array Value).toList.reverse>>=λ_=>Builtin.List.listExtendWith (.ref S) (.ref r) .none) _ _ s
 refine AA (wpAny_updateSeq hS rfl ?_)
 have hS₂:=DR (Obj.mapSeq (λ_=>(#[]:Array Value))) hS rfl
 have oth:∀b o,b≠S->s.heap.get? b=some o->(s.heap.update S (Obj.mapSeq (λ_=>(#[]:Array Value)))).get? b=some o :=
  λb o hb e=>(CW _ _ (Ne.symm hb)).trans e
 refine AA (HH ?_)
 refine Av hh S hSr hSl hlr .none _ (hit.at λo e=>oth r o (Ne.symm hSr) e) (hl.at λo e=>oth l o (Ne.symm hSl) e) hS₂ (λh' tk acc' c' hk hS' hacc=>?_) hn
 exact hR h' tk acc' c' (λb o hb hbr e=>hk b o hb hbr (oth b o hb e)) hS' hacc
theorem Gk {Q:Value->Shared->Prop} {items:Array Value} (hh:A.handled=none) (hlr:l≠r) (hit:s.heap.IsRevIter r l ((items.size:Int)-1)) (hl:s.heap.IsList l items) (hn:items.size<=sizeLine)
  (hQ:∀h' tk acc' c',(∀b o,b≠r->s.heap.get? b=some o->h'.get? b=some o)->h'.get? s.heap.objs.size=some {cls:=.type "list",dict:=none,data:=.seq acc' c',slots:=#[]}->ItemsOf (λi v=>items[items.size-1-i]? = some v) acc' items.size->Q (.ref s.heap.objs.size) {s with heap:=h',toks:=tk}) :
  wpAny (model prog w) A (call (.type "list") [.ref r]) Q E s:=by
 refine callType_codes (Q₁:=λobj s₁=>obj=.ref s.heap.objs.size/\s₁={s with heap:=s.heap.push {cls:=.type "list",data:=.seq #[]}}) PySem.F.called_list (PySem.F.typeCall_list_1 _) PySem.F.entry_list_init
  (code_list_new _ ⟨rfl,rfl⟩) λobj s₁ h₁=>?_
 obtain⟨rfl,rfl⟩:=h₁
 have hS:(s.heap.push {cls:=.type "list",data:=.seq #[]}).get? s.heap.objs.size=some {cls:=.type "list",data:=.seq #[]}:=AQ _ rfl
 have hr:r<s.heap.objs.size:=by obtain⟨o,e,_⟩:=hit;exact AH e
 have hl':l<s.heap.objs.size:=by obtain⟨o,e,_⟩:=hl;exact AH e
 refine⟨⟨_,hS,rfl⟩,PySem.F.args_list_init_2 _ _,Gj (A:=A.in1) hh _ (Ev hr) (Ev hl') hlr (hit.at λo e=>AC _ e) (hl.at λo e=>AC _ e) hS (λh' tk acc' c' hk hS' hacc=>?_) hn⟩
 exact⟨rfl,hQ h' tk acc' c' (λb o hb e=>hk b o (AM (AH e)) hb (AC _ e)) hS' hacc⟩
end
theorem Aw {its:List Value} {acc:Array Value} (h:ItemsOf (λi v=>its.toArray[its.toArray.size-1-i]? = some v) acc its.toArray.size):acc.toList=its.reverse:=by
 obtain⟨h1,h2⟩:=h
 simp![AE]at h1 h2
 refine List.ext_getElem? λi=>?_
 by_cases hi:i<its.length
 ·have e:acc[i]? = some (acc[i]'(by lia)):=Array.getElem?_eq_getElem (by lia)
  have q:=h2 i _ e
  rw[DS,e,<-q,EW,List.getElem?_reverse hi]
 ·rw[DS,EV (by simpa using hi),Array.getElem?_eq_none (by lia)]
section
variable {X : Cx} {φ : Phi} {a : Expr} {xa : Ex} {p p2 pos pos2 : Pos} {m : Mk}
theorem Ax (hml:X.mg "list"=none) (hmr:X.mg "reversed"=none) (ha:PE X a (tE X.K φ xa)) (hgl:Gl X "list":=by rfl) (hgr:Gl X "reversed":=by rfl) (hc:X.calm=true:=by rfl)
  (hs:starEach [a] X.env=[(false,eval a X.env)]:=by rfl) (hs2:starEach [.Call (.Name "reversed" p2) [a] [] pos2] X.env=[(false,eval (.Call (.Name "reversed" p2) [a] [] pos2) X.env)]:=by rfl) :
  PE X (.Call (.Name "list" p) [.Call (.Name "reversed" p2) [a] [] pos2] [] pos) (tE X.K φ (.blt .listRev m (.cons xa .nil))):=by
 refine PE.imp (t:=λσ H Q=>tE X.K φ xa σ H λv H1=>∃l ys,v=.ref l/\LsL X.K H1 l ys/\∀q,H1 q=none->FQ Q (.ref q) (upd H1 q (.lst ys.reverse))) ?_ λσv H Q ⟨ι,σ,μ,hS,hL,h⟩=>?_
 ·intro pins s σ H Q I h
  refine CL (mx I hgl hml HA ?_ (by decide) (by decide))
  refine CD ?_ hs2 rfl
  rw[hs2]
  refine FS ?_
  refine CL (mx I hgr hmr PyProof.Rows.boot_reversed ?_ (by decide) (by decide))
  refine CD ?_ hs rfl
  rw[hs]
  refine FS (thn (ha pins s σ H _ I h) λu s1 ⟨v,H1,I1,r1,l,ys,ev,hls,q⟩=>Go ?_)
  subst ev
  cases(show u=Value.ref l from r1)
  obtain⟨hz,its,n,rv,hlen,hget⟩:=I1.ls hls
  have hlist:s1.heap.IsList l its.toArray:=⟨_,hget,rfl,n,rfl⟩
  refine call_reversed_list hlist ?_
  refine Go ?_
  have hl1:l<s1.heap.objs.size:=AH hget
  refine Af (Gk (l:=l) (r:=s1.heap.objs.size) (items:=its.toArray) (I1.ok.hd hc) (AM hl1) ⟨_,AQ _ rfl,rfl,rfl⟩ (hlist.at λo e=>AC _ e) (by rw[AE];lia) λh' tk acc c hk hD hacc=>?_)
  have hsz:(s1.heap.push (revObj l ((its.toArray.size:Int)-1))).objs.size=s1.heap.objs.size+1:=CO _ _
  have ea:=Aw hacc
  have hf:H1 (s1.heap.objs.size+1)=none:=I1.hok.fresh (GB _)
  refine⟨.ref (s1.heap.objs.size+1),upd H1 (s1.heap.objs.size+1) (.lst ys.reverse),I1.laid (t':=tk) (λb o e=>hk b o (AM (AH e)) (AC _ e)) (GB _) ?_,?_,q _ hf⟩
  ·refine⟨by rw[List.length_reverse];exact hz,its.reverse,c,rv.reverse,?_⟩
   rw[hsz]at hD
   rw[hD,<-ea,Array.toArray_toList]
  ·show Value.ref _=Value.ref _
   rw[hsz]
 ·simp![evE,fb]at h
  rw[Res.bind_assoc]at h
  obtain⟨d,μ1,e1,h⟩:=h.bind
  refine⟨ι,σ,μ,hS,hL,?_⟩
  rw[e1]
  intro ι1 v H1 p1 x1 s1 d1
  have h:=h.mono p1 x1
  simp![Res.bj,btD,wu,qj]at h
  split at h
  ·rename_i xs ex
   obtain⟨l,ys,ev,hls,hys⟩:=k8 s1 d1 ex
   exact⟨l,ys,ev,hls,λq hq=>j6 s1 hys.reverse h hq⟩
  ·exact h.elim
end
structure Ma (X:Cx) (o:Expr) (nm:Str) (e:Expr) (es:List Expr) (apos cpos:Pos):Prop where
 b:attributeBase o nm X.env (eval o X.env)=eval o X.env
 f:((backTo cpos (starEach (e::es) X.env)).all (λx=>!x.1)&&(backToKw cpos (keywordEach [] X.env)).all (λx=>x.1.isSome)&&decide ((e::es).length+([]:List Keyword).length+(if([]:List Keyword).isEmpty then 0 else 1)<30))=true
 l:(apos.endLine==cpos.line)=true
 s:starEach (e::es) X.env=(false,eval e X.env)::starEach es X.env
 p:(backTo cpos (starEach es X.env)).any (·.1)=false
section
variable {X : Cx} {φ : Phi} {o e : Expr} {es : List Expr} {xo : Ex} {xs : Exs} {apos cpos : Pos} {T id : String} {name : Str} {mt : Mt}
theorem Gm (hT:∀(ι:List Addr) (H:Hp) (μ:Sto) (d:D) (x:V),Sim X.K ι H μ->IsD X.K ι H d x->j3 mt d μ=true->tyV X.K T x H) (h:PE X e (Oj X.K T (rMt X.K mt) (tE X.K φ xo))):PE X e (tE X.K φ (.meth mt xo .nil)) :=
 PE.imp h λσv H Q ⟨ι,σ,μ,hS,hL,h⟩=>by
  simp![evE,fb]at h
  obtain⟨d,μ1,e1,h⟩:=h.bind
  refine⟨ι,σ,μ,hS,hL,?_⟩
  rw[e1]
  intro ι1 x H1 p1 x1 s1 d1
  split at h
  ·rename_i hm
   exact⟨hT ι1 H1 μ1 d x s1 d1 hm,ι1,d,[],μ1,s1,d1,by simp[aq],h.mono p1 x1⟩
  ·exact h.elim
theorem Ay (hT:∀(ι:List Addr) (H:Hp) (μ:Sto) (d:D) (x:V),Sim X.K ι H μ->IsD X.K ι H d x->j3 mt d μ=true->tyV X.K T x H) (h:PE X e (tBM X.K T (rMt X.K mt) (tE X.K φ xo) (tEs X.K φ xs))):PE X e (tE X.K φ (.meth mt xo xs)) :=
 PE.imp h λσv H Q ⟨ι,σ,μ,hS,hL,h⟩=>by
  simp![evE]at h
  obtain⟨d,μ1,e1,h⟩:=h.bind
  refine⟨ι,σ,μ,hS,hL,?_⟩
  rw[e1]
  intro ι1 x H1 p1 x1 s1 d1
  split at h
  ·rename_i hm
   refine⟨hT ι1 H1 μ1 d x s1 d1 hm,ι1,σ,μ1,s1,hL.mono p1 x1,?_⟩
   obtain⟨ds,μ2,e2,h⟩:=h.bind
   rw[e2]
   exact λι2 vs H2 p2 x2 s2 d2=>⟨ι2,d,ds,μ2,s2,IsD.mono p2 x2 _ _ d1,d2,h.mono (p1.trans p2) (x1.trans x2)⟩
  ·exact h.elim
theorem jo (hmt:∀d μ,j3 mt d μ=(listOf μ d).isSome) (ι:List Addr) (H:Hp) (μ:Sto) (d:D) (x:V) (hS:Sim X.K ι H μ) (hd:IsD X.K ι H d x) (hm:j3 mt d μ=true):tyV X.K "list" x H:=by
 rw[hmt]at hm
 obtain⟨ds,e⟩:=GH.mp hm
 obtain⟨a,xs,rfl,hls,_⟩:=k8 hS hd e
 exact .inl ⟨rfl,_,hls.sq⟩
theorem xn (ho:PE X o (tE X.K φ xo)) (hbase:attributeBase o "pop" X.env (eval o X.env)=eval o X.env:=by rfl) (hline:(apos.endLine==cpos.line)=true:=by rfl):PE X (.Call (.Attribute o "pop" apos) [] [] cpos) (tE X.K φ (.meth .pop xo .nil)) :=
 Gm (jo λ_ _=>rfl) (Io EN FH F.type_list_pop Jx ho hbase hline)
theorem C9 (ho:PE X o (tE X.K φ xo)) (ha:PA X (e::es) (tEs X.K φ xs)) (h5:Ma X o "pop" e es apos cpos:=by exact⟨rfl,rfl,rfl,rfl,rfl⟩):PE X (.Call (.Attribute o "pop" apos) (e::es) [] cpos) (tE X.K φ (.meth .pop xo xs)) :=
 Ay (jo λ_ _=>rfl) (Fb EN FH F.type_list_pop Jx ho ha h5.b h5.f h5.l h5.s h5.p)
theorem vt (ho:PE X o (tE X.K φ xo)) (ha:PA X (e::es) (tEs X.K φ xs)) (h5:Ma X o "append" e es apos cpos:=by exact⟨rfl,rfl,rfl,rfl,rfl⟩):PE X (.Call (.Attribute o "append" apos) (e::es) [] cpos) (tE X.K φ (.meth .append xo xs)) :=
 Ay (jo λ_ _=>rfl) (Fb EN F.slot_list_append F.type_list_append C0 ho ha h5.b h5.f h5.l h5.s h5.p)
theorem Az {a:Expr} {xa:Ex} {p p2 pos pos2:Pos} {m:Mk} (hml:X.mg "list"=none) (hmr:X.mg "reversed"=none) (ha:PE X a (tE X.K φ xa)) (hgl:Gl X "list":=by rfl) (hgr:Gl X "reversed":=by rfl) (hc:X.calm=true:=by rfl)
  (hs:starEach [a] X.env=[(false,eval a X.env)]:=by rfl) (hs2:starEach [.Call (.Name "reversed" p2) [a] [] pos2] X.env=[(false,eval (.Call (.Name "reversed" p2) [a] [] pos2) X.env)]:=by rfl) :
  PE X (.Call (.Name "list" p) [.Call (.Name "reversed" p2) [a] [] pos2] [] pos) (tE X.K φ (.blt .listRev m (.cons xa .nil))):=Ax hml hmr ha hgl hgr hc hs hs2
end
section
variable {X : Cx} {φ : Phi} {a : Expr} {xa : Ex} {p p2 pos pos2 : Pos} {m : Mk}
theorem Jz (hu:X.A.units+64<cLine):Ko X (Ow X.K):=by
 intro pins s σ H o i v ov iv u Q I ro ri rv ⟨ι,a,b,d,μ,hS,ha,hb,hd,h⟩
 cases a with
 | loc n =>
  simp![rn]at h
  cases em:μ[n]? with
  | none=>rw[em]at h;exact h.elim
  | some ob =>
   rw[em]at h
   obtain⟨q,rfl,hq⟩:∃q,o=.ref q/\ι[n]? = some q:=by simpa[IsD]using ha
   obtain⟨q',eq',hob⟩:=hS.at em
   rw[hq]at eq';cases eq'
   have lst:∀(ob:O) (xs:List D),gv ob=some xs->μ[n]? = some ob->OIs X.K ι H q ob->fz X.K (λ_ _ _ (_:Unit)=>True) ι H (match some xs,b with
     | some xs,.int i=>match ixN xs.length i with
      | some j=>if fits ob d=true then(putL n ob (xs.set j d) .non μ).bind λ_ μ=>.ok () μ else .stuck
      | none=>.stuck
     | _,_=>.stuck) (λ_ H'=>Q H')->wpAny (model X.prog X.w) X.A (setItem ov iv u) (λ_ s'=>∃H',Inv X pins σ H' s'/\Q H') X.xe s:=by
    intro ob xs ei em ho h
    cases b with
    | int k =>
     simp only at h
     split at h
     ·rename_i j ej
      split at h
      ·rename_i hf
       obtain⟨a',vs,ea,hι,hH,h1,h2⟩:=Ef hS ha em ei
       cases ea
       cases dh hb
       refine set_list pins s σ H _ _ v ov iv u Q I ro ri rv ⟨_,vs,k,j,rfl,rfl,hH,by rw[h1.length];exact ej,?_⟩
       have h':fz X.K (RD X.K) ι H (putL n ob (xs.set j d) .non μ) λ_ H'=>Q H':=by
        cases ob with
        | l _=>exact λι' v' H' p e s' _=>h ι' () H' p e s' trivial
        | r _=>exact λι' v' H' p e s' _=>h ι' () H' p e s' trivial
        | d _=>exact h.elim
        | dt _=>exact h.elim
        | x _=>exact h.elim
        | dead=>exact h.elim
       exact kg (v:=.non) hS hι hH (h1.set hd j) (λes e=>(h2 es e).set (oi hf hd es e) j) (by simp[IsD]) h'
      ·exact h.elim
     ·exact h.elim
    | _=>exact h.elim
   cases ob with
   | l xs=>exact lst (.l xs) xs rfl em hob h
   | r xs=>exact lst (.r xs) xs rfl em hob h
   | d kvs =>
    simp only at h
    split at h
    ·rename_i hc
     obtain⟨hk,hv,hl⟩:=hc
     obtain⟨xs,hH,hkv⟩:=hob
     obtain⟨k,rfl,rfl⟩:=An hk hb
     cases(show ov=Value.ref q from ro)
     have hlen:xs.length=kvs.length:=(EZ hkv).symm
     refine Aa (by lia) I (Kq.k (k:=k) (v:=v) hH (by rw[hlen,<-gw];exact hl)) ri rv λs' I'=>⟨_,I',?_⟩
     exact h ι () _ (AD _) (.dK hH) (hS.put hq (.dK hH) ⟨_,br,Paired.mapP (Cu (IsD.pur hv hd) hkv) λp r z=>⟨IsD.mono (AD _) (.dK hH) _ _ z.1,IsD.mono (AD _) (.dK hH) _ _ z.2⟩⟩) trivial
    ·exact h.elim
   | dt kvs=>simp![gv]at h;exact h.elim
   | x _=>simp![gv]at h;exact h.elim
   | dead=>simp![gv]at h;exact h.elim
 | _=>exact h.elim
theorem om (hu:X.A.units+64<cLine) {o i e:Expr} {xo xi x:Ex} {tp:Pos} (ho:PE X o (tE X.K φ xo)) (hi:PE X i (tE X.K φ xi)) (he:PE X e (tE X.K φ x))
  (ha:∀v,assign (.Subscript o i tp) X.env v=(do
   let ov <-holding [v] (eval o X.env)
   let iv <-holding [v,ov] (eval i X.env)
   standAt tp
   holding [v,ov,iv] (setItem ov iv v)
   release [v,ov,iv] []):=by intro _;rfl) (hs:swapsWithSole [.Subscript o i tp] e pos.line X.env=pure false:=by rfl) (hw:swappedStores [.Subscript o i tp] e X.env=pure none:=by rfl)
  (h1:(assignEach [.Subscript o i tp] X.env).map (·.2)=[assign (.Subscript o i tp) X.env]:=by rfl):PS X (.Assign [.Subscript o i tp] e pos) (tS X.K φ (.setx xo xi x)):=Jg (Jz hu) ho hi he ha hs hw h1
end
def SI (b:Bool) (h:Heap) (it l:Addr) (i:Nat):Prop:=match b with
 | true=>h.IsListIter it l i
 | false=>h.IsTupleIter it l i
def SQ (b:Bool) (h:Heap) (l:Addr) (xs:Array Value):Prop:=match b with
 | true=>h.IsList l xs
 | false=>h.IsTuple l xs
def J0:Bool->String
 | true=>"list_iterator"
 | false=>"tuple_iterator"
theorem SI.keep {b:Bool} {h h':Heap} {it l:Addr} {i:Nat} (x:SI b h it l i) (e:∀o,h.get? it=some o->h'.get? it=some o):SI b h' it l i:=by
 cases b
 ·exact Heap.IsTupleIter.at x e
 ·exact Heap.IsListIter.at x e
theorem SI.but {b:Bool} {h h':Heap} {it l c:Addr} {i:Nat} (x:SI b h it l i) (e:Heap.ExtBut c h h') (n:it≠c):SI b h' it l i:=x.keep λo q=>e it o n q
theorem SI.obj {b:Bool} {h:Heap} {it l:Addr} {i:Nat} (x:SI b h it l i):∃o,h.get? it=some o/\o.cls=.type (J0 b)/\o.data=.fields #[.ref l,.int i 0]:=by
 cases b<;>exact x
theorem SQ.but {b:Bool} {h h':Heap} {l c:Addr} {xs:Array Value} (x:SQ b h l xs) (e:Heap.ExtBut c h h') (n:l≠c):SQ b h' l xs:=by
 cases b
 ·exact Heap.IsTuple.at x λo q=>e l o n q
 ·exact Heap.IsList.at x λo q=>e l o n q
theorem SQ.lt {b:Bool} {h:Heap} {l:Addr} {xs:Array Value} (x:SQ b h l xs):l<h.objs.size:=by
 cases b
 ·obtain⟨o,e,_⟩:=x;exact AH e
 ·obtain⟨o,e,_⟩:=x;exact AH e
theorem SQ.push {b:Bool} {h:Heap} {l:Addr} {xs:Array Value} (x:SQ b h l xs) (o:Obj):SQ b (h.push o) l xs:=by
 cases b
 ·exact Heap.IsTuple.push x o
 ·exact Heap.IsList.push x o
section
variable {prog : Program} {w : World} {A : Around} {E : Value -> Shared -> Prop} {s : Shared}
theorem A0 {b:Bool} {l:Addr} {xs:Array Value} {Q:Value->Shared->Prop} (x:SQ b s.heap l xs) (hQ:Q (.ref s.heap.objs.size) {s with heap:=s.heap.push {cls:=.type (J0 b),data:=.fields #[.ref l,.int 0 0]}}) :
  wpAny (model prog w) A (pyIter (.ref l)) Q E s:=by
 cases b
 ·exact FZ x hQ
 ·exact GF x hQ
theorem vv {b:Bool} {it l:Addr} {i:Nat} {xs:Array Value} {x:Value} {Q:Value->Shared->Prop} (hit:SI b s.heap it l i) (hl:SQ b s.heap l xs) (hx:xs[i]? = some x)
  (hQ:∀h',SI b h' it l (i+1)->Heap.SameBut it s.heap h'->Q x {s with heap:=h'}):wpAny (model prog w) A (Builtin.SmallTypes.nextOf (.ref it)) Q E s:=by
 cases b
 ·obtain⟨o,ho,hc,hd⟩:=hit.obj
  obtain⟨ol,hol,_,nl,hdl⟩:=hl
  have ht:s.TypeIs (.ref it) "tuple_iterator":=⟨o,ho,hc⟩
  unfold Builtin.SmallTypes.nextOf
  refine AA (CC (name:=Str.ofString "__next__") ht Da (DG Da ht FO ?_ (FK _)))
  show wpAny _ _ (field (.ref it) 0>>=_) _ _ s
  refine AA (BO ho hd (x:=.ref l) rfl ?_)
  show wpAny _ _ (if(Value.ref l==Value.none)=true then _ else _) _ _ s
  rw[if_neg (show ¬((Value.ref l==Value.none)=true)from BH)]
  show wpAny _ _ (field (.ref it) 1>>=_) _ _ s
  refine AA (BO ho hd (x:=.int i 0) rfl ?_)
  show wpAny _ _ (seqItems? (.ref l)>>=_) _ _ s
  refine AA (CP hol hdl ?_)
  simp![CS,hx]
  refine AA (FY ho hd (by simp) (AI ⟨x,rfl,AI (hQ _ ?_ (HI ..))⟩))
  exact⟨_,DR _ ho (Obj.isFreed_of_fields (EH hd _)),(Obj.cls_mapFields ..).trans hc,by rw[EH hd];simp[rawInt]⟩
 ·exact wpAny_nextOf_list_item hit hl hx hQ
theorem Eg {b:Bool} {it l:Addr} {i:Nat} {xs:Array Value} {Q:Value->Shared->Prop} (hh:A.handled=none) (hit:SI b s.heap it l i) (hl:SQ b s.heap l xs) (hx:xs[i]? = none)
  (hE:∀h' e,Heap.ExtBut it s.heap h'->(∃o,h'.get? e=some o/\o.cls=.type "StopIteration")->E (.ref e) {s with heap:=h'}):wpAny (model prog w) A (Builtin.SmallTypes.nextOf (.ref it)) Q E s:=by
 cases b
 ·obtain⟨o,ho,hc,hd⟩:=hit.obj
  obtain⟨ol,hol,_,nl,hdl⟩:=hl
  have ht:s.TypeIs (.ref it) "tuple_iterator":=⟨o,ho,hc⟩
  unfold Builtin.SmallTypes.nextOf
  refine AA (CC (name:=Str.ofString "__next__") ht Da (DG Da ht FO ?_ (FK _)))
  show wpAny _ _ (field (.ref it) 0>>=_) _ _ s
  refine AA (BO ho hd (x:=.ref l) rfl ?_)
  show wpAny _ _ (if(Value.ref l==Value.none)=true then _ else _) _ _ s
  rw[if_neg (show ¬((Value.ref l==Value.none)=true)from BH)]
  show wpAny _ _ (field (.ref it) 1>>=_) _ _ s
  refine AA (BO ho hd (x:=.int i 0) rfl ?_)
  show wpAny _ _ (seqItems? (.ref l)>>=_) _ _ s
  refine AA (CP hol hdl ?_)
  simp![CS,hx]
  refine AA (GZ (AA (FY ho hd (by simp) ?_)))
  show wpAny _ _ (newExc (.type "StopIteration") []>>=_) _ _ _
  refine AA ?_
  simp![newExc,newTuple]
  refine AA (CG ?_ (by size_fits))
  refine AA (m:=firstArgMember _ _) (wpAny_of_eq (a:=Value.none) (by first | rfl | (simp![firstArgMember];rfl)) ?_)
  refine CG ?_ (by size_fits)
  simp![raiseNew]
  refine AA (wpAny_handled ?_)
  first | rw[show A.in1.handled=none from hh] | rw[hh]
  refine AA (AI (wpAny_throw ?_))
  exact hE _ _ (((HI ..).extBut.push _).push _) ⟨_,AQ _ rfl,rfl⟩
 ·exact wpAny_nextOf_list_end hh hit hl hx hE
variable {b1 b2 : Bool} {z TI TO i1 i2 l1 l2 : Addr} {k1 k2 : Nat} {xs ys : Array Value} {x y a b : Value}
theorem Gn {Q:Option Value->Shared->Prop} (D:ZipApart z TI TO i1 i2 l1 l2)
  (hz:IsZip s.heap z TI TO .none) (hTI:IsPair s.heap TI (.ref i1) (.ref i2)) (hTO:IsPair s.heap TO a b)
  (h1:SI b1 s.heap i1 l1 k1) (h2:SI b2 s.heap i2 l2 k2) (hl1:SQ b1 s.heap l1 xs) (hl2:SQ b2 s.heap l2 ys) (hx:xs[k1]? = some x) (hy:ys[k2]? = some y)
  (hQ:∀h',IsZip h' z TI TO (rawInt s.heap.objs.size)->IsPair h' TO x y->SI b1 h' i1 l1 (k1+1)->SI b2 h' i2 l2 (k2+1)->IsPair h' s.heap.objs.size x y ->
   (∀c o,c≠z->c≠TO->c≠i1->c≠i2->s.heap.get? c=some o->h'.get? c=some o)->Q (some (.ref s.heap.objs.size)) {s with heap:=h'}) :
  wpAny (model prog w) A (pyNext (.ref z)) Q E s:=by
 have hT:s.TypeIs (.ref z) "zip":=⟨_,hz,rfl⟩
 unfold pyNext
 refine AA (wpAny_attempt (CC (name:=Str.ofString "__next__") hT FL (DG FL hT F.entry_zip_next ?_ (F.args_zip_next_1 _))))
 show wpAny _ _ (field (.ref z) 2>>=_) _ _ _
 refine AA (BO hz rfl (x:=.bool false) rfl ?_)
 show wpAny _ _ (field (.ref z) 3>>=_) _ _ _
 refine AA (BO hz rfl (x:=.ref TI) rfl ?_)
 refine AA (CP hTI rfl ?_)
 show wpAny _ _ (Builtin.SmallTypes.ownedTupleIsFree (.ref z)>>=_) _ _ _
 refine AA ?_
 unfold Builtin.SmallTypes.ownedTupleIsFree
 refine AA (BO hz rfl (x:=.none) rfl (AI ?_))
 simp![if_true]
 refine AA (GZ ?_)
 refine AA (BO hz rfl (x:=.ref TO) rfl ?_)
 refine AA (Db hz (by simp) λh₁ hz₁ hs₁=>?_)
 replace hz₁:IsZip h₁ z TI TO .ellipsis:=hz₁
 refine AA ?_
 simp![List.zipIdx_cons,List.zipIdx_nil,EG,List.forIn_nil]
 refine AA (AA (GJ ?_))
 show wpAny _ _ (Builtin.SmallTypes.nextOf (.ref i1)>>=_) _ _ _
 refine AA (vv (h1.but hs₁.extBut D.i1z) (hl1.but hs₁.extBut D.l1z) hx λh₂ h1₂ hs₂=>AI ?_)
 have hTO₂:IsPair h₂ TO a b:=hs₂.extBut _ _ D.TOi1 (hs₁.extBut _ _ D.TOz hTO)
 refine AA (CP hTO₂ rfl ?_)
 refine AA (FD hTO₂ λh₃ hTO₃ hs₃=>?_)
 replace hTO₃:IsPair h₃ TO x b:=hTO₃
 refine AA (HH (AI ?_))
 refine AA (AA (GJ ?_))
 show wpAny _ _ (Builtin.SmallTypes.nextOf (.ref i2)>>=_) _ _ _
 refine AA (vv (((h2.but hs₁.extBut D.i2z).but hs₂.extBut D.i12.symm).but hs₃.extBut D.TOi2.symm) (((hl2.but hs₁.extBut D.l2z).but hs₂.extBut D.l2i1).but hs₃.extBut D.l2TO) hy λh₄ h2₄ hs₄=>AI ?_)
 have hTO₄:IsPair h₄ TO x b:=hs₄.extBut _ _ D.TOi2 hTO₃
 refine AA (CP hTO₄ rfl ?_)
 refine AA (FD hTO₄ λh₅ hTO₅ hs₅=>?_)
 replace hTO₅:IsPair h₅ TO x y:=hTO₅
 refine AA (HH (AI (AI ?_)))
 refine AA (CP hTO₅ rfl ?_)
 refine AA (wpAny_newTuple ?_)
 have hsz:h₅.objs.size=s.heap.objs.size:=by rw[hs₅.1,hs₄.1,hs₃.1,hs₂.1,hs₁.1]
 have hz₅:IsZip h₅ z TI TO .ellipsis:=hs₅.extBut _ _ D.TOz.symm (hs₄.extBut _ _ D.i2z.symm (hs₃.extBut _ _ D.TOz.symm (hs₂.extBut _ _ D.i1z.symm hz₁)))
 have hk₅:∀c o,c≠z->c≠TO->c≠i1->c≠i2->s.heap.get? c=some o->h₅.get? c=some o:=λc o c1 c2 c3 c4 e=>hs₅.extBut _ _ c2 (hs₄.extBut _ _ c4 (hs₃.extBut _ _ c2 (hs₂.extBut _ _ c3 (hs₁.extBut _ _ c1 e))))
 have h1₅:SI b1 h₅ i1 l1 (k1+1):=((h1₂.but hs₃.extBut D.TOi1.symm).but hs₄.extBut D.i12).but hs₅.extBut D.TOi1.symm
 have h2₅:SI b2 h₅ i2 l2 (k2+1):=h2₄.but hs₅.extBut D.TOi2.symm
 have hzlt:z<h₅.objs.size:=AH hz₅
 show wpAny _ _ (Builtin.SmallTypes.ownedTupleHandOut (.ref z) (.ref h₅.objs.size)>>=_) _ _ _
 refine AA ?_
 unfold Builtin.SmallTypes.ownedTupleHandOut
 have hz₆:IsZip (h₅.push {cls:=.type "tuple",data:=.seq #[x,y]}) z TI TO .ellipsis:=AC _ hz₅
 refine AA (Db hz₆ (by simp) λh₇ hz₇ hs₇=>?_)
 replace hz₇:IsZip h₇ z TI TO (rawInt h₅.objs.size):=hz₇
 refine Db hz₇ (by simp) λh₈ hz₈ hs₈=>?_
 replace hz₈:IsZip h₈ z TI TO (rawInt h₅.objs.size):=hz₈
 have up:∀c o,c≠z->h₅.get? c=some o->h₈.get? c=some o:=λc o c1 e=>hs₈.extBut _ _ c1 (hs₇.extBut _ _ c1 (AC _ e))
 have hT₈:IsPair h₈ h₅.objs.size x y:=hs₈.extBut _ _ (Ev hzlt) (hs₇.extBut _ _ (Ev hzlt) (AQ _ rfl))
 rw[hsz]at hz₈ hT₈
 refine AI ⟨_,rfl,?_⟩
 show wpAny _ _ (pure (some (Value.ref h₅.objs.size))) _ _ _
 rw[hsz]
 exact AI (hQ h₈ hz₈ (up _ _ D.TOz hTO₅) (h1₅.keep λo e=>up _ o D.i1z e) (h2₅.keep λo e=>up _ o D.i2z e) hT₈ λc o c1 c2 c3 c4 e=>up c o c1 (hk₅ c o c1 c2 c3 c4 e))
theorem Gp {Q:Fin->Shared->Prop} (hh:A.handled=none) (D:ZipApart z TI TO i1 i2 l1 l2)
  (hz:IsZip s.heap z TI TO .none) (hTI:IsPair s.heap TI (.ref i1) (.ref i2)) (hTO:IsPair s.heap TO a b)
  (h1:SI b1 s.heap i1 l1 k1) (h2:SI b2 s.heap i2 l2 k2) (hl1:SQ b1 s.heap l1 xs) (hl2:SQ b2 s.heap l2 ys) (hend:xs[k1]? = none\/ys[k2]? = none)
  (hE:∀h' e,(∀c o,c≠z->c≠TO->c≠i1->c≠i2->s.heap.get? c=some o->h'.get? c=some o)->(∃o,h'.get? e=some o/\o.cls=.type "StopIteration")->E (.ref e) {s with heap:=h'}) :
  wpAny (model prog w) A (Builtin.«zip.__next__» ⟨[.ref z],[]⟩) Q E s:=by
 show wpAny _ _ (field (.ref z) 2>>=_) _ _ _
 refine AA (BO hz rfl (x:=.bool false) rfl ?_)
 show wpAny _ _ (field (.ref z) 3>>=_) _ _ _
 refine AA (BO hz rfl (x:=.ref TI) rfl ?_)
 refine AA (CP hTI rfl ?_)
 show wpAny _ _ (Builtin.SmallTypes.ownedTupleIsFree (.ref z)>>=_) _ _ _
 refine AA ?_
 unfold Builtin.SmallTypes.ownedTupleIsFree
 refine AA (BO hz rfl (x:=.none) rfl (AI ?_))
 simp![if_true]
 refine AA (GZ ?_)
 refine AA (BO hz rfl (x:=.ref TO) rfl ?_)
 refine AA (Db hz (by simp) λh₁ hz₁ hs₁=>?_)
 replace hz₁:IsZip h₁ z TI TO .ellipsis:=hz₁
 refine AA ?_
 simp![List.zipIdx_cons,List.zipIdx_nil,EG,List.forIn_nil]
 refine AA (AA (GJ ?_))
 show wpAny _ _ (Builtin.SmallTypes.nextOf (.ref i1)>>=_) _ _ _
 cases hx:xs[k1]? with
 | none =>
  refine AA (Eg hh (h1.but hs₁.extBut D.i1z) (hl1.but hs₁.extBut D.l1z) hx λh₂ e hs₂ ⟨oe,hoe,hce⟩=>?_)
  have hz₂:IsZip h₂ z TI TO .ellipsis:=hs₂ _ _ D.i1z.symm hz₁
  have hez:e≠z:=λx=>by subst x;rw[hz₂]at hoe;cases hoe;simp at hce
  exact Db hz₂ (by simp) λh₃ _ hs₃=>hE h₃ e (λc o c1 _ c3 _ x=>hs₃.extBut _ _ c1 (hs₂ _ _ c3 (hs₁.extBut _ _ c1 x))) ⟨oe,hs₃.extBut _ _ hez hoe,hce⟩
 | some x =>
  have hy:ys[k2]? = none:=by rcases hend with h | h;rw[hx]at h;cases h;exact h
  refine AA (vv (h1.but hs₁.extBut D.i1z) (hl1.but hs₁.extBut D.l1z) hx λh₂ h1₂ hs₂=>AI ?_)
  have hTO₂:IsPair h₂ TO a b:=hs₂.extBut _ _ D.TOi1 (hs₁.extBut _ _ D.TOz hTO)
  refine AA (CP hTO₂ rfl ?_)
  refine AA (FD hTO₂ λh₃ hTO₃ hs₃=>?_)
  refine AA (HH (AI ?_))
  refine AA (AA (GJ ?_))
  show wpAny _ _ (Builtin.SmallTypes.nextOf (.ref i2)>>=_) _ _ _
  refine AA (Eg hh (((h2.but hs₁.extBut D.i2z).but hs₂.extBut D.i12.symm).but hs₃.extBut D.TOi2.symm) (((hl2.but hs₁.extBut D.l2z).but hs₂.extBut D.l2i1).but hs₃.extBut D.l2TO) hy λh₄ e hs₄ ⟨oe,hoe,hce⟩=>?_)
  have hz₄:IsZip h₄ z TI TO .ellipsis:=hs₄ _ _ D.i2z.symm (hs₃.extBut _ _ D.TOz.symm (hs₂.extBut _ _ D.i1z.symm hz₁))
  have hez:e≠z:=λx=>by subst x;rw[hz₄]at hoe;cases hoe;simp at hce
  exact Db hz₄ (by simp) λh₅ _ hs₅=>hE h₅ e (λc o c1 c2 c3 c4 x=>hs₅.extBut _ _ c1 (hs₄ _ _ c4 (hs₃.extBut _ _ c2 (hs₂.extBut _ _ c3 (hs₁.extBut _ _ c1 x))))) ⟨oe,hs₅.extBut _ _ hez hoe,hce⟩
theorem J3 {Q:Option Value->Shared->Prop} (hh:A.handled=none) (D:ZipApart z TI TO i1 i2 l1 l2)
  (hz:IsZip s.heap z TI TO .none) (hTI:IsPair s.heap TI (.ref i1) (.ref i2)) (hTO:IsPair s.heap TO a b)
  (h1:SI b1 s.heap i1 l1 k1) (h2:SI b2 s.heap i2 l2 k2) (hl1:SQ b1 s.heap l1 xs) (hl2:SQ b2 s.heap l2 ys) (hend:xs[k1]? = none\/ys[k2]? = none)
  (hQ:∀h',(∀c o,c≠z->c≠TO->c≠i1->c≠i2->s.heap.get? c=some o->h'.get? c=some o)->Q none {s with heap:=h'}):wpAny (model prog w) A (pyNext (.ref z)) Q E s:=by
 have hT:s.TypeIs (.ref z) "zip":=⟨_,hz,rfl⟩
 unfold pyNext
 refine AA (wpAny_attempt (CC (name:=Str.ofString "__next__") hT FL
  (DG FL hT F.entry_zip_next (Gp hh D hz hTI hTO h1 h2 hl1 hl2 hend λh' e hk he=>?_) (F.args_zip_next_1 _))))
 obtain⟨o,ho,hc⟩:=he
 exact AA (wpAny_isInstance (T:="StopIteration") (b:=true) ⟨o,ho,hc⟩ isSubtype_stop (AI (hQ _ hk)))
abbrev zp1 (b1:Bool) (h:Heap) (l1:Addr):Heap:=h.push {cls:=.type (J0 b1),data:=.fields #[.ref l1,.int 0 0]}
abbrev zp2 (b1 b2:Bool) (h:Heap) (l1 l2:Addr):Heap:=(zp1 b1 h l1).push {cls:=.type (J0 b2),data:=.fields #[.ref l2,.int 0 0]}
abbrev zp3 (b1 b2:Bool) (h:Heap) (l1 l2:Addr):Heap:=(zp2 b1 b2 h l1 l2).push {cls:=.type "tuple",data:=.seq #[.ref h.objs.size,.ref (zp1 b1 h l1).objs.size]}
abbrev zp4 (b1 b2:Bool) (h:Heap) (l1 l2:Addr):Heap:=(zp3 b1 b2 h l1 l2).push {cls:=.type "tuple",data:=.seq #[.none,.none]}
abbrev zp5 (b1 b2:Bool) (h:Heap) (l1 l2:Addr):Heap:=(zp4 b1 b2 h l1 l2).push {cls:=.type "zip",data:=.fields #[.none,.bool false,.bool false,.ref (zp2 b1 b2 h l1 l2).objs.size,.ref (zp3 b1 b2 h l1 l2).objs.size]}
theorem J4 (b1 b2:Bool) (l1 l2:Addr) (xs ys:Array Value) :
  Meets (Builtin.«zip.__new__» ⟨[.type "zip",.ref l1,.ref l2],[]⟩) (λ_ R s=>SQ b1 s.heap l1 xs/\SQ b2 s.heap l2 ys /\
   R (.ok (.ret (.ref (zp4 b1 b2 s.heap l1 l2).objs.size))) {s with heap:=zp5 b1 b2 s.heap l1 l2}) :=
 .of_wp λprog w A R s h=>by
  obtain⟨hp,g,d,tk,os⟩:=s;obtain⟨hl1,hl2,h⟩:=h
  have hsub:=sub_zip
  have hL1:SQ b1 (Shared.heap ⟨hp,g,d,tk,os⟩) l1 xs:=hl1
  have hL2:SQ b2 (Shared.heap ⟨hp.push {cls:=.type (J0 b1),data:=.fields #[.ref l1,.int 0 0]},g,d,tk,os⟩) l2 ys:=SQ.push hl2 _
  wp_walk using A0 hL1,A0 hL2
  exact⟨_,rfl,h⟩
theorem Gq {Q:Value->Shared->Prop} (hl1:SQ b1 s.heap l1 xs) (hl2:SQ b2 s.heap l2 ys)
  (h:∀h',IsZip h' (s.heap.objs.size+4) (s.heap.objs.size+2) (s.heap.objs.size+3) .none->IsPair h' (s.heap.objs.size+2) (.ref s.heap.objs.size) (.ref (s.heap.objs.size+1)) ->
   IsPair h' (s.heap.objs.size+3) .none .none->SI b1 h' s.heap.objs.size l1 0->SI b2 h' (s.heap.objs.size+1) l2 0 ->
   (∀c o,s.heap.get? c=some o->h'.get? c=some o)->Q (.ref (s.heap.objs.size+4)) {s with heap:=h'}) :
  wpAny (model prog w) A (call (.type "zip") [.ref l1,.ref l2]) Q E s:=by
 refine callType_new F.called_zip (by decide) (F.typeCall_zip_2 _ _) (F.newCall_zip_2 _ _) (λobj=>F.args_object_init_3 obj _ _) F.entry_zip_new (J4 b1 b2 l1 l2 xs ys) ⟨hl1,hl2,?_⟩
 have z1:(zp1 b1 s.heap l1).objs.size=s.heap.objs.size+1:=CO ..
 have z2:(zp2 b1 b2 s.heap l1 l2).objs.size=s.heap.objs.size+2:=by rw[CO,z1]
 have z3:(zp3 b1 b2 s.heap l1 l2).objs.size=s.heap.objs.size+3:=by rw[CO,z2]
 have z4:(zp4 b1 b2 s.heap l1 l2).objs.size=s.heap.objs.size+4:=by rw[CO,z3]
 have g5:(zp5 b1 b2 s.heap l1 l2).get? (zp4 b1 b2 s.heap l1 l2).objs.size=some _:=AQ _ rfl
 have g4:(zp5 b1 b2 s.heap l1 l2).get? (zp3 b1 b2 s.heap l1 l2).objs.size=some _:=AC _ (AQ _ rfl)
 have g3:(zp5 b1 b2 s.heap l1 l2).get? (zp2 b1 b2 s.heap l1 l2).objs.size=some _:=AC _ (AC _ (AQ _ rfl))
 have g2:(zp5 b1 b2 s.heap l1 l2).get? (zp1 b1 s.heap l1).objs.size=some _:=AC _ (AC _ (AC _ (AQ _ rfl)))
 have g1:(zp5 b1 b2 s.heap l1 l2).get? s.heap.objs.size=some _:=AC _ (AC _ (AC _ (AC _ (AQ _ rfl))))
 have s1:SI b1 (zp5 b1 b2 s.heap l1 l2) s.heap.objs.size l1 0:=by cases b1<;>exact⟨_,g1,rfl,rfl⟩
 have s2:SI b2 (zp5 b1 b2 s.heap l1 l2) (zp1 b1 s.heap l1).objs.size l2 0:=by cases b2<;>exact⟨_,g2,rfl,rfl⟩
 show _/\_
 rw[z2,z3,z4]at g5
 rw[z1,z2]at g3
 rw[z3]at g4
 rw[z1]at s2
 rw[z4]
 exact⟨⟨_,g5,rfl⟩,h _ g5 g3 g4 s1 s2 λc o x=>AC _ (AC _ (AC _ (AC _ (AC _ x))))⟩
end
section
variable {X : Cx} {pins : List (Addr × Obj)} {σ : St} {H : Hp} {s : Shared} {φ : Phi}
theorem A1 {h':Heap} {t':Nat} {ch:List Addr} (I:Inv X pins σ H s) (k:∀b o,b∉ch->s.heap.get? b=some o->h'.get? b=some o) (hf:∀b∈ch,uv X pins H b):Inv X pins σ H {s with heap:=h',toks:=t'}:=by
 have nit:∀b u,H b=some u->b∉ch:=λb u e z=>by rw[(hf b z).1]at e;cases e
 refine I.step (g':=s.gens) (d':=s.drawn) (ch:=ch) (λb hb=>⟨(hf b hb).2.2.2.1,(hf b hb).2.1,(hf b hb).2.2.2.2.1,(hf b hb).2.2.2.2.2⟩) (λb o _ _ hc e _=>k b o hc e) (λb o _ _ hc e _=>⟨o.slots,k b o hc e⟩) (λ_ _ _ _ n=>n)
  (λb o hc e=>⟨o,k b o hc e⟩) (λ_ _ e=>e) (λ_ _ _ e=>e) (λb ps e=>⟨#[],by rw[e];simp⟩) (λm hm=>?_) (λb u e=>?_) I.bare
 ·obtain⟨o,es,ep,ho,r⟩:=hm
  exact⟨o,es,ep,k _ o (λz=>(hf _ z).2.1 rfl) ho,r⟩
 ·refine(I.hok b u e).stay (λc v hc q=>k c v ?_ q) (λ_ q=>q) λ_ _ q=>q
  rcases hc with z | z
  ·rw[z];exact nit b u e
  ·exact nit c _ z
def Sq (b:Bool) (K:PySem.W.Frag) (H:Hp) (a:Addr) (xs:List V):Prop:=match b with
 | true=>SqL K H a xs
 | false=>SqT K H a xs
theorem Sq.vals {b:Bool} {a:Addr} {xs:List V} (h:Sq b X.K H a xs) (I:Inv X pins σ H s):∃its:List Value,bw xs its/\SQ b s.heap a its.toArray/\xs.length<=sizeLine:=by
 cases b
 ·obtain⟨its,rv,p,hz⟩:=I.tuple h
  exact⟨its,rv,p,hz⟩
 ·obtain⟨its,rv,p,hz⟩:=I.list h
  exact⟨its,rv,p.isList,hz⟩
theorem Sq.inj {b:Bool} {a:Addr} {xs ys:List V} (h:Sq b X.K H a xs) (I:Inv X pins σ H s) (h':Sq b X.K H a ys):ys=xs:=by
 cases b
 ·exact I.tuple_inj h' h
 ·exact I.list_inj h' h
def Itz (K:PySem.W.Frag) (b1 b2:Bool) (a1 a2:Addr):L2.It :=
 ⟨λi H=>∃xs ys x y,Sq b1 K H a1 xs/\Sq b2 K H a2 ys/\xs[i]? = some x/\ys[i]? = some y,
 λi H v H'=>∃p x y,v=.ref p/\H p=none/\H'=upd H p (.tup [x,y])/\(∀xs,Sq b1 K H a1 xs->xs[i]? = some x)/\(∀ys,Sq b2 K H a2 ys->ys[i]? = some y),
 λi H=>∃xs ys,Sq b1 K H a1 xs/\Sq b2 K H a2 ys/\(xs.length<=i\/ys.length<=i)⟩
theorem Dd {P:Program} {w:World} {K:PySem.W.Frag} {elts:List Expr} {k:Nat} {tp:Pos} {b1 b2:Bool} {z TI TO i1 i2 a1 a2:Addr} (D:ZipApart z TI TO i1 i2 a1 a2) :
  Turn P w K (.Tuple elts k tp) (Itz K b1 b2 a1 a2) [z,TI,TO,i1,i2] z (λi h=>IsZip h z TI TO .none/\IsPair h TI (.ref i1) (.ref i2)/\(∃a b,IsPair h TO a b)/\SI b1 h i1 a1 i/\SI b2 h i2 a2 i) where
 mem:=by simp
 obj:=λi h ⟨hz,hTI,⟨ta,tb,hTO⟩,s1,s2⟩ b hb=>by
  simp![AJ,BP,or_false]at hb
  rcases hb with rfl | rfl | rfl | rfl | rfl
  ·exact⟨_,hz,λv e=>by cases e⟩
  ·exact⟨_,hTI,λv e=>by cases e⟩
  ·exact⟨_,hTO,λv e=>by cases e⟩
  ·obtain⟨o,e,_,d⟩:=s1.obj
   exact⟨o,e,λv q=>by rw[d]at q;cases q⟩
  ·obtain⟨o,e,_,d⟩:=s2.obj
   exact⟨o,e,λv q=>by rw[d]at q;cases q⟩
 keep:=λi h h' ⟨hz,hTI,⟨ta,tb,hTO⟩,s1,s2⟩ k=>⟨k z (by simp) _ hz,k TI (by simp) _ hTI,⟨ta,tb,k TO (by simp) _ hTO⟩,s1.keep λo e=>k i1 (by simp) o e,s2.keep λo e=>k i2 (by simp) o e⟩
 item:=by
  intro X hP hw hK hc i pins s σ H E I hf ⟨hz,hTI,⟨ta,tb,hTO⟩,s1,s2⟩ hg
  subst hP hw hK
  obtain⟨xs,ys,x,y,q1,q2,ex,ey⟩:=hg
  obtain⟨is1,rv1,p1,_⟩:=q1.vals I
  obtain⟨is2,rv2,p2,_⟩:=q2.vals I
  obtain⟨u1,hu1,ru1⟩:=rv1.get ex
  obtain⟨u2,hu2,ru2⟩:=rv2.get ey
  refine Gn D hz hTI hTO s1 s2 p1 p2 (x:=u1) (y:=u2) (by simpa using hu1) (by simpa using hu2) λh' c1 c2 c3 c4 c5 kk=>⟨_,rfl,wpAny_letOwnedTupleGo_zip c1 λh'' z'' sb=>?_⟩
  have fr:H s.heap.objs.size=none:=I.hok.fresh (AN _)
  have lt:∀b∈[z,TI,TO,i1,i2],b≠s.heap.objs.size:=by
   intro b hb
   simp![AJ,BP,or_false]at hb
   rcases hb with rfl | rfl | rfl | rfl | rfl
   ·exact AM (AH hz)
   ·exact AM (AH hTI)
   ·exact AM (AH hTO)
   ·obtain⟨o,e,_⟩:=s1.obj;exact AM (AH e)
   ·obtain⟨o,e,_⟩:=s2.obj;exact AM (AH e)
  have I1:Inv X pins σ (upd H s.heap.objs.size (.tup [x,y])) {s with heap:=s.heap.push {cls:=.type "tuple",data:=.seq #[u1,u2]},toks:=s.toks} :=
   I.laid (λb u e=>AC _ e) (AN _) ⟨by show 2<=sizeLine;rw[FB];decide,[u1,u2],.cons ru1 (.cons ru2 .nil),⟨_,AQ _ rfl,rfl,rfl,_,rfl⟩⟩
  have hf':∀b∈[z,TI,TO,i1,i2],uv X pins (upd H s.heap.objs.size (.tup [x,y])) b:=λb hb=>by
   obtain⟨f0,f⟩:=hf b hb
   exact⟨by rw[aw (lt b hb)];exact f0,f⟩
  have up:∀c o,c≠z->h'.get? c=some o->h''.get? c=some o:=λc o n e=>sb.extBut _ _ n e
  have I2:=A1 (s:={s with heap:=s.heap.push {cls:=.type "tuple",data:=.seq #[u1,u2]},toks:=s.toks}) (h':=h'') (t':=s.toks) (ch:=[z,TI,TO,i1,i2]) I1 (λb o hb e=>by
   simp![AJ,BP,or_false,not_or]at hb
   rcases Heap.get?_push_cases e with⟨rfl,rfl⟩ | e
   ·exact up _ _ hb.1 c5
   ·exact up _ _ hb.1 (kk b o hb.1 hb.2.2.1 hb.2.2.2.1 hb.2.2.2.2 e)) hf'
  refine⟨.ref s.heap.objs.size,_,I2,rfl,⟨_,x,y,rfl,fr,rfl,λzs hz'=>by rw[q1.inj I hz'];exact ex,λzs hz'=>by rw[q2.inj I hz'];exact ey⟩,?_,λb hb=>(hf' b hb).1⟩
  ·exact⟨z'',up _ _ D.TIz (kk _ _ D.TIz D.TITO D.TIi1 D.TIi2 hTI),⟨u1,u2,up _ _ D.TOz c2⟩,c3.keep λo e=>up _ o D.i1z e,c4.keep λo e=>up _ o D.i2z e⟩
 done:=by
  intro X hP hw hK hc i pins s σ H E I hf ⟨hz,hTI,⟨ta,tb,hTO⟩,s1,s2⟩ hg
  subst hP hw hK
  obtain⟨xs,ys,q1,q2,en⟩:=hg
  obtain⟨is1,rv1,p1,_⟩:=q1.vals I
  obtain⟨is2,rv2,p2,_⟩:=q2.vals I
  have l1:=rv1.length
  have l2:=rv2.length
  refine J3 (I.ok.hd hc) D hz hTI hTO s1 s2 p1 p2 (by rcases en with en | en;exact .inl (by simp;lia);exact .inr (by simp;lia)) λh' kk=>⟨rfl,A1 I (h':=h') (t':=s.toks) (ch:=[z,TI,TO,i1,i2]) (λb o hb e=>?_) hf⟩
  simp![AJ,BP,or_false,not_or]at hb
  exact kk b o hb.1 hb.2.2.1 hb.2.2.2.1 hb.2.2.2.2 e
 self:=λ_ _ _ _ _ st h=>wpAny_pyIter_zip st.1 h
theorem A2 {K:PySem.W.Frag} {ι:List Addr} {H:Hp} {μ:Sto} {d:D} {v:V} {ds:List D} {g:Gd} (S:Sim K ι H μ) (hd:IsD K ι H d v) (hw:cc μ d=some (ds,g)) :
  ∃b a xs,v=.ref a/\Sq b K H a xs/\aq K ι H ds xs/\∀ι2 H2 μ2,ι <+: ι2->Ext H H2->Sim K ι2 H2 μ2->gd g μ2->∃ys,Sq b K H2 a ys/\aq K ι2 H2 ds ys:=by
 cases d with
 | tup es =>
  simp![cc,BF,GK]at hw
  obtain⟨rfl,rfl⟩:=hw
  obtain⟨a,xs,rfl,hq,hds⟩:=f9 hd
  exact⟨false,a,xs,rfl,hq,hds,λι2 H2 μ2 q1 q2 q3 q4=>⟨xs,hq.ext q2,aq.mono q1 q2 _ _ hds⟩⟩
 | lst es =>
  simp![cc,BF,GK]at hw
  obtain⟨rfl,rfl⟩:=hw
  obtain⟨a,xs,rfl,hq,hds⟩:∃a xs,v=.ref a/\FzL K H a xs/\aq K ι H es xs:=by simpa[IsD]using hd
  exact⟨true,a,xs,rfl,hq.sq,hds,λι2 H2 μ2 q1 q2 q3 q4=>⟨xs,(hq.ext q2).sq,aq.mono q1 q2 _ _ hds⟩⟩
 | loc n =>
  obtain⟨a,rfl,hn⟩:∃a,v=.ref a/\ι[n]? = some a:=by simpa[IsD]using hd
  have pre:∀{ι2:List Addr},ι <+: ι2->ι2[n]? = some a:=λhp=>by
   obtain⟨t,rfl⟩:=hp
   rw[AK (AF.mp hn).1];exact hn
  cases em:μ[n]? with
  | none=>simp[cc,em]at hw
  | some o =>
   cases o with
   | l es =>
    simp![cc,em,BF,GK]at hw
    obtain⟨rfl,rfl⟩:=hw
    obtain⟨a',q',ho⟩:=S.at em
    rw[hn]at q';cases q'
    obtain⟨xs,f1,f2⟩:=ho
    refine⟨true,a,xs,rfl,(show LsL K H a xs from .inl f1).sq,aq.mono (CU) (.refl _) _ _ f2,λι2 H2 μ2 q1 q2 q3 q4=>?_⟩
    obtain⟨a2,e2,o2⟩:=q3.at (show μ2[n]? = some (.l es)from q4)
    rw[pre q1]at e2;cases e2
    obtain⟨ys,g1,g2⟩:=o2
    exact⟨ys,(show LsL K H2 a ys from .inl g1).sq,aq.mono (CU) (.refl _) _ _ g2⟩
   | r es =>
    simp![cc,em,BF,GK]at hw
    obtain⟨rfl,rfl⟩:=hw
    obtain⟨a',q',ho⟩:=S.at em
    rw[hn]at q';cases q'
    obtain⟨xs,f1,f2⟩:=ho
    refine⟨true,a,xs,rfl,(show LsL K H a xs from .inl f1).sq,f2,λι2 H2 μ2 q1 q2 q3 q4=>?_⟩
    obtain⟨a2,e2,o2⟩:=q3.at (show μ2[n]? = some (.r es)from q4)
    rw[pre q1]at e2;cases e2
    obtain⟨ys,g1,g2⟩:=o2
    exact⟨ys,(show LsL K H2 a ys from .inl g1).sq,g2⟩
   | d kvs=>simp[cc,em]at hw
   | dt kvs=>simp[cc,em]at hw
   | x _=>simp[cc,em]at hw
   | dead=>simp[cc,em]at hw
 | _=>simp[cc]at hw
theorem De {y:D} {ys:List D} (h:c6 [] y=some ys) (μ:Sto):cc μ y=some (ys,none):=by
 cases y<;>simp_all[c6,cc]
theorem J5 {a b:Expr} {xa xb:Ex} {elts:List Expr} {k:Nat} {tp:Pos} {p pos:Pos} (hg:Gl X "zip") (hm:X.mg "zip"=none) (ha:PE X a (tE X.K φ xa)) (hb:PE X b (tE X.K φ xb)) (hs:starEach [a,b] X.env=[(false,eval a X.env),(false,eval b X.env)])
  (hs2:starEach [b] X.env=[(false,eval b X.env)]):PI X (.Tuple elts k tp) (.Call (.Name "zip" p) [a,b] [] pos) (tI X.K φ (.zip xa xb)):=by
 intro pins s σv H R I ⟨ι,σ,μ,hS,hL,h⟩
 simp![evI]at h
 cases e1:evE φ xa σ μ with
 | exc _ _ _=>rw[e1]at h;exact h.elim
 | stuck=>rw[e1]at h;exact h.elim
 | ok d μ1 =>
 rw[e1]at h
 simp![Res.bj]at h
 cases e2:evE φ xb σ μ1 with
 | exc _ _ _=>rw[e2]at h;exact h.elim
 | stuck=>rw[e2]at h;exact h.elim
 | ok d2 μ2 =>
 rw[e2]at h
 simp![Res.bj]at h
 have hq:tEs X.K φ (.cons xa (.cons xb .nil)) σv H (λvs H1=>∃ι1,ι <+: ι1/\Ext H H1/\Sim X.K ι1 H1 μ2/\aq X.K ι1 H1 [d,d2] vs):=⟨ι,σ,μ,hS,hL,by
  simp![fb,e1,e2,Res.bj]
  exact λι1 v H1 p1 x1 s1 d1=>⟨ι1,p1,x1,s1,d1⟩⟩
 refine Call_ (mx I hg hm PyProof.Rows.boot_zip (CD (thn (wx ha (wx hb Ft hs2) (by rw[hs,hs2]) pos pins s σv H _ I hq) λus s1 ⟨vs,H1,I1,r1,ι1,p1,x1,S1,d1⟩=>?_) (by rw[hs,hs2]) (by rw[hs2];rfl)))
 simp![aq]at d1
 obtain⟨v1,_,rfl,q1,v2,_,rfl,q2,rfl⟩:=d1
 cases r1 with
 | cons ra rr =>
 cases rr with
 | cons rb rr =>
 cases rr
 cases ew:cc μ2 d with
 | none=>simp![ew]at h
 | some wg =>
 obtain⟨ds,g⟩:=wg
 cases ey:c6 [] d2 with
 | none=>simp![ew,ey]at h
 | some es =>
 simp![ew,ey]at h
 obtain⟨b1,a1,xs,rfl,sq1,ds1,st1⟩:=A2 S1 q1 ew
 obtain⟨b2,a2,ys,rfl,sq2,ds2,st2⟩:=A2 S1 q2 (De ey μ2)
 cases ra
 cases rb
 obtain⟨i1,rv1,p1',z1⟩:=sq1.vals I1
 obtain⟨i2,rv2,p2',z2⟩:=sq2.vals I1
 refine Gq p1' p2' λh' c1 c2 c3 c4 c5 kk=>?_
 refine wpAny_pyIter_zip c1 ?_
 have I2:Inv X pins σv H1 {s1 with heap:=h'}:=I1.kept (t':=s1.toks) kk
 refine⟨_,[s1.heap.objs.size+4,s1.heap.objs.size+2,s1.heap.objs.size+3,s1.heap.objs.size,s1.heap.objs.size+1],_,_,H1,rfl,I2,Dd (b1:=b1) (b2:=b2) (zipApart_new p1'.lt p2'.lt),⟨c1,c2,⟨_,_,c3⟩,c4,c5⟩,λb hb=>?_,h ι1 H1 _ p1 x1 S1 ?_⟩
 ·have hb':s1.heap.objs.size<=b:=by
   simp![AJ,BP,or_false]at hb
   rcases hb with rfl | rfl | rfl | rfl | rfl<;>first | exact AN _ | exact Nat.le_add_right _ _
  exact I1.fpOk hb' (I1.hok.fresh hb')
 ·have hlen:((ds.zip es).map λp=>D.tup [p.1,p.2]).length=min ds.length es.length:=by simp
  have n1:=ds1.length
  have n2:=ds2.length
  refine⟨by rw[hlen];lia,λi ι2 H2 μ3 q1 q2 q3 q4 hi=>?_,λi ι2 H2 μ3 w H3 q1 q2 q3 q4 hi hy=>?_,λι2 H2 μ3 q1 q2 q3 q4=>?_⟩
  ·rw[hlen]at hi
   obtain⟨xs',y1,y2⟩:=st1 ι2 H2 μ3 q1 q2 q3 q4
   obtain⟨ys',y3,y4⟩:=st2 ι2 H2 μ3 q1 q2 q3 trivial
   obtain⟨v,ev,_⟩:=y2.get (AB (by lia:i<ds.length))
   obtain⟨v',ev',_⟩:=y4.get (AB (by lia:i<es.length))
   exact⟨xs',ys',v,v',y1,y3,ev,ev'⟩
  ·rw[hlen]at hi
   obtain⟨xs',y1,y2⟩:=st1 ι2 H2 μ3 q1 q2 q3 q4
   obtain⟨ys',y3,y4⟩:=st2 ι2 H2 μ3 q1 q2 q3 trivial
   have hi1:i<ds.length:=by lia
   have hi2:i<es.length:=by lia
   obtain⟨v,ev,hv⟩:=y2.get (AB hi1)
   obtain⟨v',ev',hv'⟩:=y4.get (AB hi2)
   obtain⟨p,x,y,rfl,hp,rfl,f1,f2⟩:=hy
   have e1':=f1 _ y1
   rw[ev]at e1';cases e1'
   have e2':=f2 _ y3
   rw[ev']at e2';cases e2'
   have X1:Ext H2 (upd H2 p (.tup [v,v'])):=Ext.new hp
   refine⟨X1,q3.new hp,.tup [ds[i],es[i]],by simp[List.getElem?_zip_eq_some,hi1,hi2],tup_is (xs:=[v,v']) (.inl ?_) ?_⟩
   ·exact .inl br
   ·simp![aq]
    exact⟨v,_,rfl,IsD.mono (AD _) X1 _ _ hv,v',_,rfl,IsD.mono (AD _) X1 _ _ hv',rfl⟩
  ·obtain⟨xs',y1,y2⟩:=st1 ι2 H2 μ3 q1 q2 q3 q4
   obtain⟨ys',y3,y4⟩:=st2 ι2 H2 μ3 q1 q2 q3 trivial
   have m1:=y2.length
   have m2:=y4.length
   rw[hlen]
   exact⟨xs',ys',y1,y3,by lia⟩
theorem J6 {a b:Expr} {xa xb:Ex} {elts:List Expr} {k:Nat} {tp:Pos} {p pos:Pos} (hm:X.mg "zip"=none) (ha:PE X a (tE X.K φ xa)) (hb:PE X b (tE X.K φ xb)) (hg:Gl X "zip":=by rfl) (hs:starEach [a,b] X.env=[(false,eval a X.env),(false,eval b X.env)]:=by rfl) (hs2:starEach [b] X.env=[(false,eval b X.env)]:=by rfl) :
  PI X (.Tuple elts k tp) (.Call (.Name "zip" p) [a,b] [] pos) (tI X.K φ (.zip xa xb)):=J5 hg hm ha hb hs hs2
end
end Lp
namespace Lp.Sets
open PySem PySem.W PyProof.Rows
def lq (xs:Array Nat) (j p:Nat):Prop:=p<=xs.size/\(∀i,i<p->xs.getD i 0<j)/\∀i,p<=i->i<xs.size->j<=xs.getD i 0
open PySem PySem.W PyProof.Rows PySem.Calls
def intOf:Value->Int
 | .int n _=>n
 | _=>0
theorem ints_of:∀{vs:List Value} {ns:List Int},IntsAre vs ns->ns=vs.map intOf/\∀v∈vs,∃n t,v=.int n t
 | _,_,.nil=>⟨rfl,λv h=>by simp at h⟩
 | _,_,.cons n t r=>by
  obtain⟨e,h⟩:=ints_of r
  refine⟨by rw[AX,<-e];rfl,λv hv=>?_⟩
  rcases AJ.mp hv with rfl | hv
  ·exact⟨n,t,rfl⟩
  ·exact h v hv
end Lp.Sets
namespace Lp
open PySem PySem.Spec PyProof.Rows L2
namespace Sets
theorem vals_ints:∀{ns:List Int} {us:List Value},bw (ns.map V.int) us->IntsAre us ns
 | [],[],_=>.nil
 | n::r,u::us,h=>by
  cases h with
  | cons h1 h2 =>
   obtain⟨t,rfl⟩:=h1
   exact .cons n t (vals_ints h2)
 | [],u::us,h=>by cases h
 | n::r,[],h=>by cases h
end Sets
section
variable {X : Cx} {φ : Phi} {o e : Expr} {es : List Expr} {xo : Ex} {xs : Exs} {apos cpos : Pos}
def rInsert:V->List V->Hp->VK->Prop:=λx vs H Q=>∃l xs i y,x=.ref l/\vs=[.int i,y]/\H l=some (.lst xs)/\0<=i/\i<=(xs.length:Int)/\xs.length<sizeLine/\Q .non (upd H l (.lst (xs.take i.toNat++y::xs.drop i.toNat)))
theorem A3:MtM X "list.insert" rInsert:=by
 intro pins s σ H x vs v us Q I rx rv h
 obtain⟨l,xs,i,y,rfl,rfl,hH,h1,h2,hz,q⟩:=h
 cases rx
 obtain⟨a,u,rfl,ra,ru⟩:=vals2 rv
 obtain⟨t,rfl⟩:=ra
 obtain⟨z,its,n,r,hl,e⟩:=I.lstM hH
 have h24:sizeLine=16777216:=FB
 refine FW F.slot_list_insert ⟨_,e,rfl⟩ F.entry_list_insert (F.args_list_insert_3 _ _ _)
  (AutoSeq1.list_insert_list_int_val_1 l its.toArray n i t u (by rw[fitsIndex_both (k:=i) (by lia) (by lia)];decide) (by rw[AE];lia)) ⟨e,?_⟩
 refine⟨.non,_,I.lset (its':=its.take i.toNat++u::its.drop i.toNat) hH e ?_ ((r.take i.toNat).append (.cons ru (r.drop i.toNat))) ?_,rfl,q⟩
 ·have hk:(if i<0 then(i+((its.toArray.size:Nat):Int)).toNat else min i.toNat its.toArray.size)=i.toNat:=by
   rw[if_neg (by lia),AE];lia
  simp![hk]
  apply Array.toList_inj.mp
  simp
  exact EO (by simp)
 ·simp
  lia
theorem Dg:MtR X "list.insert" (rMt X.K .insert):=MtR.imp A3 λx vs H Q h0=>by
 obtain⟨ι,n,ob,xs,ds,μ,a,ws,hS,hds,rfl,ha,hH,h1,h2,h⟩:=F8 (by decide) h0
 clear h0
 simp![mtL]at h
 split at h
 ·rename_i i d
  obtain⟨v,w,rfl,hv,hw⟩:=As hds
  cases dh hv
  split at h
  ·rename_i hf
   rw[gw]at hf
   refine⟨a,ws,i,w,rfl,rfl,hH,hf.1,by rw[h1.length];exact hf.2.1,by rw[h1.length];exact hf.2.2.2,kg hS ha hH ((h1.take _).append ((aq.one hw).append (h1.drop _))) (λes e=>((h2 es e).take _).append ((aq.one (oi hf.2.2.1 hw es e)).append ((h2 es e).drop _))) (by simp[IsD]) h⟩
  ·exact h.elim
 ·exact h.elim
theorem vw (ho:PE X o (tE X.K φ xo)) (ha:PA X (e::es) (tEs X.K φ xs)) (h5:Ma X o "insert" e es apos cpos:=by exact⟨rfl,rfl,rfl,rfl,rfl⟩):PE X (.Call (.Attribute o "insert" apos) (e::es) [] cpos) (tE X.K φ (.meth .insert xo xs)) :=
 Ay (jo λ_ _=>rfl) (Fb EN F.slot_list_insert F.type_list_insert Dg ho ha h5.b h5.f h5.l h5.s h5.p)
end
theorem Dh {α:Type} {Q:α->Prop}:∀(j:Nat) e,([]:List α)[j]? = some e->Q e:=λj e h=>by simp at h
theorem cg {α:Type} {Q:α->Prop} {a:α} {l:List α} (h:Q a) (t:∀(j:Nat) e,l[j]? = some e->Q e):∀(j:Nat) e,(a::l)[j]? = some e->Q e
 | 0,_,z=>by
  have z':some a=some _:=z
  cases z'
  exact h
 | j+1,_,z=>t j _ z
theorem PS.nox {X:Cx} {st:Stmt} {t:TS} (h:PS X.nox st t):PS X st t:=λpins s σ H D I hw=>BI (h pins s σ H D (I.wish _) hw) (λ_ _ q=>q.unwish) λ_ _ z=>False.elim z
theorem PA.nox {X:Cx} {es:List Expr} {t:TA} (h:PA X.nox es t):PA X es t:=λpos pins s σ H Q I hw=>BI (h pos pins s σ H Q (I.wish _) hw) (λ_ _ ⟨vs,H',I',r,q⟩=>⟨vs,H',I'.unwish,r,q⟩) λ_ _ z=>False.elim z
abbrev XN (K:PySem.W.Frag) (c:Str) (cls:Value):Prop:=PySem.W.nsIn K mainGlobals c=some (some cls)
theorem A4 {K:PySem.W.Frag} {c:Str} {a b:Value} (h:XN K c a) (g:XN K c b):a=b:=BC (BC (Eq.trans (Eq.symm h) g))
abbrev EXK:=Value->Hp->Prop
def oo (K:PySem.W.Frag) (ι:List Addr) (H:Hp) (d:D) (μ':Sto) (Q:VK) (EX:EXK):Prop:=match zk d with
 | some (.inl d')=>∀ι' v H',ι <+: ι'->Ext H H'->Sim K ι' H' μ'->IsD K ι' H' d' v->Q v H'
 | some (.inr c)=>∀ι' cls H',ι <+: ι'->Ext H H'->Sim K ι' H' μ'->XN K c cls->EX cls H'
 | none=>False
def Di (K:PySem.W.Frag) (ι:List Addr) (H:Hp) (r:Res D) (Q:VK) (EX:EXK):Prop:=match r with
 | .ok d μ'=>oo K ι H d μ' Q EX
 | .exc _ _ _=>False
 | .stuck=>False
def mf (K:PySem.W.Frag) (ι:List Addr) (H:Hp) (r:Res Fl) (E:Ends) (EX:EXK):Prop:=match r with
 | .ok (.nx σ') μ'=>∀ι' σv H',ι <+: ι'->Ext H H'->Sim K ι' H' μ'->jx K ι' H' σ' σv->σ'.length=σv.length->E.nx σv H'
 | .ok (.rt d) μ'=>oo K ι H d μ' E.rt EX
 | .ok (.bk _) _=>False
 | .ok (.ct _) _=>False
 | .exc _ _ _=>False
 | .stuck=>False
section
variable {K : PySem.W.Frag} {ι ι' : List Addr} {H H' : Hp} {EX : EXK} {E : Ends} {Q : VK}
theorem oo.mono {d:D} {μ:Sto} (h:oo K ι H d μ Q EX) (hp:ι <+: ι') (he:Ext H H'):oo K ι' H' d μ Q EX:=by
 revert h
 unfold oo
 cases zk d with
 | none=>exact λh=>h
 | some r=>cases r with
  | inl d'=>exact λh ι2 v H2 p e=>h ι2 v H2 (hp.trans p) (he.trans e)
  | inr c=>exact λh ι2 v H2 p e=>h ι2 v H2 (hp.trans p) (he.trans e)
theorem mf.mono {r:Res Fl} (h:mf K ι H r E EX) (hp:ι <+: ι') (he:Ext H H'):mf K ι' H' r E EX:=by
 cases r with
 | ok f μ=>cases f with
  | nx σ=>exact λι2 v H2 p e=>h ι2 v H2 (hp.trans p) (he.trans e)
  | rt d=>exact oo.mono (Q:=E.rt) h hp he
  | bk _=>exact h
  | ct _=>exact h
 | exc _ _ _=>exact h
 | stuck=>exact h
theorem mf.bind {α:Type} {x:Res α} {f:α->Sto->Res Fl} (h:mf K ι H (x.bind f) E EX):∃d μ1,x=.ok d μ1/\mf K ι H (f d μ1) E EX:=by
 cases x with
 | ok d μ=>exact⟨d,μ,rfl,h⟩
 | exc _ _ _=>exact h.elim
 | stuck=>exact h.elim
theorem p8 {μ μ2:Sto} {r:Res D} {o:Option Str} (hS:Sim K ι H μ) (e:sk μ.length r=.ok o μ2)
  (h:match o with
   | none=>∀(v:V) ι' H',ι <+: ι'->Ext H H'->Sim K ι' H' μ2->Q v H'
   | some c=>∀ι' cls H',ι <+: ι'->Ext H H'->Sim K ι' H' μ2->XN K c cls->EX cls H'):Di K ι H r Q EX:=by
 cases r with
 | exc _ _ _=>cases e
 | stuck=>cases e
 | ok d μ' =>
  show oo K ι H d μ' Q EX
  unfold oo
  simp![sk]at e
  split at e
  ·rename_i hc
   rw[<-hS.len]at hc e
   cases ed:zk d with
   | none=>rw[ed]at e;cases e
   | some r =>
    rw[ed]at e
    cases r with
    | inl d' =>
     cases e
     exact λι' v H' p x s q=>h v ι H' (AD _) x (s.cut p hc)
    | inr c =>
     cases e
     exact λι' cls H' p x s q=>h ι cls H' (AD _) x (s.cut p hc) q
  ·cases e
end
def tR1 (K:PySem.W.Frag) (φ:Phi) (EX:EXK) (x:Sm):TS:=λE σv H=>∃ι σ μ,Sim K ι H μ/\jx K ι H σ σv/\σ.length=σv.length/\mf K ι H (evS φ x σ μ) E EX
def tR (K:PySem.W.Frag) (φ:Phi) (EX:EXK) (x:Sms):TS:=λE σv H=>∃ι σ μ,Sim K ι H μ/\jx K ι H σ σv/\σ.length=σv.length/\mf K ι H (gu φ x σ μ) E EX
def spX (K:PySem.W.Frag) (φ:Phi) (f:Nat):Sp:=λvs H Q E=>∃ι ds μ,Sim K ι H μ/\aq K ι H ds vs/\Di K ι H (φ f ds μ) Q λcls H'=>E cls none H'
def qw (P:Program) (w:World) (K:PySem.W.Frag) (mg:Str->Option Value) (base:Heap) (A:Around) (φ:Phi) (f:Nat) (x:Str):Prop :=
 ∃(k:Nat) (fa:Addr) (fd:FuncData) (ps:List Str),FnOk P w K mg base (CX1 P w) k fa fd ps (spX K φ f)/\Room k A/\mg x=some (.ref fa)/\PySem.W.keepIn K (.ref fa)=true/\Binds K fd ps []
def xall:List Str:=["LampError","BadBook","BadTicks","NoDeed","NoRest","BadRow"]
structure XC (K:PySem.W.Frag) (ad:Str->Addr) (c:Str):Prop where
 at_:XAt K (ad c)
 ex:PySem.W.excIn K (ad c) Ca B9=true
 sub:PySem.W.subIn K (.ref (ad c)) (.ref (ad "LampError"))=some true
 val:PySem.W.kitOne K (.ref (ad c)) (.type "ValueError")=some true
 kit:∀d∈xall,PySem.W.kitOne K (.ref (ad c)) (.ref (ad d))=some (zj c d)
structure XF (K:PySem.W.Frag) (mg:Str->Option Value):Prop where
 of:∃ad:Str->Addr,(∀c∈xall,XN K c (.ref (ad c))/\mg c=some (.ref (ad c)))/\PySem.W.excIn K (ad "LampError") Ca B9=true/\∀c∈xcls,XC K ad c
theorem ki {c:Str} (h:c∈xcls):c∈xall:=by
 simp![xcls,xall,AJ,BP,or_false]at h ⊢
 rcases h with rfl | rfl | rfl | rfl<;>simp
section
variable {X : Cx} {φ : Phi} {e : Expr} {es : List Expr} {x : Ex} {xes : Exs} {pos cpos epos np p : Pos} {s : Stmt} {ss : List Stmt} {xs : Sm} {xss : Sms} {EX : EXK}
theorem yr:PSs X [] (tR X.K φ EX .nil) :=
 PSs.imp zq λE σv H ⟨ι,σ,μ,hS,hL,hl,h⟩=>by
  simp![gu]at h
  exact h ι σv H (AD _) (.refl _) hS hL hl
theorem c0 (h1:PS X s (tR1 X.K φ EX xs)) (h2:PSs X ss (tR X.K φ EX xss)):PSs X (s::ss) (tR X.K φ EX (.cons xs xss)) :=
 PSs.imp (we h1 h2) λE σv H ⟨ι,σ,μ,hS,hL,hl,h⟩=>by
  simp![gu]at h
  refine⟨ι,σ,μ,hS,hL,hl,?_⟩
  obtain⟨f,μ1,e1,h⟩:=h.bind
  rw[e1]
  cases f with
  | nx σ'=>exact λι1 σ1 H1 p1 x1 s1 l1 z1=>⟨ι1,σ',μ1,s1,l1,z1,(show mf _ _ _ (gu φ xss σ' μ1) _ _ from h).mono p1 x1⟩
  | rt d=>exact h
  | bk σ'=>exact h
  | ct σ'=>exact h
theorem Ox (h1:PS X.nox s (tS X.K φ xs)):PS X s (tR1 X.K φ EX (.pl xs)) :=
 PS.imp (PS.nox h1) λE σv H ⟨ι,σ,μ,hS,hL,hl,h⟩=>by
  simp![evS]at h
  refine⟨ι,σ,μ,hS,hL,hl,?_⟩
  obtain⟨f,μ1,e1,h⟩:=h.bind
  rw[e1]
  cases f with
  | nx σ'=>exact h
  | rt d=>exact h.elim
  | bk σ'=>exact h.elim
  | ct σ'=>exact h.elim
theorem Gr (he:PE X.nox e (tE X.K φ x)):PS X (.Return (some e) pos) (tR1 X.K φ EX (.ret (.tup (.cons (.cst (.bl true)) (.cons x .nil))))) :=
 PS.imp (D0 (PE.nox he)) λE σv H ⟨ι,σ,μ,hS,hL,hl,h⟩=>by
  simp![evS,evE,fb,Res.bj,Res.bind_assoc]at h
  obtain⟨d,μ1,e1,h⟩:=h.bind
  refine⟨ι,σ,μ,hS,hL,?_⟩
  rw[e1]
  exact h
theorem Rf {c:Expr} {xc:Ex} {a b:List Stmt} {xa xb:Sms} (hc:PT X.nox c (tT X.K φ xc)) (ha:PSs X a (tR X.K φ EX xa)) (hb:PSs X b (tR X.K φ EX xb)):PS X (.If c a b pos) (tR1 X.K φ EX (.ite xc xa xb)) :=
 PS.imp (Hs (PT.nox hc) ha hb) λE σv H ⟨ι,σ,μ,hS,hL,hl,h⟩=>by
  simp![evS]at h
  obtain⟨d,μ1,e1,h⟩:=h.bind
  refine⟨ι,σ,μ,hS,hL,?_⟩
  rw[e1]
  cases d with
  | bl k =>
   intro ι1 x H1 p1 x1 s1 d1
   cases d1
   cases k with
   | true=>exact⟨ι1,σ,μ1,s1,hL.mono p1 x1,hl,(show mf _ _ _ (gu φ xa σ μ1) _ _ from h).mono p1 x1⟩
   | false=>exact⟨ι1,σ,μ1,s1,hL.mono p1 x1,hl,(show mf _ _ _ (gu φ xb σ μ1) _ _ from h).mono p1 x1⟩
  | _=>exact h.elim
theorem Gs {c:Str} (xf:XF X.K X.mg) (W:pe X EX) (ha:PA X.nox (e::es) (tEs X.K φ xes)) (hcx:c∈xcls:=by decide) (hx:X.ex=[]:=by rfl) (hc:X.calm=true:=by rfl) (hg:Gl X c:=by rfl) (hln:xes.len<=1000:=by decide)
  (hdb:(c==("__debug__":Str))=false:=by decide) (he:starEach (e::es) X.env=(false,eval e X.env)::starEach es X.env:=by rfl) (hpl:(backTo cpos (starEach es X.env)).any (·.1)=false:=by rfl) :
  PS X (.Raise (some (.Call (.Name c np) (e::es) [] cpos)) none pos) (tR1 X.K φ EX (.raise c xes)):=by
 obtain⟨ad,h1,h2,h3⟩:=xf.of
 refine PS.imp (Cb W hx hc (h3 c hcx).ex hg (h1 c (ki hcx)).2 (PA.nox ha) hdb he hpl) λD σv H ⟨ι,σ,μ,hS,hL,hl,h⟩=>?_
 simp![evS]at h
 obtain⟨ds,μ1,e1,h⟩:=h.bind
 refine⟨ι,σ,μ,hS,hL,?_⟩
 have hlen:=mr e1
 rw[e1]
 exact λι1 vs H1 p1 x1 s1 d1=>⟨by rw[d1.length,hlen];exact DJ (nk hln),h ι1 (.ref (ad c)) H1 p1 x1 s1 (h1 c (ki hcx)).1⟩
theorem dq {f:Nat} {y:Str} (W:pe X EX) (C:qw X.prog X.w X.K X.mg X.base X.A φ f y) (ha:PA X.nox (e::es) (tEs X.K φ xes)) (hx:X.ex=[]:=by rfl) (hg:Gl X y:=by rfl) (hdb:(y==("__debug__":Str))=false:=by decide)
  (he:starEach (e::es) X.env=(false,eval e X.env)::starEach es X.env:=by rfl) (hpl:(backTo cpos (starEach es X.env)).any (·.1)=false:=by rfl) (hs:swapsWith (.Call (.Name y p) (e::es) [] cpos) none pos.line X.env=pure false:=by rfl) :
  PS X (.Expr (.Call (.Name y p) (e::es) [] cpos) pos) (tR1 X.K φ EX (.callx f xes)):=by
 obtain⟨k,fa,fd,ps,F,hr,hm,hk,hb⟩:=C
 refine PS.imp (Cc W hx F hr hg hm hk hb ha hdb he hpl hs) λD σv H ⟨ι,σ,μ,hS,hL,hl,h⟩=>?_
 simp![evS]at h
 obtain⟨ds,μ1,e1,h⟩:=h.bind
 obtain⟨o,μ2,e2,h⟩:=h.bind
 refine⟨ι,σ,μ,hS,hL,?_⟩
 rw[e1]
 intro ι1 vs H1 p1 x1 s1 d1
 refine⟨ι1,ds,μ1,s1,d1,p8 s1 e2 ?_⟩
 cases o with
 | none=>exact λv ι2 H2 p2 x2 s2=>h ι2 σv H2 (p1.trans p2) (x1.trans x2) s2 ((hL.mono p1 x1).mono p2 x2) hl
 | some c=>exact λι2 cls H2 p2 x2 s2 hc=>h ι2 cls H2 (p1.trans p2) (x1.trans x2) s2 hc
theorem J7 {f ei:Nat} {y n:Str} {yp hp:Pos} {b0:Stmt} {body:List Stmt} (xf:XF X.K X.mg) (C:qw X.prog X.w X.K X.mg X.base X.A φ f y) (ha:PA X.nox (e::es) (tEs X.K φ xes)) (hbody:∀ev,PSs (X.mark ev) (b0::body) (tSs X.K φ xss))
  (hN:ndB X.N=true:=by rfl) (hni:X.N[ei]? = some n:=by rfl) (hkn:X.env.scope.names.lookup n=some .local:=by rfl) (hst:X.stack=X.env::X.outer:=by rfl) (hfr:X.env.frame=some X.env.locals:=by rfl) (hg:Gl X y:=by rfl) (hgL:Gl X "LampError":=by rfl) (hdb:(y==("__debug__":Str))=false:=by decide)
  (he:starEach (e::es) X.env=(false,eval e X.env)::starEach es X.env:=by rfl) (hpl:(backTo cpos (starEach es X.env)).any (·.1)=false:=by rfl) (hs:swapsWith (.Call (.Name y p) (e::es) [] cpos) none epos.line X.env=pure false:=by rfl) :
  PS X (.Try [.Expr (.Call (.Name y p) (e::es) [] cpos) epos] [.ExceptHandler (some (.Name "LampError" yp)) (some n) (b0::body) hp] [] [] pos) (tS X.K φ (.tryc f xes ei xss)):=by
 obtain⟨k,fa,fd,ps,F,hr,hm,hk,hb⟩:=C
 obtain⟨ad,h1,h2,h3⟩:=xf.of
 refine PS.imp (Fj hst hfr F hr hg hm hk hb ha hgL (h1 "LampError" (by simp[xall])).2 (p7 hN) hni hkn hbody hdb he hpl hs) λD σv H ⟨ι,σ,μ,hS,hL,hl,h⟩=>?_
 simp![evS]at h
 obtain⟨ds,μ1,e1,h⟩:=h.bind
 obtain⟨o,μ2,e2,h⟩:=h.bind
 refine⟨ι,σ,μ,hS,hL,?_⟩
 rw[e1]
 intro ι1 vs H1 p1 x1 s1 d1
 refine⟨ι1,ds,μ1,s1,d1,p8 s1 e2 ?_⟩
 cases o with
 | none=>exact λv ι2 H2 p2 x2 s2=>h ι2 σv H2 (p1.trans p2) (x1.trans x2) s2 ((hL.mono p1 x1).mono p2 x2) hl
 | some c =>
  intro ι2 cls H2 p2 x2 s2 hc
  simp![Kt]at h
  split at h
  ·rename_i hcx
   have hmem:c∈xcls:=HD.mp hcx
   have ec:cls=.ref (ad c):=A4 hc (h1 c (ki hmem)).1
   refine⟨⟨ad c,ec,(h3 c hmem).ex,h2,(h3 c hmem).sub⟩,λe he=>?_⟩
   have pp:ι2 <+: ι2++[e]:=⟨[e],rfl⟩
   have hl2:jx X.K (ι2++[e]) (upd H2 e (Kr e cls)) σ σv:=(((hL.mono p1 x1).mono p2 x2).mono pp (.new he))
   refine⟨ι2++[e],σ.set ei (some (.loc μ2.length)),μ2++[.x c],s2.push (o:=.x c) he ⟨cls,hc,br⟩,hl2.set hl ?_,by simp[hl],?_⟩
   ·simp![IsD]
    exact⟨e,rfl,by rw[<-s2.len];simp⟩
   ·obtain⟨fl,μ3,e3,h⟩:=h.bind
    rw[e3]
    cases fl with
    | nx σ' =>
     intro ι4 σv4 H4 p4 x4 s4 l4 z4
     refine h ι4 (σv4.set ei none) H4 (((p1.trans p2).trans pp).trans p4) (((x1.trans x2).trans (.new he)).trans x4) s4 (λj d ej=>?_) (by simp[z4])
     by_cases hj:ei=j
     ·subst hj
      by_cases hi:ei<σ'.length
      ·rw[AZ hi]at ej;cases ej
      ·rw[EV (by simp;lia)]at ej;cases ej
     ·rw[BB hj]at ej
      obtain⟨v,q1,q2⟩:=l4 j d ej
      exact⟨v,by rw[BB hj];exact q1,q2⟩
    | rt d=>exact h.elim
    | bk σ'=>exact h.elim
    | ct σ'=>exact h.elim
  ·exact h.elim
theorem A5 {cn:Str} {v2:V} (f:∀(k:Str) (cls:Value),k∈xcls->XN X.K k cls->∃C,cls=.ref C/\XAt X.K C/\∃u,RelV v2 u/\(∀u',RelV v2 u'->u'=u)/\PySem.W.kitOne X.K (.ref C) u=some (zj k cn)) :
  d0 X (.builtin "isinstance") (λxs H Q=>∃ι d μ v,xs=[v,v2]/\Sim X.K ι H μ/\IsD X.K ι H d v/\fz X.K (RD X.K) ι H (Hh (.own cn) d μ) Q):=by
 intro pins s σ H xs us Q I r ⟨ι,d,μ,v,e,hS,hd,h⟩
 subst e
 obtain⟨u,w,rfl,ru,rw'⟩:=vals2 r
 cases d with
 | loc n =>
  simp![Hh]at h
  split at h
  ·rename_i k em
   split at h
   ·rename_i hk
    obtain⟨a,ea,cls,hc,hH⟩:=hS.at em
    obtain⟨a',ev,ea'⟩:∃a,v=.ref a/\ι[n]? = some a:=by simpa[IsD]using hd
    rw[ea]at ea';cases ea'
    subst ev
    cases(show u=Value.ref a from ru)
    obtain⟨C,rfl,hat,u2,r2,uni,hkit⟩:=f k cls (HD.mp hk) hc
    cases uni w rw'
    have ob:=(I.hok a _ hH).1
    exact PySem.W.kia_one (Cf hat) I.kIn ob hkit (λz=>nomatch z) λtk=>⟨.bl (zj k cn),H,I.tok tk,rfl,h.ok hS (by simp[IsD])⟩
   ·exact h.elim
  ·exact h.elim
 | _=>exact h.elim
theorem ua {cn:Str} {p cp:Pos} {a:Expr} {xa:Ex} (xf:XF X.K X.mg) (hmi:X.mg "isinstance"=none) (ha:PE X a (tE X.K φ xa)) (hcn:cn∈xall:=by decide) (hgi:Gl X "isinstance":=by rfl) (hgc:Gl X cn:=by rfl) (hd:(cn==("__debug__":Str))=false:=by decide)
  (hs:starEach [a,.Name cn cp] X.env=(false,eval a X.env)::starEach [.Name cn cp] X.env:=by rfl):PE X (.Call (.Name "isinstance" p) [a,.Name cn cp] [] pos) (tE X.K φ (.isi xa (.own cn))):=by
 obtain⟨ad,h1,h2,h3⟩:=xf.of
 have hb:PE X (.Name cn cp) (tC (.ref (ad cn))):=Es hgc (h1 cn hcn).2 rfl hd
 refine PE.imp (jl (A5 (cn:=cn) (v2:=.ref (ad cn)) λk cls hk hc=>?_) hgi hmi boot_isinstance (ky ha (ky hb wj) hs) (by decide) (by decide) hs) λσv H Q ⟨ι,σ,μ,hS,hL,h⟩=>?_
 ·exact⟨ad k,A4 hc (h1 k (ki hk)).1,(h3 k hk).at_,.ref (ad cn),rfl,λu' q=>q,(h3 k hk).kit cn hcn⟩
 ·simp![evE]at h
  obtain⟨d,μ1,e1,h⟩:=h.bind
  refine⟨ι,σ,μ,hS,hL,?_⟩
  rw[e1]
  exact λι1 v H1 p1 x1 s1 d1=>⟨ι1,d,μ1,v,rfl,s1,d1,h.mono p1 x1⟩
theorem J8 {p cp:Pos} {a:Expr} {xa:Ex} (xf:XF X.K X.mg) (hmi:X.mg "isinstance"=none) (hmv:X.mg "ValueError"=none) (ha:PE X a (tE X.K φ xa)) (hgi:Gl X "isinstance":=by rfl) (hgc:Gl X "ValueError":=by rfl)
  (hbc:bootBuiltins "ValueError"=some (.type "ValueError"):=by first | boot_by_name | rfl | kernel_rfl) (hs:starEach [a,.Name "ValueError" cp] X.env=(false,eval a X.env)::starEach [.Name "ValueError" cp] X.env:=by rfl) :
  PE X (.Call (.Name "isinstance" p) [a,.Name "ValueError" cp] [] pos) (tE X.K φ (.isi xa (.own "ValueError"))):=by
 obtain⟨ad,h1,h2,h3⟩:=xf.of
 have hb:PE X (.Name "ValueError" cp) (tC (.ty "ValueError")):=Et hgc hmv hbc rfl (by decide) (by decide)
 refine PE.imp (jl (A5 (cn:="ValueError") (v2:=.ty "ValueError") λk cls hk hc=>?_) hgi hmi boot_isinstance (ky ha (ky hb wj) hs) (by decide) (by decide) hs) λσv H Q ⟨ι,σ,μ,hS,hL,h⟩=>?_
 ·exact⟨ad k,A4 hc (h1 k (ki hk)).1,(h3 k hk).at_,.type "ValueError",rfl,λu' q=>q,by rw[(h3 k hk).val];simp[zj]⟩
 ·simp![evE]at h
  obtain⟨d,μ1,e1,h⟩:=h.bind
  refine⟨ι,σ,μ,hS,hL,?_⟩
  rw[e1]
  exact λι1 v H1 p1 x1 s1 d1=>⟨ι1,d,μ1,v,rfl,s1,d1,h.mono p1 x1⟩
end
def oq (P:Program) (w:World) (K:PySem.W.Frag) (mg:Str->Option Value) (base:Heap) (A:Around) (φ:Phi) (f:Nat) (x:Str):Prop :=
 ∃(k:Nat) (fa:Addr) (fd:FuncData) (ps:List Str),FnOkQ P w K mg base k fa fd ps (spD K φ f)/\RoomQ k A/\mg x=some (.ref fa)/\PySem.W.keepIn K (.ref fa)=true/\Binds K fd ps []
theorem oq.mark {P:Program} {w:World} {K:PySem.W.Frag} {mg:Str->Option Value} {base:Heap} {A:Around} {φ:Phi} {f:Nat} {x:Str} (C:oq P w K mg base A φ f x) (e:Option Value):oq P w K mg base (A.mark e) φ f x:=by
 obtain⟨k,fa,fd,ps,F,hr,r⟩:=C
 exact⟨k,fa,fd,ps,F,hr.mark e,r⟩
theorem Gu {X:Cx} {φ:Phi} {x:Str} {p pos:Pos} {e:Expr} {es:List Expr} {xs:Exs} {f:Nat} {keep:Bool} (C:oq X.prog X.w X.K X.mg X.base X.A φ f x) (ha:PA X (e::es) (tEs X.K φ xs)) (hg:Gl X x:=by rfl) (hdb:(x==("__debug__":Str))=false:=by decide)
  (he:starEach (e::es) X.env=(false,eval e X.env)::starEach es X.env:=by rfl) (hpl:(backTo pos (starEach es X.env)).any (·.1)=false:=by rfl):PE X (.Call (.Name x p) (e::es) [] pos) (tE X.K φ (.call keep f xs)):=by
 obtain⟨k,fa,fd,ps,F,hr,hm,hk,hb⟩:=C
 refine PE.imp (Cg F hr hg hm hk hb ha hdb he hpl) λσv H Q ⟨ι,σ,μ,hS,hL,h⟩=>?_
 simp![evE]at h
 obtain⟨ds,μ1,e1,h⟩:=h.bind
 refine⟨ι,σ,μ,hS,hL,?_⟩
 rw[e1]
 intro ι1 vs H1 p1 x1 s1 d1
 exact⟨ι1,ds,μ1,s1,by rw[BD];exact d1,tq s1 (h.mono p1 x1)⟩
theorem ub {K:PySem.W.Frag} {ι:List Addr} {H:Hp} {ds:List D} {vs:List V} {N:List Str} {nn np:Nat} (hds:aq K ι H ds vs) (hl:ds.length=np) (hnn:nn=N.length) (hnp:np<=nn) :
  jx K ι H (ds.map some++List.replicate (nn-np) none) (L2.start N vs)/\(ds.map some++List.replicate (nn-np) none).length=(L2.start N vs).length:=by
 refine⟨λi d e=>?_,?_⟩
 ·by_cases hi:i<ds.length
  ·rw[AK (by simpa using hi),AU]at e
   cases ed:ds[i]? with
   | none=>rw[ed]at e;cases e
   | some d' =>
    rw[ed]at e
    simp![FI,BF]at e
    subst e
    obtain⟨v,ev,hv⟩:=hds.get ed
    refine⟨v,?_,hv⟩
    unfold L2.start
    rw[AK (by rw[AG,hds.length];exact hi),AU,ev]
    rfl
  ·rw[BK (by simpa using hi),CB]at e
   split at e<;>cases e
 ·unfold L2.start
  simp![BM,AG,ES,hds.length]
  lia
section
variable {P : Program} {w : World} {K : PySem.W.Frag} {mg : Str -> Option Value} {base : Heap} {x qual : Str} {st : Stmt} {fa : Addr} {fd : FuncData} {N ps : List Str} {n f : Nat} {T : List Df} {df : Df}
theorem Dj (F:Fun K x qual st fa fd) (S:FnScope N ps (ao st)) (hd:T[f]? = some df) (hnp:df.np=ps.length) (hnn:df.nn=N.length)
  (hb:∀(cdv:Value) (A:Around) (outer:List Env) (s:Shared) (H:Hp) (E:XK),Room n (A.deeper (envOfC qual (ao st) s.heap.objs.size fa cdv)) ->
   PSs (my (CX1 P w) P w K mg base N qual (ao st) fa cdv A outer s H E) (dn st) (tR K (ai T n) (λcls H'=>E cls none H') df.body)):FnOk P w K mg base (CX1 P w) (n+1) fa fd ps (spX K (ai T (n+1)) f):=by
 have len:∀{vs:List V} {H:Hp} {ds:List D} {ι:List Addr} {μ:Sto} {Q:VK} {EX:EXK},aq K ι H ds vs->Di K ι H (ai T (n+1) f ds μ) Q EX->ds.length=df.np:=λ{vs H ds ι μ Q EX} hds h=>by
  simp![ai,hd,Bo]at h
  split at h
  ·assumption
  ·exact h.elim
 have hle:df.np<=df.nn:=by rw[hnp,hnn];have:=congrArg List.length S.pre;rw[DF]at this;lia
 obtain⟨oc,od,kV,doc,pm,an,cdv,ct,osl,rfl,lk,hcd⟩:=F.ex
 refine Ie lk hcd S (λvs H Q E ⟨ι,ds,μ,hS,hds,h⟩=>?_) λA outer s H vs Q E hr ⟨ι,ds,μ,hS,hds,h⟩=>⟨_,hb cdv A outer s H E hr,?_⟩
 ·rw[hds.length,len hds h,hnp]
 ·have hl:=len hds h
  obtain⟨z1,z2⟩:=ub hds hl hnn hle
  refine⟨ι,ds.map some++List.replicate (df.nn-df.np) none,μ,hS,z1,z2,?_⟩
  simp![ai,hd,Bo,if_pos hl]at h
  cases er:gu (ai T n) df.body (ds.map some++List.replicate (df.nn-df.np) none) μ with
  | exc c es μ'=>rw[er]at h;exact h.elim
  | stuck=>rw[er]at h;exact h.elim
  | ok fl μ' =>
   rw[er]at h
   simp![Res.bj]at h
   cases fl with
   | nx σ'=>exact λι' σv H' p e s' l z=>h ι' .non H' p e s' (by simp[IsD])
   | rt d=>exact h
   | bk σ'=>exact h.elim
   | ct σ'=>exact h.elim
theorem Dk (F:Fun K x qual st fa fd) (S:FnScope N ps (ao st)) (hd:T[f]? = some df) (hnp:df.np=ps.length) (hnn:df.nn=N.length)
  (hb:∀(cdv:Value) (A:Around) (outer:List Env) (s:Shared) (H:Hp) (E:XK),RoomQ n (A.deeper (envOfC qual (ao st) s.heap.objs.size fa cdv)) ->
   PSs (my CX0 P w K mg base N qual (ao st) fa cdv A outer s H E).noisy (dn st) (tSs K (ai T n) df.body)):FnOkQ P w K mg base (n+1) fa fd ps (spD K (ai T (n+1)) f):=by
 have len:∀{vs:List V} {H:Hp} {ds:List D} {ι:List Addr} {μ:Sto} {Q:VK},aq K ι H ds vs->fz K (RD K) ι H (ai T (n+1) f ds μ) Q->ds.length=df.np:=λ{vs H ds ι μ Q} hds h=>by
  simp![ai,hd,Bo]at h
  split at h
  ·assumption
  ·exact h.elim
 have hle:df.np<=df.nn:=by rw[hnp,hnn];have:=congrArg List.length S.pre;rw[DF]at this;lia
 obtain⟨oc,od,kV,doc,pm,an,cdv,ct,osl,rfl,lk,hcd⟩:=F.ex
 refine Iw lk hcd S (λvs H Q E ⟨ι,ds,μ,hS,hds,h⟩=>?_) λA outer s H vs Q E hr ⟨ι,ds,μ,hS,hds,h⟩=>⟨_,hb cdv A outer s H E hr,?_⟩
 ·rw[hds.length,len hds h,hnp]
 ·have hl:=len hds h
  obtain⟨z1,z2⟩:=ub hds hl hnn hle
  refine⟨ι,ds.map some++List.replicate (df.nn-df.np) none,μ,hS,z1,z2,?_⟩
  simp![ai,hd,Bo,if_pos hl]at h
  cases er:gu (ai T n) df.body (ds.map some++List.replicate (df.nn-df.np) none) μ with
  | exc c es μ'=>rw[er]at h;exact h.elim
  | stuck=>rw[er]at h;exact h.elim
  | ok fl μ' =>
   rw[er]at h
   simp![Res.bj]at h
   cases fl with
   | nx σ'=>exact λι' σv H' p e s' l z=>h ι' .non H' p e s' (by simp[IsD])
   | rt d=>exact λι' v H' p e s' q=>h ι' v H' p e s' q
   | bk σ'=>exact h.elim
   | ct σ'=>exact h.elim
end
theorem Dl {P:Program} {w:World} {K:PySem.W.Frag} {mg:Str->Option Value} {base:Heap} {fa:Addr} {fd:FuncData} {ps:List Str} {f:Nat} {T:List Df}:FnOk P w K mg base (CX1 P w) 0 fa fd ps (spX K (ai T 0) f) :=
 ⟨λvs H Q E ⟨ι,ds,μ,hS,hds,h⟩=>h.elim,λA outer s H args us vs Q E hr he hb hv ⟨ι,ds,μ,hS,hds,h⟩=>h.elim⟩
theorem Dm {P:Program} {w:World} {K:PySem.W.Frag} {mg:Str->Option Value} {base:Heap} {fa:Addr} {fd:FuncData} {ps:List Str} {f:Nat} {T:List Df}:FnOkQ P w K mg base 0 fa fd ps (spD K (ai T 0) f) :=
 ⟨λvs H Q E ⟨ι,ds,μ,hS,hds,h⟩=>h.elim,λA outer s H args us vs Q E hr he hb hv ⟨ι,ds,μ,hS,hds,h⟩=>h.elim⟩
structure DerB (T:List Df) (e:Ent):Prop where
 sc:FnScope e.N e.ps (ao e.st)
 tb:T[e.id]? = some e.df
 np:e.df.np=e.ps.length
 nn:e.df.nn=e.N.length
section
variable (T : List Df) (P : Program) (w : World) (K : PySem.W.Frag) (mg : Str -> Option Value) (base : Heap) (es xs qs : List Ent)
abbrev Cs (A:Around) (n:Nat):Prop:=∀(j:Nat) e',es[j]? = some e'->Callee P w K mg base A (ai T n) e'.id e'.name
abbrev CsX (A:Around) (n:Nat):Prop:=∀(j:Nat) e',xs[j]? = some e'->qw P w K mg base A (ai T n) e'.id e'.name
abbrev CsQ (A:Around) (n:Nat):Prop:=∀(j:Nat) e',qs[j]? = some e'->oq P w K mg base A (ai T n) e'.id e'.name
structure DerP (e:Ent):Prop extends DerB T e where
 dv:∀(n:Nat) (fa:Addr) (cdv:Value) (A:Around) (outer:List Env) (s:Shared) (H:Hp) (E:XK),(A.deeper (envOfC e.name (ao e.st) s.heap.objs.size fa cdv)).units+64<cLine ->
  Cs T P w K mg base es (A.deeper (envOfC e.name (ao e.st) s.heap.objs.size fa cdv)) n->CsX T P w K mg base xs (A.deeper (envOfC e.name (ao e.st) s.heap.objs.size fa cdv)) n->CsQ T P w K mg base qs (A.deeper (envOfC e.name (ao e.st) s.heap.objs.size fa cdv)) n ->
  PSs (my CX0 P w K mg base e.N e.name (ao e.st) fa cdv A outer s H E).nox (dn e.st) (tSs K (ai T n) e.df.body)
structure DerX (e:Ent):Prop extends DerB T e where
 dv:∀(n:Nat) (fa:Addr) (cdv:Value) (A:Around) (outer:List Env) (s:Shared) (H:Hp) (E:XK),(A.deeper (envOfC e.name (ao e.st) s.heap.objs.size fa cdv)).units+64<cLine ->
  Cs T P w K mg base es (A.deeper (envOfC e.name (ao e.st) s.heap.objs.size fa cdv)) n->CsX T P w K mg base xs (A.deeper (envOfC e.name (ao e.st) s.heap.objs.size fa cdv)) n->CsQ T P w K mg base qs (A.deeper (envOfC e.name (ao e.st) s.heap.objs.size fa cdv)) n ->
  pe (my (CX1 P w) P w K mg base e.N e.name (ao e.st) fa cdv A outer s H E) (λcls H'=>E cls none H') ->
  PSs (my (CX1 P w) P w K mg base e.N e.name (ao e.st) fa cdv A outer s H E) (dn e.st) (tR K (ai T n) (λcls H'=>E cls none H') e.df.body)
structure DerQ (e:Ent):Prop extends DerB T e where
 dv:∀(n:Nat) (fa:Addr) (cdv:Value) (A:Around) (outer:List Env) (s:Shared) (H:Hp) (E:XK),(A.deeper (envOfC e.name (ao e.st) s.heap.objs.size fa cdv)).units+64<cLine ->
  CsQ T P w K mg base qs (A.deeper (envOfC e.name (ao e.st) s.heap.objs.size fa cdv)) n ->
  PSs (my CX0 P w K mg base e.N e.name (ao e.st) fa cdv A outer s H E).noisy (dn e.st) (tSs K (ai T n) e.df.body)
end
section
variable {T : List Df} {P : Program} {w : World} {K : PySem.W.Frag} {mg : Str -> Option Value} {base : Heap} {es xs qs : List Ent}
abbrev Hi (K:PySem.W.Frag) (mg:Str->Option Value) (es:List Ent):Prop:=∀(j:Nat) e,es[j]? = some e->ModOf K mg e
theorem all2 (M:Hi K mg es) (MX:Hi K mg xs) (MQ:Hi K mg qs) (Dv:∀(j:Nat) e,es[j]? = some e->DerP T P w K mg base es xs qs e) (DX:∀(j:Nat) e,xs[j]? = some e->DerX T P w K mg base es xs qs e) (DQ:∀(j:Nat) e,qs[j]? = some e->DerQ T P w K mg base qs e):∀(n:Nat),
  (∀(j:Nat) e,es[j]? = some e->∀(fa:Addr) (fd:FuncData),mg e.name=some (.ref fa)->Fun K e.name e.name e.st fa fd->FnOk P w K mg base CX0 n fa fd e.ps (spD K (ai T n) e.id)) /\
  (∀(j:Nat) e,xs[j]? = some e->∀(fa:Addr) (fd:FuncData),mg e.name=some (.ref fa)->Fun K e.name e.name e.st fa fd->FnOk P w K mg base (CX1 P w) n fa fd e.ps (spX K (ai T n) e.id)) /\
  (∀(j:Nat) e,qs[j]? = some e->∀(fa:Addr) (fd:FuncData),mg e.name=some (.ref fa)->Fun K e.name e.name e.st fa fd->FnOkQ P w K mg base n fa fd e.ps (spD K (ai T n) e.id))
 | 0=>⟨λj e _ fa fd _ _=>Gb,λj e _ fa fd _ _=>Dl,λj e _ fa fd _ _=>Dm⟩
 | n+1=>by
  obtain⟨ih,ihX,ihQ⟩:=all2 M MX MQ Dv DX DQ n
  have cs:∀{A:Around},Room n A->Cs T P w K mg base es A n:=λ{A} hr i e' he'=>by
   obtain⟨fa',fd',hm',hF',hb'⟩:=(M i e' he').ex
   exact⟨n,fa',fd',e'.ps,ih i e' he' fa' fd' hm' hF',hr,hm',hF'.kp,.all hb'⟩
  have cx:∀{A:Around},Room n A->CsX T P w K mg base xs A n:=λ{A} hr i e' he'=>by
   obtain⟨fa',fd',hm',hF',hb'⟩:=(MX i e' he').ex
   exact⟨n,fa',fd',e'.ps,ihX i e' he' fa' fd' hm' hF',hr,hm',hF'.kp,.all hb'⟩
  have cq:∀{A:Around},RoomQ n A->CsQ T P w K mg base qs A n:=λ{A} hr i e' he'=>by
   obtain⟨fa',fd',hm',hF',hb'⟩:=(MQ i e' he').ex
   exact⟨n,fa',fd',e'.ps,ihQ i e' he' fa' fd' hm' hF',hr,hm',hF'.kp,.all hb'⟩
  refine⟨λj e he fa fd hm hF=>?_,λj e he fa fd hm hF=>?_,λj e he fa fd hm hF=>?_⟩
  ·have d:=Dv j e he
   exact Ga hF d.sc d.tb d.np d.nn λcdv A outer s H E hr=>d.dv n fa cdv A outer s H E hr.units (cs hr) (cx hr) (cq hr.q)
  ·have d:=DX j e he
   exact Dj hF d.sc d.tb d.np d.nn λcdv A outer s H E hr=>d.dv n fa cdv A outer s H E hr.units (cs hr) (cx hr) (cq hr.q) B8
  ·have d:=DQ j e he
   exact Dk hF d.sc d.tb d.np d.nn λcdv A outer s H E hr=>d.dv n fa cdv A outer s H E hr.units (cq hr)
theorem Dn {n j:Nat} {e:Ent} {fa:Addr} (M:Hi K mg es) (MX:Hi K mg xs) (MQ:Hi K mg qs)
  (Dv:∀(base:Heap) (j:Nat) e,es[j]? = some e->DerP T P w K mg base es xs qs e) (DX:∀(base:Heap) (j:Nat) e,xs[j]? = some e->DerX T P w K mg base es xs qs e) (DQ:∀(base:Heap) (j:Nat) e,qs[j]? = some e->DerQ T P w K mg base qs e)
  (he:es[j]? = some e) (hfa:mg e.name=some (.ref fa)) (hps:e.ps=[("script":Str)])
  (hlaw:∀ns:List Int,ns.length<=63->∃μ',ai T n e.id [.lst (ns.map D.int)] []=.ok (.bl true) μ') :
  ∃fd:FuncData,(∀(s:Shared) (v:Value),BindsTo s fd ⟨[v],[]⟩ [("script",v)])/\∀base:Heap,K.In base->base.Ns mainGlobals mg->FnOk P w K mg base CX0 n fa fd ["script"] (C2 K):=by
 obtain⟨fa',fd,hm,hF,hb⟩:=(M j e he).ex
 have z:=hfa.symm.trans hm
 cases z
 rw[hps]at hb
 refine⟨fd,λs v=>.of_eq (hb [v] rfl),λbase _ _=>?_⟩
 have q:=((all2 M MX MQ (Dv base) (DX base) (DQ base) n).1 j e he fa fd hm hF).imp (sp':=C2 K) λvs H Q E ⟨a,ns,ev,hS,hl,q⟩=>by
  subst ev
  obtain⟨μ',el⟩:=hlaw ns hl
  refine⟨[],[.lst (ns.map D.int)],[],⟨rfl,List.nodup_nil,λn a o e1 e2=>by simp at e1⟩,?_,?_⟩
  ·simp![aq,IsD]
   exact⟨.ref a,[],rfl,⟨a,_,rfl,hS,aq.ints ns⟩,rfl⟩
  ·rw[el]
   intro ι' v H' p x s' d
   have ev:v=.bl true:=by simpa[IsD]using d
   subst ev
   exact q H'
 rw[hps]at q
 exact q
end
section
variable {T : List Df} {P : Program} {w : World} {K : PySem.W.Frag} {mg : Str -> Option Value} {base : Heap} {es xs qs : List Ent} {e : Ent}
theorem uc (dv:∀(n:Nat) (fa:Addr) (cdv:Value) (A:Around) (outer:List Env) (s:Shared) (H:Hp) (E:XK),(A.deeper (envOfC e.name (ao e.st) s.heap.objs.size fa cdv)).units+64<cLine ->
  Cs T P w K mg base es (A.deeper (envOfC e.name (ao e.st) s.heap.objs.size fa cdv)) n->CsX T P w K mg base xs (A.deeper (envOfC e.name (ao e.st) s.heap.objs.size fa cdv)) n->CsQ T P w K mg base qs (A.deeper (envOfC e.name (ao e.st) s.heap.objs.size fa cdv)) n ->
  PSs (my CX0 P w K mg base e.N e.name (ao e.st) fa cdv A outer s H E).nox (dn e.st) (tSs K (ai T n) e.df.body))
  (b:DerB T e:=by exact⟨⟨rfl,rfl,rfl,by decide +kernel,rfl,by decide +kernel,by decide +kernel⟩,rfl,rfl,rfl⟩):DerP T P w K mg base es xs qs e:=⟨b,dv⟩
theorem Ky (dv:∀(n:Nat) (fa:Addr) (cdv:Value) (A:Around) (outer:List Env) (s:Shared) (H:Hp) (E:XK),(A.deeper (envOfC e.name (ao e.st) s.heap.objs.size fa cdv)).units+64<cLine ->
  Cs T P w K mg base es (A.deeper (envOfC e.name (ao e.st) s.heap.objs.size fa cdv)) n->CsX T P w K mg base xs (A.deeper (envOfC e.name (ao e.st) s.heap.objs.size fa cdv)) n->CsQ T P w K mg base qs (A.deeper (envOfC e.name (ao e.st) s.heap.objs.size fa cdv)) n ->
  pe (my (CX1 P w) P w K mg base e.N e.name (ao e.st) fa cdv A outer s H E) (λcls H'=>E cls none H') ->
  PSs (my (CX1 P w) P w K mg base e.N e.name (ao e.st) fa cdv A outer s H E) (dn e.st) (tR K (ai T n) (λcls H'=>E cls none H') e.df.body))
  (b:DerB T e:=by exact⟨⟨rfl,rfl,rfl,by decide +kernel,rfl,by decide +kernel,by decide +kernel⟩,rfl,rfl,rfl⟩):DerX T P w K mg base es xs qs e:=⟨b,dv⟩
theorem Rg (dv:∀(n:Nat) (fa:Addr) (cdv:Value) (A:Around) (outer:List Env) (s:Shared) (H:Hp) (E:XK),(A.deeper (envOfC e.name (ao e.st) s.heap.objs.size fa cdv)).units+64<cLine ->
  CsQ T P w K mg base qs (A.deeper (envOfC e.name (ao e.st) s.heap.objs.size fa cdv)) n ->
  PSs (my CX0 P w K mg base e.N e.name (ao e.st) fa cdv A outer s H E).noisy (dn e.st) (tSs K (ai T n) e.df.body))
  (b:DerB T e:=by exact⟨⟨rfl,rfl,rfl,by decide +kernel,rfl,by decide +kernel,by decide +kernel⟩,rfl,rfl,rfl⟩):DerQ T P w K mg base qs e:=⟨b,dv⟩
structure XQ (K:PySem.W.Frag) (aL aB aT aD aR aW a:Addr) (b1 b2 b3 b4:Bool):Prop where
 at_:XAt K a
 ex:PySem.W.excIn K a Ca B9=true
 sub:PySem.W.subIn K (.ref a) (.ref aL)=some true
 val:PySem.W.kitOne K (.ref a) (.type "ValueError")=some true
 k0:PySem.W.kitOne K (.ref a) (.ref aL)=some true
 k1:PySem.W.kitOne K (.ref a) (.ref aB)=some b1
 k2:PySem.W.kitOne K (.ref a) (.ref aT)=some b2
 k3:PySem.W.kitOne K (.ref a) (.ref aD)=some b3
 k4:PySem.W.kitOne K (.ref a) (.ref aR)=some b4
 k5:PySem.W.kitOne K (.ref a) (.ref aW)=some false
theorem Mz {h:Heap} {aL aB aT aD aR aW:Addr} (X:K.In h) (G:h.Ns mainGlobals mg) (n0:PySem.W.nsIn K mainGlobals "LampError"=some (some (.ref aL))) (n1:PySem.W.nsIn K mainGlobals "BadBook"=some (some (.ref aB))) (n2:PySem.W.nsIn K mainGlobals "BadTicks"=some (some (.ref aT))) (n3:PySem.W.nsIn K mainGlobals "NoDeed"=some (some (.ref aD))) (n4:PySem.W.nsIn K mainGlobals "NoRest"=some (some (.ref aR))) (n5:PySem.W.nsIn K mainGlobals "BadRow"=some (some (.ref aW)))
  (l:PySem.W.excIn K aL Ca B9=true) (c1:XQ K aL aB aT aD aR aW aB true false false false) (c2:XQ K aL aB aT aD aR aW aT false true false false) (c3:XQ K aL aB aT aD aR aW aD false false true false) (c4:XQ K aL aB aT aD aR aW aR false false false true):XF K mg:=by
 obtain⟨ad,a0,a1,a2,a3,a4,a5⟩:∃ad:Str->Addr,ad "LampError"=aL/\ad "BadBook"=aB/\ad "BadTicks"=aT/\ad "NoDeed"=aD/\ad "NoRest"=aR/\ad "BadRow"=aW :=
  ⟨λc=>if c="LampError" then aL else if c="BadBook" then aB else if c="BadTicks" then aT else if c="NoDeed" then aD else if c="NoRest" then aR else aW,if_pos rfl,(if_neg (by decide)).trans (if_pos rfl),
   (if_neg (by decide)).trans ((if_neg (by decide)).trans (if_pos rfl)),(if_neg (by decide)).trans ((if_neg (by decide)).trans ((if_neg (by decide)).trans (if_pos rfl))),
   (if_neg (by decide)).trans ((if_neg (by decide)).trans ((if_neg (by decide)).trans ((if_neg (by decide)).trans (if_pos rfl)))),(if_neg (by decide)).trans ((if_neg (by decide)).trans ((if_neg (by decide)).trans ((if_neg (by decide)).trans (if_neg (by decide)))))⟩
 subst a0;subst a1;subst a2;subst a3;subst a4;subst a5
 have one:∀(c:Str) (b1 b2 b3 b4:Bool),XQ K (ad "LampError") (ad "BadBook") (ad "BadTicks") (ad "NoDeed") (ad "NoRest") (ad "BadRow") (ad c) b1 b2 b3 b4->[zj c "LampError",zj c "BadBook",zj c "BadTicks",zj c "NoDeed",zj c "NoRest",zj c "BadRow"]=[true,b1,b2,b3,b4,false]->XC K ad c:=by
  intro c b1 b2 b3 b4 q e
  simp![List.cons.injEq,and_true]at e
  obtain⟨e0,e1,e2,e3,e4,e5⟩:=e
  refine⟨q.at_,q.ex,q.sub,q.val,λd hd=>?_⟩
  simp![xall,AJ,BP,or_false]at hd
  rcases hd with rfl | rfl | rfl | rfl | rfl | rfl
  ·rw[e0];exact q.k0
  ·rw[e1];exact q.k1
  ·rw[e2];exact q.k2
  ·rw[e3];exact q.k3
  ·rw[e4];exact q.k4
  ·rw[e5];exact q.k5
 refine⟨ad,λc hc=>?_,l,λc hc=>?_⟩
 ·simp![xall,AJ,BP,or_false]at hc
  rcases hc with rfl | rfl | rfl | rfl | rfl | rfl
  ·exact⟨n0,DP X G n0⟩
  ·exact⟨n1,DP X G n1⟩
  ·exact⟨n2,DP X G n2⟩
  ·exact⟨n3,DP X G n3⟩
  ·exact⟨n4,DP X G n4⟩
  ·exact⟨n5,DP X G n5⟩
 ·simp![xcls,AJ,BP,or_false]at hc
  rcases hc with rfl | rfl | rfl | rfl
  ·exact one _ _ _ _ _ c1 (by decide)
  ·exact one _ _ _ _ _ c2 (by decide)
  ·exact one _ _ _ _ _ c3 (by decide)
  ·exact one _ _ _ _ _ c4 (by decide)
end
theorem yt {K:PySem.W.Frag} {ι:List Addr} {H:Hp} {EX:EXK} {Q:VK} {μ μ2:Sto} {r:Res D} {o:Sum D Str} (hS:Sim K ι H μ) (e:vc μ.length r=.ok o μ2)
  (h:match o with
   | .inl d=>∀(v:V) ι' H',ι <+: ι'->Ext H H'->Sim K ι' H' μ2->IsD K ι' H' d v->Q v H'
   | .inr c=>∀ι' cls H',ι <+: ι'->Ext H H'->Sim K ι' H' μ2->XN K c cls->EX cls H'):Di K ι H r Q EX:=by
 cases r with
 | exc _ _ _=>cases e
 | stuck=>cases e
 | ok d μ' =>
  show oo K ι H d μ' Q EX
  unfold oo
  simp![vc]at e
  split at e
  ·rename_i hc
   rw[<-hS.len]at hc e
   cases ed:zk d with
   | none=>rw[ed]at e;cases e
   | some r =>
    rw[ed]at e
    cases r with
    | inl d' =>
     dsimp only at e
     split at e
     ·rename_i hb
      cases e
      exact λι' v H' p x s q=>h v ι H' (AD _) x (s.cut p hc) (IsD.belowN p 8 d' v hb q)
     ·cases e
    | inr c =>
     cases e
     exact λι' cls H' p x s q=>h ι cls H' (AD _) x (s.cut p hc) q
  ·cases e
section
variable {X : Cx} {φ : Phi} {EX : EXK} {scope : Scope} {Nb : List Str} {cap : List Nat} {nl : Nat}
theorem Eh (i:Nat) (Nb:List Str) {f:Nat} {v y:Str} {vp p cpos pos tp tpos spos:Pos} {a:Expr} {es:List Expr} {target iter:Expr} {tg:Tg} {it:It} {xes:Exs} (W:pe X EX) (C:qw X.prog X.w X.K X.mg X.base X.A φ f y) (hmt:X.mg "tuple"=none)
  (hi:PI X target iter (tI X.K φ it)) (B:Mu X scope Nb target y cpos a es (tG X.K tg) (tEs X.K φ xes))
  (S:tu X.env.scope scope X.N Nb cap nl=true:=by first | rfl | kernel_rfl) (hc:X.calm=true:=by rfl) (hf:∀x,foldedSetIterable iter X.env x=pure x:=by intro _;rfl) (hsl:∀j∈slots tg,cap.length<=j:=by decide)
  (hx:X.ex=[]:=by rfl) (hst:X.stack=X.env::X.outer:=by rfl) (hfr:X.env.frame=some X.env.locals:=by rfl) (hdb:(y==("__debug__":Str))=false:=by decide) (hgt:Gl X "tuple":=by rfl)
  (hs1:starEach [.ListComp (.Call (.Name y p) (a::es) [] cpos) [⟨target,iter,[],0⟩] scope pos] X.env=(false,eval (.ListComp (.Call (.Name y p) (a::es) [] cpos) [⟨target,iter,[],0⟩] scope pos) X.env)::starEach [] X.env:=by rfl)
  (hN:ndB X.N=true:=by first | rfl | kernel_rfl) (hiN:X.N[i]? = some v:=by rfl) (hy:X.env.scope.names.lookup v=some .local:=by rfl)
  (hsw:swapsWith (.Call (.Name "tuple" tp) [.ListComp (.Call (.Name y p) (a::es) [] cpos) [⟨target,iter,[],0⟩] scope pos] [] tpos) (some (.Name v vp)) spos.line X.env=pure false:=by rfl) :
  PS X (.Assign [.Name v vp] (.Call (.Name "tuple" tp) [.ListComp (.Call (.Name y p) (a::es) [] cpos) [⟨target,iter,[],0⟩] scope pos] [] tpos) spos) (tR1 X.K φ EX (.mapx i cap nl tg it f xes)):=by
 obtain⟨k,fa,fd,ps,F,hr,hm,hk,hb⟩:=C
 refine PS.imp (D2 (p7 hN) hiN (.inl hy) (j9 kc hgt hmt (by first | exact GV | decide +kernel) (ky (Cm (p:=p) W hx hst hfr F hr hm hk hb hdb (ll S) hc hi B hf) wj hs1) (by decide) (by decide) hs1 rfl) hsw (.inr hy))
  λD σv H ⟨ι,σ,μ,hS,hL,hl,h⟩=>?_
 simp![evS]at h
 obtain⟨⟨ds,g⟩,μ1,e1,h⟩:=h.bind
 refine⟨ι,σ,μ,hS,hL,?_⟩
 rw[e1]
 intro ι1 H1 J p1 x1 s1 wk
 refine⟨λj k H' acc=>k=ds.length-j/\j<=ds.length/\acc.length<=j/\∃ι' μ' ys,ι1 <+: ι'/\Ext H1 H'/\Sim X.K ι' H' μ'/\aq X.K ι' H' ys acc /\
  mf X.K ι' H' ((zl g (λd μ=>ik (ee tg d (cap.map (λi=>(σ[i]?).getD none)++List.replicate nl none)) λσ'=>(fb φ xes σ' μ).bind λas μ=>vc μ.length (φ f as μ)) (ds.drop j) μ').bind (kMx σ i ys)) D EX,
  ⟨ds.length,by simp,GD _,AN _,ι1,μ1,[],AD _,.refl _,s1,by simp[aq],by simpa using h.mono p1 x1⟩,?_⟩
 rintro j k H' acc ⟨rfl,hj,hacc,ι',μ',ys,p',x',s',hys,h'⟩
 have wl:=wk.len
 by_cases hlt:j<ds.length
 ·obtain⟨d,ed⟩:∃d,ds[j]? = some d:=⟨ds[j],AB hlt⟩
  have edrop:ds.drop j=d::ds.drop (j+1):=by
   rw[EB hlt]
   rw[AB hlt]at ed
   cases ed;rfl
  rw[edrop]at h'
  simp![zl]at h'
  split at h'
  ·rename_i hgd
   right
   refine⟨wk.go j ι' H' μ' p' x' s' hgd hlt,by lia,λv H2 hy=>?_⟩
   obtain⟨x2,s2,d',ed',hd'⟩:=wk.yld j ι' H' μ' v H2 p' x' s' hgd hlt hy
   rw[ed]at ed';cases ed'
   rw[Res.bind_assoc]at h'
   cases eb:ee tg d (cap.map (λi=>(σ[i]?).getD none)++List.replicate nl none)with
   | none=>rw[eb]at h';exact h'.elim
   | some σb =>
    rw[eb]at h'
    simp![nq]at h'
    have hLb:=wy (cap:=cap) (nl:=nl) ((hL.mono (p1.trans p') (x1.trans x')).mono (AD _) x2)
    refine⟨ι',_,d,σb,hLb,?_,hd',eb,λσv2 l2 z2 z3 k2=>⟨wz hsl z3 k2,ι',σb,μ',s2,l2,?_⟩⟩
    ·simp[ef]
    ·rw[Res.bind_assoc]at h'
     obtain⟨as,μ2,e2,h2⟩:=h'.bind
     rw[e2]
     intro ι3 vs H3 p3 x3 s3 d3
     obtain⟨o,μ3,e3,h3⟩:=h2.bind
     refine⟨ι3,as,μ2,s3,d3,yt s3 e3 ?_⟩
     cases o with
     | inl y =>
      intro w ι4 H4 p4 x4 s4 d4
      refine⟨ds.length-(j+1),by lia,rfl,hlt,by simp;lia,ι4,μ3,ys++[y],(p'.trans p3).trans p4,((x'.trans x2).trans x3).trans x4,s4,(aq.mono (p3.trans p4) ((x2.trans x3).trans x4) _ _ hys).append (.one d4),?_⟩
      have h4:=h3.mono (p3.trans p4) ((x2.trans x3).trans x4)
      simp![kMc,Res.bind_assoc]at h4
      obtain⟨q,μ4,e4,h5⟩:=h4.bind
      rw[e4]
      cases q with
      | inl xs=>simpa[kMd,kMx]using h5
      | inr c=>simpa[kMd,kMx]using h5
     | inr c =>
      intro ι4 cls H4 p4 x4 s4 hc4
      have h4:=h3.mono (p3.trans p4) ((x2.trans x3).trans x4)
      simp![kMc,Res.bj,kMx]at h4
      exact h4 ι4 cls H4 (AD _) (.refl _) s4 hc4
  ·exact h'.elim
 ·have ej:j=ds.length:=by lia
  subst ej
  simp![GU,zl]at h'
  split at h'
  ·rename_i hgd
   refine .inl ⟨wk.stop ι' H' μ' p' x' s' hgd,by lia,λq hq=>?_⟩
   refine⟨q,acc,rfl,.inl ⟨.of br,λl hl2=>?_⟩⟩
   have hl0:H' l=none:=by
    by_cases z:l=q
    ·subst z;rw[br]at hl2;cases hl2
    ·rw[aw z]at hl2;exact hl2
   have xx:Ext H' (upd (upd H' q (.lst acc)) l (.tup acc)):=(Ext.new hq).trans (.new hl2)
   simp![Res.bj,kMx,BD]at h'
   refine h' ι' _ _ (AD _) xx ((s'.new hq).new hl2) ((((hL.mono p1 x1).mono p' x').mono (AD _) xx).set hl ?_) (by simp[hl])
   simp![IsD]
   exact⟨l,acc,rfl,.of br,aq.mono (AD _) xx _ _ hys⟩
  ·exact h'.elim
end
abbrev az:Nat:=3
abbrev cf:Nat:=4
abbrev bz:Nat:=5
abbrev jq:Nat:=7
abbrev kj:Nat:=8
abbrev jr:Nat:=9
abbrev aj:Nat:=11
abbrev ay:Nat:=12
abbrev lr:Nat:=13
abbrev i7:Nat:=14
abbrev jt:Nat:=15
abbrev gg:Nat:=16
abbrev ah:Nat:=173
abbrev cu:Nat:=174
abbrev da:Nat:=175
abbrev d5:Nat:=176
abbrev i8:Nat:=177
abbrev du:Nat:=178
abbrev dm:Nat:=179
abbrev d6:Nat:=180
abbrev de:Nat:=181
abbrev ot:Nat:=182
def D_law_next:Df:=⟨1,1,(.cons (.ite (.cmp (.blt .len .z (.cons (.var 0) .nil)) (.cons .gt (.cst (.int 0)) .nil)) (.cons (.ret (.meth .pop (.var 0) .nil)) .nil) .nil) (.cons (.ret (.cst (.int 0))) .nil))⟩
def D_law_turn:Df:=⟨1,2,(.cons (.set 1 (.bin .Mod .z (.bin .Mult .z (.bin .Add .z (.bin .Mod .z (.var 0) (.bin .Pow .z (.cst (.int 10)) (.cst (.int 60)))) (.cst (.int 1))) (.cst (.int 69621))) (.cst (.int 2147483647)))) (.cons (.ret (.bin .FloorDiv .z (.bin .Mod .z (.bin .Mult .z (.var 1) (.var 1)) (.cst (.int 1000000007))) (.cst (.int 7)))) .nil))⟩
def D_law_size:Df:=⟨2,3,(.cons (.set 2 (.call false cf (.cons (.var 0) .nil))) (.cons (.ite (.cmp (.bin .Mod .z (.var 2) (.cst (.int 8))) (.cons .lt (.cst (.int 6)) .nil)) (.cons (.ret (.blt .min .z (.cons (.var 1) (.cons (.bin .Mod .z (.bin .FloorDiv .z (.var 2) (.cst (.int 8))) (.cst (.int 13))) .nil)))) .nil) .nil) (.cons (.ite (.cmp (.bin .Mod .z (.var 2) (.cst (.int 8))) (.cons .eq (.cst (.int 6)) .nil)) (.cons (.ret (.bin .Sub .z (.var 1) (.bin .Mod .z (.bin .FloorDiv .z (.var 2) (.cst (.int 8))) (.cst (.int 2))))) .nil) .nil) (.cons (.ret (.bin .Mod .z (.var 0) (.bin .Add .z (.var 1) (.cst (.int 1))))) .nil))))⟩
def i9:Exs:=(.cons (.cmp (.bin .Mod .z (.bin .RShift .z (.var 0) (.bin .Add .z (.var 1) (.cst (.int 1)))) (.cst (.int 2))) (.cons .eq (.cst (.int 1)) .nil)) .nil)
def d7:Ex:=(.var 1)
def D_law_lamp:Df:=⟨2,6,(.cons (.set 2 (.call false bz (.cons (.call false az (.cons (.var 0) .nil)) (.cons (.bin .Pow .z (.cst (.int 10)) (.cst (.int 30))) .nil)))) (.cons (.set 3 (.blt .min .z (.cons (.var 2) (.cons (.call false bz (.cons (.call false az (.cons (.var 0) .nil)) (.cons (.bin .Pow .z (.cst (.int 10)) (.cst (.int 30))) .nil))) .nil)))) (.cons (.set 4 (.call false cf (.cons (.call false az (.cons (.var 0) .nil)) .nil))) (.cons (.set 5 (.tup .nil)) (.cons (.ite (.cmp (.bin .Mod .z (.var 4) (.cst (.int 2))) (.cons .eq (.cst (.int 1)) .nil)) (.cons (.set 5 (.blt .tuple .z (.cons (.comp .z [4] 1 (.one 1) (.rng (.var 1)) i9 d7) .nil))) .nil) .nil) (.cons (.ret (.tup (.cons (.var 2) (.cons (.var 3) (.cons (.var 5) .nil))))) .nil))))))⟩
def D_law_day:Df:=⟨2,6,(.cons (.set 2 (.call false bz (.cons (.call false az (.cons (.var 0) .nil)) (.cons (.bin .Pow .z (.cst (.int 10)) (.cst (.int 30))) .nil)))) (.cons (.set 3 (.call false bz (.cons (.call false az (.cons (.var 0) .nil)) (.cons (.bin .Pow .z (.cst (.int 10)) (.cst (.int 30))) .nil)))) (.cons (.set 4 (.call false bz (.cons (.call false az (.cons (.var 0) .nil)) (.cons (.bin .Pow .z (.cst (.int 10)) (.cst (.int 15))) .nil)))) (.cons (.set 5 (.blt .max .z (.cons (.cst (.int 1)) (.cons (.call false bz (.cons (.call false az (.cons (.var 0) .nil)) (.cons (.bin .Pow .z (.cst (.int 10)) (.cst (.int 15))) .nil))) .nil)))) (.cons (.ret (.tup (.cons (.var 2) (.cons (.var 3) (.cons (.var 4) (.cons (.var 5) (.cons (.bin .Mod .z (.call false cf (.cons (.call false az (.cons (.var 0) .nil)) .nil)) (.bin .Add .z (.var 1) (.cst (.int 1)))) .nil))))))) .nil)))))⟩
def fj:Ex:=(.call false jq (.cons (.var 0) (.cons (.var 1) .nil)))
def fk:Ex:=(.call false kj (.cons (.var 0) (.cons (.var 1) .nil)))
def D_law_book:Df:=⟨1,7,(.cons (.set 1 (.call false cf (.cons (.call false az (.cons (.var 0) .nil)) .nil))) (.cons (.set 2 (.bin .Add .z (.cst (.int 1)) (.bin .Mod .z (.var 1) (.cst (.int 3))))) (.cons (.set 3 (.bin .Add .z (.cst (.int 1)) (.bin .Mod .z (.bin .FloorDiv .z (.var 1) (.cst (.int 3))) (.cst (.int 4))))) (.cons (.ite (.cmp (.bin .Mod .z (.bin .FloorDiv .z (.var 1) (.cst (.int 12))) (.cst (.int 5))) (.cons .eq (.cst (.int 1)) .nil)) (.cons (.set 2 (.bin .Add .z (.cst (.int 1)) (.bin .Mod .z (.bin .FloorDiv .z (.var 1) (.cst (.int 60))) (.cst (.int 8))))) (.cons (.set 3 (.bin .Add .z (.cst (.int 1)) (.bin .Mod .z (.bin .FloorDiv .z (.var 1) (.cst (.int 480))) (.cst (.int 16))))) .nil)) .nil) (.cons (.set 4 (.call false bz (.cons (.call false az (.cons (.var 0) .nil)) (.cons (.bin .Pow .z (.cst (.int 10)) (.cst (.int 30))) .nil)))) (.cons (.set 5 (.call false bz (.cons (.call false az (.cons (.var 0) .nil)) (.cons (.bin .Pow .z (.cst (.int 10)) (.cst (.int 30))) .nil)))) (.cons (.set 6 (.comp .z [0,3] 1 (.one 2) (.rng (.var 2)) .nil fj)) (.cons (.ret (.tup (.cons (.var 4) (.cons (.var 5) (.cons (.blt .tuple .z (.cons (.var 6) .nil)) (.cons (.blt .tuple .z (.cons (.comp .z [0,2] 1 (.one 2) (.rng (.var 3)) .nil fk) .nil)) .nil)))))) .nil))))))))⟩
def D_refuse_unless:Df:=⟨2,2,(.cons (.ite (.not (.var 0)) (.cons .never .nil) .nil) .nil)⟩
def D_is_measure:Df:=⟨1,1,(.cons (.ret (.cmp (.cst (.int 0)) (.cons .le (.var 0) (.cons .le (.bin .Pow .z (.cst (.int 10)) (.cst (.int 30))) .nil)))) .nil)⟩
def iq:Ex:=(.cmp (.var 0) (.cons .lt (.var 1) .nil))
def D_rises:Df:=⟨1,1,(.cons (.ret (.blt .all .z (.cons (.comp .z [] 2 (.many [0,1]) (.zip (.var 0) (.sl .z (.var 0) (.so (.cst (.int 1))) .no)) .nil iq) .nil))) .nil)⟩
def ib:Ex:=(.cmp (.cst (.int 0)) (.cons .le (.var 1) (.cons .lt (.var 0) .nil)))
def D_made_lamp:Df:=⟨2,5,(.cons (.ex (.call false aj (.cons (.cmp (.blt .len .z (.cons (.var 0) .nil)) (.cons .eq (.cst (.int 3)) .nil)) (.cons (.cst (.str (PySem.Str.ofString "a lamp has a tank, its oil and the days away"))) .nil)))) (.cons (.unp [2,3,4] (.var 0)) (.cons (.ex (.call false aj (.cons (.call false ay (.cons (.var 2) .nil)) (.cons (.cst (.str (PySem.Str.ofString "a tank holds from 0 to 10**30 measures"))) .nil)))) (.cons (.ex (.call false aj (.cons (.cmp (.cst (.int 0)) (.cons .le (.var 3) (.cons .le (.var 2) .nil))) (.cons (.cst (.str (PySem.Str.ofString "a lamp has from 0 measures to what its tank holds"))) .nil)))) (.cons (.ex (.call false aj (.cons (.blt .all .z (.cons (.comp .z [1] 1 (.one 1) (.seq (.var 4)) .nil ib) .nil)) (.cons (.cst (.str (PySem.Str.ofString "a lamp is away on days of the book alone"))) .nil)))) (.cons (.ex (.call false aj (.cons (.call false lr (.cons (.var 4) .nil)) (.cons (.cst (.str (PySem.Str.ofString "the days away rise"))) .nil)))) (.cons (.ret (.tup (.cons (.var 2) (.cons (.var 3) (.cons (.blt .tuple .z (.cons (.var 4) .nil)) .nil))))) .nil)))))))⟩
def D_made_day:Df:=⟨2,7,(.cons (.ex (.call false aj (.cons (.cmp (.blt .len .z (.cons (.var 0) .nil)) (.cons .eq (.cst (.int 5)) .nil)) (.cons (.cst (.str (PySem.Str.ofString "a day has a boat, a most, a price, a length and the wanted lamps"))) .nil)))) (.cons (.unp [2,3,4,5,6] (.var 0)) (.cons (.ex (.call false aj (.cons (.call false ay (.cons (.var 2) .nil)) (.cons (.cst (.str (PySem.Str.ofString "a boat brings from 0 to 10**30 measures"))) .nil)))) (.cons (.ex (.call false aj (.cons (.call false ay (.cons (.var 3) .nil)) (.cons (.cst (.str (PySem.Str.ofString "from 0 to 10**30 measures can be bought"))) .nil)))) (.cons (.ex (.call false aj (.cons (.cmp (.cst (.int 0)) (.cons .le (.var 4) (.cons .le (.bin .Pow .z (.cst (.int 10)) (.cst (.int 15))) .nil))) (.cons (.cst (.str (PySem.Str.ofString "a price is from 0 to 10**15"))) .nil)))) (.cons (.ex (.call false aj (.cons (.cmp (.cst (.int 1)) (.cons .le (.var 5) (.cons .le (.bin .Pow .z (.cst (.int 10)) (.cst (.int 15))) .nil))) (.cons (.cst (.str (PySem.Str.ofString "a night has from 1 to 10**15 ticks"))) .nil)))) (.cons (.ex (.call false aj (.cons (.cmp (.cst (.int 0)) (.cons .le (.var 6) (.cons .le (.var 1) .nil))) (.cons (.cst (.str (PySem.Str.ofString "from 0 to all lamps are wanted"))) .nil)))) (.cons (.ret (.tup (.cons (.var 2) (.cons (.var 3) (.cons (.var 4) (.cons (.var 5) (.cons (.var 6) .nil))))))) .nil))))))))⟩
def ic:Ex:=(.call false i7 (.cons (.var 1) (.cons (.blt .len .z (.cons (.var 0) .nil)) .nil)))
def ie:Ex:=(.call false jt (.cons (.var 1) (.cons (.blt .len .z (.cons (.var 0) .nil)) .nil)))
def D_made_book:Df:=⟨4,6,(.cons (.ex (.call false aj (.cons (.call false ay (.cons (.var 0) .nil)) (.cons (.cst (.str (PySem.Str.ofString "a store keeps from 0 to 10**30 measures"))) .nil)))) (.cons (.ex (.call false aj (.cons (.call false ay (.cons (.var 1) .nil)) (.cons (.cst (.str (PySem.Str.ofString "a store has from 0 to 10**30 measures at first"))) .nil)))) (.cons (.ex (.call false aj (.cons (.cmp (.cst (.int 1)) (.cons .le (.blt .len .z (.cons (.var 2) .nil)) (.cons .le (.cst (.int 8)) .nil))) (.cons (.cst (.str (PySem.Str.ofString "a book has 1 to 8 lamps"))) .nil)))) (.cons (.ex (.call false aj (.cons (.cmp (.cst (.int 1)) (.cons .le (.blt .len .z (.cons (.var 3) .nil)) (.cons .le (.cst (.int 16)) .nil))) (.cons (.cst (.str (PySem.Str.ofString "a book has 1 to 16 days"))) .nil)))) (.cons (.set 4 (.blt .tuple .z (.cons (.comp .z [3] 1 (.one 1) (.seq (.var 2)) .nil ic) .nil))) (.cons (.set 5 (.blt .tuple .z (.cons (.comp .z [2] 1 (.one 1) (.seq (.var 3)) .nil ie) .nil))) (.cons (.ret (.tup (.cons (.var 0) (.cons (.var 1) (.cons (.var 4) (.cons (.var 5) .nil)))))) .nil)))))))⟩
def D_refuse_unless_2:Df:=⟨2,2,(.cons (.ite (.not (.var 0)) (.cons (.raise "BadBook" (.cons (.var 1) .nil)) .nil) .nil) .nil)⟩
def cv:Ex:=(.cmp (.cst (.int 0)) (.cons .le (.var 1) (.cons .lt (.var 0) .nil)))
def D_made_lamp_2:Df:=⟨2,5,(.cons (.callx ah (.cons (.cmp (.blt .len .z (.cons (.var 0) .nil)) (.cons .eq (.cst (.int 3)) .nil)) (.cons (.cst (.str (PySem.Str.ofString "a lamp has a tank, its oil and the days away"))) .nil))) (.cons (.pl (.unp [2,3,4] (.var 0))) (.cons (.callx ah (.cons (.call false ay (.cons (.var 2) .nil)) (.cons (.cst (.str (PySem.Str.ofString "a tank holds from 0 to 10**30 measures"))) .nil))) (.cons (.callx ah (.cons (.cmp (.cst (.int 0)) (.cons .le (.var 3) (.cons .le (.var 2) .nil))) (.cons (.cst (.str (PySem.Str.ofString "a lamp has from 0 measures to what its tank holds"))) .nil))) (.cons (.callx ah (.cons (.blt .all .z (.cons (.comp .z [1] 1 (.one 1) (.seq (.var 4)) .nil cv) .nil)) (.cons (.cst (.str (PySem.Str.ofString "a lamp is away on days of the book alone"))) .nil))) (.cons (.callx ah (.cons (.call false lr (.cons (.var 4) .nil)) (.cons (.cst (.str (PySem.Str.ofString "the days away rise"))) .nil))) (.cons (.ret (.tup (.cons (.cst (.bl true)) (.cons (.tup (.cons (.var 2) (.cons (.var 3) (.cons (.blt .tuple .z (.cons (.var 4) .nil)) .nil)))) .nil)))) .nil)))))))⟩
def D_made_day_2:Df:=⟨2,7,(.cons (.callx ah (.cons (.cmp (.blt .len .z (.cons (.var 0) .nil)) (.cons .eq (.cst (.int 5)) .nil)) (.cons (.cst (.str (PySem.Str.ofString "a day has a boat, a most, a price, a length and the wanted lamps"))) .nil))) (.cons (.pl (.unp [2,3,4,5,6] (.var 0))) (.cons (.callx ah (.cons (.call false ay (.cons (.var 2) .nil)) (.cons (.cst (.str (PySem.Str.ofString "a boat brings from 0 to 10**30 measures"))) .nil))) (.cons (.callx ah (.cons (.call false ay (.cons (.var 3) .nil)) (.cons (.cst (.str (PySem.Str.ofString "from 0 to 10**30 measures can be bought"))) .nil))) (.cons (.callx ah (.cons (.cmp (.cst (.int 0)) (.cons .le (.var 4) (.cons .le (.bin .Pow .z (.cst (.int 10)) (.cst (.int 15))) .nil))) (.cons (.cst (.str (PySem.Str.ofString "a price is from 0 to 10**15"))) .nil))) (.cons (.callx ah (.cons (.cmp (.cst (.int 1)) (.cons .le (.var 5) (.cons .le (.bin .Pow .z (.cst (.int 10)) (.cst (.int 15))) .nil))) (.cons (.cst (.str (PySem.Str.ofString "a night has from 1 to 10**15 ticks"))) .nil))) (.cons (.callx ah (.cons (.cmp (.cst (.int 0)) (.cons .le (.var 6) (.cons .le (.var 1) .nil))) (.cons (.cst (.str (PySem.Str.ofString "from 0 to all lamps are wanted"))) .nil))) (.cons (.ret (.tup (.cons (.cst (.bl true)) (.cons (.tup (.cons (.var 2) (.cons (.var 3) (.cons (.var 4) (.cons (.var 5) (.cons (.var 6) .nil)))))) .nil)))) .nil))))))))⟩
def D_made_book_2:Df:=⟨4,6,(.cons (.callx ah (.cons (.call false ay (.cons (.var 0) .nil)) (.cons (.cst (.str (PySem.Str.ofString "a store keeps from 0 to 10**30 measures"))) .nil))) (.cons (.callx ah (.cons (.call false ay (.cons (.var 1) .nil)) (.cons (.cst (.str (PySem.Str.ofString "a store has from 0 to 10**30 measures at first"))) .nil))) (.cons (.callx ah (.cons (.cmp (.cst (.int 1)) (.cons .le (.blt .len .z (.cons (.var 2) .nil)) (.cons .le (.cst (.int 8)) .nil))) (.cons (.cst (.str (PySem.Str.ofString "a book has 1 to 8 lamps"))) .nil))) (.cons (.callx ah (.cons (.cmp (.cst (.int 1)) (.cons .le (.blt .len .z (.cons (.var 3) .nil)) (.cons .le (.cst (.int 16)) .nil))) (.cons (.cst (.str (PySem.Str.ofString "a book has 1 to 16 days"))) .nil))) (.cons (.mapx 4 [3] 1 (.one 1) (.seq (.var 2)) cu (.cons (.var 1) (.cons (.blt .len .z (.cons (.var 0) .nil)) .nil))) (.cons (.mapx 5 [2] 1 (.one 1) (.seq (.var 3)) da (.cons (.var 1) (.cons (.blt .len .z (.cons (.var 0) .nil)) .nil))) (.cons (.ret (.tup (.cons (.cst (.bl true)) (.cons (.tup (.cons (.var 0) (.cons (.var 1) (.cons (.var 4) (.cons (.var 5) .nil))))) .nil)))) .nil)))))))⟩
def D_law_kinds:Df:=⟨1,2,(.cons (.set 1 (.lst .z (.cons (.isi (.var 0) (.own "BadBook")) (.cons (.isi (.var 0) (.own "BadTicks")) (.cons (.isi (.var 0) (.own "NoDeed")) (.cons (.isi (.var 0) (.own "NoRest")) .nil)))))) (.cons (.ret (.bin .Add .z (.var 1) (.lst .z (.cons (.isi (.var 0) (.own "BadRow")) (.cons (.isi (.var 0) (.own "ValueError")) .nil))))) .nil))⟩
def D_law_beyond:Df:=⟨3,4,(.cons (.set 3 (.bin .Add .z (.cst (.int 1)) (.bin .Mod .z (.bin .FloorDiv .z (.var 0) (.cst (.int 4))) (.bin .Pow .z (.cst (.int 10)) (.cst (.int 6)))))) (.cons (.ret (.ix (.lst .z (.cons (.bin .Sub .z (.var 1) (.cst (.int 1))) (.cons (.bin .Add .z (.var 2) (.cst (.int 1))) (.cons (.bin .Sub .z (.var 1) (.var 3)) (.cons (.bin .Add .z (.var 2) (.bin .Mult .z (.var 3) (.bin .Pow .z (.cst (.int 10)) (.cst (.int 20))))) .nil))))) (.bin .Mod .z (.var 0) (.cst (.int 4))))) .nil))⟩
def gi:Ex:=(.blt .list .l (.cons (.var 0) .nil))
def gj:Ex:=(.blt .list .l (.cons (.var 0) .nil))
def gk:Ex:=(.blt .tuple .z (.cons (.var 0) .nil))
def gm:Ex:=(.blt .tuple .z (.cons (.var 0) .nil))
def D_law_number_off:Df:=⟨2,11,(.cons (.set 2 (.comp .r [] 1 (.one 0) (.seq (.ix (.var 0) (.cst (.int 2)))) .nil gi)) (.cons (.set 3 (.comp .r [] 1 (.one 0) (.seq (.ix (.var 0) (.cst (.int 3)))) .nil gj)) (.cons (.set 4 (.lst .l (.cons (.ix (.var 0) (.cst (.int 0))) (.cons (.ix (.var 0) (.cst (.int 1))) .nil)))) (.cons (.set 5 (.bin .Mod .z (.var 1) (.cst (.int 8)))) (.cons (.set 6 (.bin .FloorDiv .z (.var 1) (.cst (.int 8)))) (.cons (.ite (.cmp (.var 5) (.cons .lt (.cst (.int 2)) .nil)) (.cons (.setx (.var 4) (.var 5) (.call false du (.cons (.var 6) (.cons (.cst (.int 0)) (.cons (.bin .Pow .z (.cst (.int 10)) (.cst (.int 30))) .nil))))) .nil) (.cons (.ite (.cmp (.var 5) (.cons .eq (.cst (.int 2)) .nil)) (.cons (.set 7 (.ix (.var 2) (.bin .Mod .z (.bin .FloorDiv .z (.var 6) (.cst (.int 4000003))) (.blt .len .z (.cons (.var 2) .nil))))) (.cons (.setx (.var 7) (.cst (.int 0)) (.call false du (.cons (.var 6) (.cons (.cst (.int 0)) (.cons (.bin .Pow .z (.cst (.int 10)) (.cst (.int 30))) .nil))))) (.cons (.setx (.var 7) (.cst (.int 1)) (.blt .min .z (.cons (.ix (.var 7) (.cst (.int 1))) (.cons (.blt .max .z (.cons (.cst (.int 0)) (.cons (.ix (.var 7) (.cst (.int 0))) .nil))) .nil)))) .nil))) (.cons (.ite (.cmp (.var 5) (.cons .eq (.cst (.int 3)) .nil)) (.cons (.set 7 (.ix (.var 2) (.bin .Mod .z (.bin .FloorDiv .z (.var 6) (.cst (.int 4000003))) (.blt .len .z (.cons (.var 2) .nil))))) (.cons (.setx (.var 7) (.cst (.int 1)) (.ix (.lst .z (.cons (.neg (.cst (.int 1))) (.cons (.bin .Add .z (.ix (.var 7) (.cst (.int 0))) (.cst (.int 1))) (.cons (.bin .Sub .z (.neg (.cst (.int 1))) (.bin .Mod .z (.var 6) (.bin .Pow .z (.cst (.int 10)) (.cst (.int 9))))) (.cons (.bin .Add .z (.bin .Add .z (.ix (.var 7) (.cst (.int 0))) (.bin .FloorDiv .z (.var 6) (.cst (.int 4)))) (.cst (.int 1))) .nil))))) (.bin .Mod .z (.var 6) (.cst (.int 4))))) .nil)) (.cons (.set 8 (.ix (.var 3) (.bin .Mod .z (.bin .FloorDiv .z (.var 6) (.cst (.int 4000003))) (.blt .len .z (.cons (.var 3) .nil))))) (.cons (.set 9 (.bin .Mod .z (.bin .FloorDiv .z (.var 6) (.cst (.int 3))) (.cst (.int 5)))) (.cons (.set 10 (.ix (.lst .z (.cons (.bin .Pow .z (.cst (.int 10)) (.cst (.int 30))) (.cons (.bin .Pow .z (.cst (.int 10)) (.cst (.int 30))) (.cons (.bin .Pow .z (.cst (.int 10)) (.cst (.int 15))) (.cons (.bin .Pow .z (.cst (.int 10)) (.cst (.int 15))) (.cons (.blt .len .z (.cons (.var 2) .nil)) .nil)))))) (.var 9))) (.cons (.setx (.var 8) (.var 9) (.call false du (.cons (.var 6) (.cons (.blt .int .z (.cons (.cmp (.var 9) (.cons .eq (.cst (.int 3)) .nil)) .nil)) (.cons (.var 10) .nil))))) .nil))))) .nil)) .nil)) (.cons (.ret (.tup (.cons (.ix (.var 4) (.cst (.int 0))) (.cons (.ix (.var 4) (.cst (.int 1))) (.cons (.comp .z [] 1 (.one 0) (.seq (.var 2)) .nil gk) (.cons (.comp .z [] 1 (.one 0) (.seq (.var 3)) .nil gm) .nil)))))) .nil)))))))⟩
def gx:Ex:=(.blt .list .l (.cons (.var 0) .nil))
def gy:Ex:=(.blt .list .l (.cons (.var 0) .nil))
def bf:Ex:=(.blt .tuple .z (.cons (.var 0) .nil))
def bh:Ex:=(.blt .tuple .z (.cons (.var 0) .nil))
def D_law_shape_off:Df:=⟨2,8,(.cons (.set 2 (.comp .r [] 1 (.one 0) (.seq (.ix (.var 0) (.cst (.int 2)))) .nil gx)) (.cons (.set 3 (.comp .r [] 1 (.one 0) (.seq (.ix (.var 0) (.cst (.int 3)))) .nil gy)) (.cons (.set 4 (.bin .FloorDiv .z (.var 1) (.cst (.int 8)))) (.cons (.set 5 (.ix (.var 2) (.bin .Mod .z (.var 4) (.blt .len .z (.cons (.var 2) .nil))))) (.cons (.set 6 (.ix (.var 3) (.bin .Mod .z (.var 4) (.blt .len .z (.cons (.var 3) .nil))))) (.cons (.set 7 (.bin .Mod .z (.var 1) (.cst (.int 8)))) (.cons (.ite (.cmp (.var 7) (.cons .eq (.cst (.int 0)) .nil)) (.cons (.setx (.var 5) (.cst (.int 2)) (.ix (.lst .z (.cons (.tup (.cons (.blt .len .z (.cons (.var 3) .nil)) .nil)) (.cons (.tup (.cons (.neg (.cst (.int 1))) .nil)) (.cons (.tup (.cons (.cst (.int 0)) (.cons (.cst (.int 0)) .nil))) (.cons (.tup (.cons (.bin .Sub .z (.blt .len .z (.cons (.var 3) .nil)) (.cst (.int 1))) (.cons (.blt .len .z (.cons (.var 3) .nil)) .nil))) .nil))))) (.bin .Mod .z (.bin .FloorDiv .z (.var 4) (.cst (.int 8))) (.cst (.int 4))))) .nil) (.cons (.ite (.cmp (.var 7) (.cons .eq (.cst (.int 1)) .nil)) (.cons (.setx (.var 5) (.cst (.int 2)) (.bin .Add .z (.bin .Add .z (.blt .list .z (.cons (.ix (.var 5) (.cst (.int 2))) .nil)) (.sl .z (.lst .z (.cons (.bin .Sub .z (.blt .len .z (.cons (.var 3) .nil)) (.cst (.int 1))) (.cons (.cst (.int 0)) .nil))) .no (.so (.bin .Add .z (.cst (.int 1)) (.bin .Mod .z (.bin .FloorDiv .z (.var 4) (.cst (.int 8))) (.cst (.int 2))))))) (.lst .z (.cons (.cst (.int 0)) .nil)))) .nil) (.cons (.ite (.cmp (.var 7) (.cons .eq (.cst (.int 2)) .nil)) (.cons (.ex (.meth .append (.var 5) (.cons (.tup .nil) .nil))) .nil) (.cons (.ite (.cmp (.var 7) (.cons .eq (.cst (.int 3)) .nil)) (.cons (.ex (.meth .pop (.var 5) .nil)) .nil) (.cons (.ite (.cmp (.var 7) (.cons .eq (.cst (.int 4)) .nil)) (.cons (.ex (.meth .insert (.var 6) (.cons (.bin .Mod .z (.bin .FloorDiv .z (.var 4) (.cst (.int 8))) (.cst (.int 6))) (.cons (.cst (.int 1)) .nil)))) .nil) (.cons (.ite (.cmp (.var 7) (.cons .eq (.cst (.int 5)) .nil)) (.cons (.ex (.meth .pop (.var 6) (.cons (.bin .Mod .z (.bin .FloorDiv .z (.var 4) (.cst (.int 8))) (.cst (.int 5))) .nil))) .nil) (.cons (.ite (.cmp (.var 7) (.cons .eq (.cst (.int 6)) .nil)) (.cons (.set 2 (.ix (.lst .z (.cons (.lst .z .nil) (.cons (.bin .Mult .z (.sl .z (.var 2) .no (.so (.cst (.int 1)))) (.cst (.int 9))) .nil))) (.bin .Mod .z (.bin .FloorDiv .z (.var 4) (.cst (.int 8))) (.cst (.int 2))))) .nil) (.cons (.set 3 (.ix (.lst .z (.cons (.lst .z .nil) (.cons (.bin .Mult .z (.sl .z (.var 3) .no (.so (.cst (.int 1)))) (.cst (.int 17))) .nil))) (.bin .Mod .z (.bin .FloorDiv .z (.var 4) (.cst (.int 8))) (.cst (.int 2))))) .nil)) .nil)) .nil)) .nil)) .nil)) .nil)) .nil)) (.cons (.ret (.tup (.cons (.ix (.var 0) (.cst (.int 0))) (.cons (.ix (.var 0) (.cst (.int 1))) (.cons (.comp .z [] 1 (.one 0) (.seq (.var 2)) .nil bf) (.cons (.comp .z [] 1 (.one 0) (.seq (.var 3)) .nil bh) .nil)))))) .nil))))))))⟩
def D_law_refused_2:Df:=⟨1,3,(.cons (.set 1 (.lst .z .nil)) (.cons (.tryc d5 (.cons (.ix (.var 0) (.cst (.int 0))) (.cons (.ix (.var 0) (.cst (.int 1))) (.cons (.ix (.var 0) (.cst (.int 2))) (.cons (.ix (.var 0) (.cst (.int 3))) .nil)))) 2 (.cons (.set 1 (.call false i8 (.cons (.var 2) .nil))) .nil)) (.cons (.ret (.cmp (.var 1) (.cons .eq (.lst .z (.cons (.cst (.bl true)) (.cons (.cst (.bl false)) (.cons (.cst (.bl false)) (.cons (.cst (.bl false)) (.cons (.cst (.bl false)) (.cons (.cst (.bl true)) .nil))))))) .nil))) .nil)))⟩
def gz:Ex:=(.call false az (.cons (.var 0) .nil))
def g6:Sms:=(.cons (.set 2 (.bin .Add .z (.var 2) (.call false cf (.cons (.var 5) .nil)))) (.cons (.ite (.or (.not (.call false de (.cons (.call false dm (.cons (.var 3) (.cons (.var 2) .nil))) .nil))) (.not (.call false de (.cons (.call false d6 (.cons (.var 3) (.cons (.var 2) .nil))) .nil)))) (.cons (.ret (.cst (.bl false))) .nil) .nil) .nil))
def D_law_k02:Df:=⟨1,8,(.cons (.set 1 (.blt .listRev .l (.cons (.var 0) .nil))) (.cons (.set 2 (.call false cf (.cons (.call false az (.cons (.var 1) .nil)) .nil))) (.cons (.set 3 (.call false jr (.cons (.var 1) .nil))) (.cons (.set 4 (.comp .z [1] 1 (.one 1) (.rng (.cst (.int 3))) .nil gz)) (.cons (.loop (.one 5) (.seq (.var 4)) g6) (.cons (.set 6 (.tup (.cons (.bin .Pow .z (.cst (.int 10)) (.cst (.int 30))) (.cons (.bin .Pow .z (.cst (.int 10)) (.cst (.int 30))) (.cons (.bin .Pow .z (.cst (.int 10)) (.cst (.int 15))) (.cons (.bin .Pow .z (.cst (.int 10)) (.cst (.int 15))) (.cons (.cst (.int 1)) .nil))))))) (.cons (.set 7 (.tup (.cons (.bin .Pow .z (.cst (.int 10)) (.cst (.int 30))) (.cons (.bin .Pow .z (.cst (.int 10)) (.cst (.int 30))) (.cons (.tup (.cons (.tup (.cons (.bin .Pow .z (.cst (.int 10)) (.cst (.int 30))) (.cons (.bin .Pow .z (.cst (.int 10)) (.cst (.int 30))) (.cons (.tup (.cons (.cst (.int 0)) (.cons (.cst (.int 1)) .nil))) .nil)))) .nil)) (.cons (.tup (.cons (.var 6) (.cons (.tup (.cons (.cst (.int 0)) (.cons (.cst (.int 0)) (.cons (.cst (.int 0)) (.cons (.cst (.int 1)) (.cons (.cst (.int 0)) .nil)))))) .nil))) .nil)))))) (.cons (.ret (.cmp (.call false gg (.cons (.ix (.var 7) (.cst (.int 0))) (.cons (.ix (.var 7) (.cst (.int 1))) (.cons (.ix (.var 7) (.cst (.int 2))) (.cons (.ix (.var 7) (.cst (.int 3))) .nil))))) (.cons .eq (.var 7) .nil))) .nil))))))))⟩
def Dz:Df:=⟨0,0,.nil⟩
def GL:List Df:=[Dz,Dz,Dz,D_law_next,D_law_turn,D_law_size,Dz,D_law_lamp,D_law_day,D_law_book,Dz,D_refuse_unless,D_is_measure,D_rises,D_made_lamp,D_made_day,D_made_book,Dz,Dz,Dz,Dz,Dz,Dz,Dz,Dz,Dz,Dz,Dz,Dz,Dz,Dz,Dz,Dz,Dz,Dz,Dz,Dz,Dz,Dz,Dz,Dz,Dz,Dz,Dz,Dz,Dz,Dz,Dz,Dz,Dz,Dz,Dz,Dz,Dz,Dz,Dz,Dz,Dz,Dz,Dz,Dz,Dz,Dz,Dz,Dz,Dz,Dz,Dz,Dz,Dz,Dz,Dz,Dz,Dz,Dz,Dz,Dz,Dz,Dz,Dz,Dz,Dz,Dz,Dz,Dz,Dz,Dz,Dz,Dz,Dz,Dz,Dz,Dz,Dz,Dz,Dz,Dz,Dz,Dz,Dz,Dz,Dz,Dz,Dz,Dz,Dz,Dz,Dz,Dz,Dz,Dz,Dz,Dz,Dz,Dz,Dz,Dz,Dz,Dz,Dz,Dz,Dz,Dz,Dz,Dz,Dz,Dz,Dz,Dz,Dz,Dz,Dz,Dz,Dz,Dz,Dz,Dz,Dz,Dz,Dz,Dz,Dz,Dz,Dz,Dz,Dz,Dz,Dz,Dz,Dz,Dz,Dz,Dz,Dz,Dz,Dz,Dz,Dz,Dz,Dz,Dz,Dz,Dz,Dz,Dz,Dz,Dz,Dz,Dz,Dz,Dz,Dz,Dz,D_refuse_unless_2,D_made_lamp_2,D_made_day_2,D_made_book_2,D_law_kinds,D_law_beyond,D_law_number_off,D_law_shape_off,D_law_refused_2,D_law_k02]
theorem yu:GL[az]? = some D_law_next:=rfl
theorem yv:GL[cf]? = some D_law_turn:=rfl
theorem yw:GL[bz]? = some D_law_size:=rfl
theorem yx:GL[jq]? = some D_law_lamp:=rfl
theorem A6:GL[kj]? = some D_law_day:=rfl
theorem yy:GL[jr]? = some D_law_book:=rfl
theorem ou:GL[aj]? = some D_refuse_unless:=rfl
theorem l8:GL[ay]? = some D_is_measure:=rfl
theorem A7:GL[lr]? = some D_rises:=rfl
theorem vx:GL[i7]? = some D_made_lamp:=rfl
theorem yz:GL[jt]? = some D_made_day:=rfl
theorem vy:GL[gg]? = some D_made_book:=rfl
theorem ir:GL[ah]? = some D_refuse_unless_2:=rfl
theorem km:GL[cu]? = some D_made_lamp_2:=rfl
theorem l9:GL[da]? = some D_made_day_2:=rfl
theorem qx:GL[d5]? = some D_made_book_2:=rfl
theorem vz:GL[i8]? = some D_law_kinds:=rfl
theorem ud:GL[du]? = some D_law_beyond:=rfl
theorem mh:GL[dm]? = some D_law_number_off:=rfl
theorem ow:GL[d6]? = some D_law_shape_off:=rfl
theorem ox:GL[de]? = some D_law_refused_2:=rfl
theorem A8:GL[ot]? = some D_law_k02:=rfl
end Lp
namespace Lr
open Lp
open PySem
theorem au {T:List Df} {n i:Nat} {d:Df} {ds:List D} {μ:Sto} (h:T[i]? = some d):ai T (n+1) i ds μ=Bo (ai T n) d ds μ:=by
 simp![ai,h]
def finD (fl:Fl) (μ:Sto):Res D:=match fl with
 | .nx _=>.ok .non μ
 | .rt d=>.ok d μ
 | _=>.stuck
@[simp] theorem M0 (d:D) (μ:Sto):finD (.rt d) μ=.ok d μ:=rfl
@[simp] theorem M1 (σ:Sl) (μ:Sto):finD (.nx σ) μ=.ok .non μ:=rfl
theorem run_eq {φ:Phi} {f:Df} {ds:List D} {μ:Sto} (h:ds.length=f.np):Bo φ f ds μ=(gu φ f.body (ds.map some++List.replicate (f.nn-f.np) none) μ).bind finD:=by
 rw[Bo,if_pos h];rfl
theorem iu (b:Nat):∀(k:Nat) (d:D),D.pureN k d=true->D.belowN b k d=true
 | 0,d,h=>by cases d<;>simp_all[D.pureN,D.belowN]
 | k+1,d,h=>by
  cases d with
  | tup ds =>
   simp![D.pureN,D.belowN,AO]at h ⊢
   exact λx hx=>iu b k x (h x hx)
  | lst ds =>
   simp![D.pureN,D.belowN,AO]at h ⊢
   exact λx hx=>iu b k x (h x hx)
  | loc n=>simp[D.pureN]at h
  | _=>rfl
theorem mv {k:Nat} {ds:List D}:D.pureN (k+1) (.tup ds)=ds.all (D.pureN k):=rfl
theorem iw {k:Nat} {i:Int}:D.pureN k (.int i)=true:=by cases k<;>rfl
abbrev fu (μ:Sto):Prop:=μ.all (dj μ.length)=true
theorem y0 {d:D} {μ:Sto} {b:Nat} (hd:d.pure=true) (hb:μ.length=b) (hr:fu μ):nu false b (.ok d μ)=.ok d μ:=by
 have e:μ.take b=μ:=EO (by omega)
 have hr':μ.all (dj b)=true:=by rw[<-hb];exact hr
 simp![nu,CA,if_false,e,iu b 8 d hd,hr',and_self,if_true]
@[simp] theorem y6 {d:D} {μ:Sto} {b:Nat}:nu true b (.ok d μ)=.ok d μ:=by simp[nu]
theorem op_mul {i j:Int} {μ:Sto} (h:CMul i j):opI .Mult i j μ=.ok (.int (i*j)) μ:=by simp[opI,h]
theorem jh {i j:Int} {μ:Sto} (h:0<j) (h2:j<1073741824):opI .FloorDiv i j μ=.ok (.int (i / j)) μ:=by simp[opI,h,h2]
theorem op_mod {i j:Int} {μ:Sto} (h:0<j):opI .Mod i j μ=.ok (.int (i % j)) μ:=by simp[opI,h]
theorem op_add {i j:Int} {μ:Sto}:opI .Add i j μ=.ok (.int (i+j)) μ:=rfl
theorem op_sub {i j:Int} {μ:Sto}:opI .Sub i j μ=.ok (.int (i-j)) μ:=rfl
theorem op_pow {i:Int} {j:Int} {μ:Sto} (h:0<=j/\j<=1000000/\i.natAbs<2 ^ 64):opI .Pow i j μ=.ok (.int (i ^ j.toNat)) μ:=by simp[opI,h]
theorem op_shr {i j:Int} {μ:Sto} (h:0<=j):opI .RShift i j μ=.ok (.int (i / 2 ^ j.toNat)) μ:=by simp[opI,h]
theorem Gv {op:Operator} {m:Mk} {i j:Int} {μ:Sto}:opD op m (.int i) (.int j) μ=opI op i j μ:=rfl
theorem _root_.Lp.CMul.left {i j:Int} (h:-(2 ^ 64)<i) (h2:i<2 ^ 64):CMul i j:=.inl ⟨h,h2⟩
theorem _root_.Lp.CMul.right {i j:Int} (h:-(2 ^ 64)<j) (h2:j<2 ^ 64):CMul i j:=.inr ⟨h,h2⟩
theorem fv (ns:List Bool):kf (ns.map D.bl)=some ns:=by
 induction ns with
 | nil=>rfl
 | cons n r ih=>simp[kf,ih]
open PySem
section
variable (φ : Phi)
def Oy (o:Option (Option D)) (μ:Sto):Res D:=match o with
 | some (some d)=>.ok d μ
 | _=>.stuck
def kB (op:Operator) (m:Mk) (b:Ex) (σ:Sl) (x:D) (μ:Sto):Res D:=(evE φ b σ μ).bind (opD op m x)
def kNeg (x:D) (μ:Sto):Res D:=match x with
 | .int i=>.ok (.int (-i)) μ
 | _=>.stuck
def kNot (x:D) (μ:Sto):Res D:=match x with
 | .bl b=>.ok (.bl (!b)) μ
 | _=>.stuck
def M3 (b:Ex) (σ:Sl) (x:D) (μ:Sto):Res D:=match x with
 | .bl c=>if c=true then evE φ b σ μ else .ok (.bl false) μ
 | _=>.stuck
def kOr (b:Ex) (σ:Sl) (x:D) (μ:Sto):Res D:=match x with
 | .bl c=>if c=true then .ok (.bl true) μ else evE φ b σ μ
 | _=>.stuck
def M4 (a b:Ex) (σ:Sl) (x:D) (μ:Sto):Res D:=match x with
 | .bl c=>if c=true then evE φ a σ μ else evE φ b σ μ
 | _=>.stuck
def Oz (r:Cps) (σ:Sl) (x:D) (μ:Sto):Res D:=evC φ r x σ μ
def Kz (r:Cps) (y:D) (σ:Sl) (z:D) (μ:Sto):Res D:=match z with
 | .bl b=>if b=true then evC φ r y σ μ else .ok (.bl false) μ
 | _=>.stuck
def kCh (op:Cp) (x:D) (r:Cps) (σ:Sl) (y:D) (μ:Sto):Res D:=(cpD op x y μ).bind (Kz φ r y σ)
def lu (keep:Bool) (f:Nat) (ds:List D) (μ:Sto):Res D:=nu keep μ.length (φ f ds μ)
def kM (mt:Mt) (es:Exs) (σ:Sl) (x:D) (μ:Sto):Res D:=if j3 mt x μ=true then(fb φ es σ μ).bind (mtD mt x)else .stuck
def kIx (b:Ex) (σ:Sl) (x:D) (μ:Sto):Res D:=(evE φ b σ μ).bind (ixD x)
def M5 (m:Mk) (hi:ExO) (σ:Sl) (x:D) (l:Option Int) (μ:Sto):Res D:=(evO φ hi σ μ).bind (slD m x l)
def kSl (m:Mk) (lo hi:ExO) (σ:Sl) (x:D) (μ:Sto):Res D:=(evO φ lo σ μ).bind (M5 φ m hi σ x)
def kTup (ds:List D) (μ:Sto):Res D:=.ok (.tup ds) μ
def M6 (d:D) (ds:List D) (μ:Sto):Res (List D):=.ok (d::ds) μ
def kEs (es:Exs) (σ:Sl) (d:D) (μ:Sto):Res (List D):=(fb φ es σ μ).bind (M6 d)
def kInt (x:D) (μ:Sto):Res (Option Int):=match x with
 | .int i=>.ok (some i) μ
 | _=>.stuck
def kOne (x:D) (μ:Sto):Res (List D):=.ok [x] μ
def K0 (elt:Ex) (σ:Sl) (b:Bool) (μ:Sto):Res (List D):=if b=true then(evE φ elt σ μ).bind kOne else .ok [] μ
def O0 (cs:Exs) (elt:Ex) (μ:Sto) (σ:Sl):Res (List D):=(ym φ cs σ μ).bind (K0 φ elt σ)
def mi (tg:Tg) (cs:Exs) (elt:Ex) (σ0:Sl) (d:D) (μ:Sto):Res (List D):=ik (ee tg d σ0) (O0 φ cs elt μ)
def cw (m:Mk) (tg:Tg) (cs:Exs) (elt:Ex) (σ0:Sl) (w:List D×Gd) (μ:Sto):Res D:=(mapR w.2 (mi φ tg cs elt σ0) w.1 μ).bind (mkL m)
def kCs (es:Exs) (σ:Sl) (x:D) (μ:Sto):Res Bool:=match x with
 | .bl b=>if b=true then ym φ es σ μ else .ok false μ
 | _=>.stuck
def kSeq (x:D) (μ:Sto):Res (List D×Gd):=match cc μ x with
 | some w=>.ok w μ
 | none=>.stuck
def kRng (x:D) (μ:Sto):Res (List D×Gd):=match x with
 | .int j=>if -(lim:Int)<=j/\j<=lim then .ok ((List.range j.toNat).map fun(i:Nat)=>D.int i,none) μ else .stuck
 | _=>.stuck
def Ei (x y:D) (μ:Sto):Res (List D×Gd):=match x,y with
 | .int i,.int j=>if -(lim:Int)<=i/\i<=lim/\j<=lim /\ -(lim:Int)<=j/\(j-i)<=lim then .ok ((List.range (j-i).toNat).map fun(k:Nat)=>D.int (i+k),none) μ else .stuck
 | _,_=>.stuck
def J9 (b:Ex) (σ:Sl) (x:D) (μ:Sto):Res (List D×Gd):=(evE φ b σ μ).bind (Ei x)
def Gw (x y:D) (μ:Sto):Res (List D×Gd):=match cc μ x,c6 [] y with
 | some w,some ys=>.ok ((w.1.zip ys).map λp=>.tup [p.1,p.2],w.2) μ
 | _,_=>.stuck
def O1 (b:Ex) (σ:Sl) (x:D) (μ:Sto):Res (List D×Gd):=(evE φ b σ μ).bind (Gw x)
def kEnum (x:D) (μ:Sto):Res (List D×Gd):=match cc μ x with
 | some w=>.ok ((List.range w.1.length |>.zip w.1).map fun(p:Nat×D)=>.tup [.int p.1,p.2],w.2) μ
 | none=>.stuck
def kVals (x:D) (μ:Sto):Res (List D×Gd):=match x with
 | .loc n=>match μ[n]? with
  | some (.d kvs)=>.ok (kvs.map (·.2),none) (μ.set n .dead)
  | _=>.stuck
 | _=>.stuck
def O2 (i:Nat) (σ:Sl) (d:D) (μ:Sto):Res Fl:=.ok (.nx (σ.set i (some d))) μ
def M7 (o:Option Sl) (μ:Sto):Res Fl:=match o with
 | some σ'=>.ok (.nx σ') μ
 | none=>.stuck
def O3 (is:List Nat) (σ:Sl) (d:D) (μ:Sto):Res Fl:=M7 (ee (.many is) d σ) μ
def kNx {α:Type} (σ:Sl) (_:α) (μ:Sto):Res Fl:=.ok (.nx σ) μ
def M8 (σ:Sl) (d x:D) (y:D) (μ:Sto):Res Fl:=(rn x y d μ).bind (kNx σ)
def M9 (i:Ex) (σ:Sl) (d:D) (x:D) (μ:Sto):Res Fl:=(evE φ i σ μ).bind (M8 σ d x)
def kSx (o i:Ex) (σ:Sl) (d:D) (μ:Sto):Res Fl:=(evE φ o σ μ).bind (M9 φ i σ d)
def kIf (a b:Sms) (σ:Sl) (x:D) (μ:Sto):Res Fl:=match x with
 | .bl k=>if k=true then gu φ a σ μ else gu φ b σ μ
 | _=>.stuck
def kLp (b:Sms) (μ:Sto) (σ:Sl):Res Fl:=gu φ b σ μ
def fLp (tg:Tg) (b:Sms) (d:D) (σ:Sl) (μ:Sto):Res Fl:=ik (ee tg d σ) (kLp φ b μ)
def qy (tg:Tg) (b:Sms) (σ:Sl) (w:List D×Gd) (μ:Sto):Res Fl:=k7 w.2 (fLp φ tg b) w.1 σ μ
def kRet (d:D) (μ:Sto):Res Fl:=.ok (.rt d) μ
def kSs (r:Sms) (fl:Fl) (μ:Sto):Res Fl:=match fl with
 | .nx σ'=>gu φ r σ' μ
 | fl=>.ok fl μ
end
section
variable {φ : Phi} {σ : Sl} {μ : Sto} {a b c e o i : Ex} {es : Exs} {m : Mk} {op : Operator} {r : Cps} {s : Sm} {rs : Sms}
theorem Rh {i:Nat}:evE φ (.var i) σ μ=Oy σ[i]? μ:=rfl
theorem Ri {d:D}:evE φ (.cst d) σ μ=.ok d μ:=rfl
theorem Rj:evE φ (.bin op m a b) σ μ=(evE φ a σ μ).bind (kB φ op m b σ):=rfl
theorem Rk:evE φ (.neg a) σ μ=(evE φ a σ μ).bind kNeg:=rfl
theorem Rl:evE φ (.not a) σ μ=(evE φ a σ μ).bind kNot:=rfl
theorem Rm:evE φ (.and a b) σ μ=(evE φ a σ μ).bind (M3 φ b σ):=rfl
theorem Sy:evE φ (.or a b) σ μ=(evE φ a σ μ).bind (kOr φ b σ):=rfl
theorem Rn:evE φ (.ite c a b) σ μ=(evE φ c σ μ).bind (M4 φ a b σ):=rfl
theorem Ro:evE φ (.cmp a r) σ μ=(evE φ a σ μ).bind (Oz φ r σ):=rfl
theorem Dp {α:Type} (x:Res α):(x.bind λa μ=>.ok a μ)=x:=by cases x<;>rfl
theorem Rp {op:Cp} {x:D}:evC φ (.cons op e .nil) x σ μ=(evE φ e σ μ).bind (cpD op x):=by
 simp![evC,Dp]
theorem O4 {op op':Cp} {x:D} {e':Ex}:evC φ (.cons op e (.cons op' e' r)) x σ μ=(evE φ e σ μ).bind (kCh φ op x (.cons op' e' r) σ):=by
 rw[evC]
 all_goals rfl
theorem O5 {keep:Bool} {f:Nat}:evE φ (.call keep f es) σ μ=(fb φ es σ μ).bind (lu φ keep f):=rfl
theorem Rq {b:Bt}:evE φ (.blt b m es) σ μ=(fb φ es σ μ).bind (btD b m):=rfl
theorem Rr {c:Cl}:evE φ (.isi a c) σ μ=(evE φ a σ μ).bind (Hh c):=rfl
theorem O6 {mt:Mt}:evE φ (.meth mt o es) σ μ=(evE φ o σ μ).bind (kM φ mt es σ):=rfl
theorem Sz:evE φ (.ix a b) σ μ=(evE φ a σ μ).bind (kIx φ b σ):=rfl
theorem S0 {lo hi:ExO}:evE φ (.sl m a lo hi) σ μ=(evE φ a σ μ).bind (kSl φ m lo hi σ):=rfl
theorem Rt:evE φ (.tup es) σ μ=(fb φ es σ μ).bind kTup:=rfl
theorem Ru:evE φ (.lst m es) σ μ=(fb φ es σ μ).bind (mkL m):=rfl
theorem Rv {t:Bool}:evE φ (.dic t es) σ μ=(fb φ es σ μ).bind (Ou t):=rfl
theorem O7 {cap:List Nat} {nl:Nat} {tg:Tg} {it:It} {cs:Exs} {elt:Ex}:evE φ (.comp m cap nl tg it cs elt) σ μ=(evI φ it σ μ).bind (cw φ m tg cs elt (cap.map (λi=>(σ[i]?).getD none)++List.replicate nl none)):=rfl
theorem O8:fb φ .nil σ μ=.ok [] μ:=rfl
theorem Na:fb φ (.cons e es) σ μ=(evE φ e σ μ).bind (kEs φ es σ):=rfl
theorem S2:evO φ .no σ μ=.ok none μ:=rfl
theorem S3:evO φ (.so e) σ μ=(evE φ e σ μ).bind kInt:=rfl
theorem O9:ym φ .nil σ μ=.ok true μ:=rfl
theorem Nc:ym φ (.cons e es) σ μ=(evE φ e σ μ).bind (kCs φ es σ):=rfl
theorem Rw:evI φ (.seq e) σ μ=(evE φ e σ μ).bind kSeq:=rfl
theorem Ry:evI φ (.rng e) σ μ=(evE φ e σ μ).bind kRng:=rfl
theorem Pa:evI φ (.rng2 a b) σ μ=(evE φ a σ μ).bind (J9 φ b σ):=rfl
theorem Rz:evI φ (.zip a b) σ μ=(evE φ a σ μ).bind (O1 φ b σ):=rfl
theorem Pb:evI φ (.enum a) σ μ=(evE φ a σ μ).bind kEnum:=rfl
theorem Pc:evI φ (.vals a) σ μ=(evE φ a σ μ).bind kVals:=rfl
theorem R0 {i:Nat}:evS φ (.set i e) σ μ=(evE φ e σ μ).bind (O2 i σ):=rfl
theorem R1 {is:List Nat}:evS φ (.unp is e) σ μ=(evE φ e σ μ).bind (O3 is σ):=rfl
theorem Pd:evS φ (.setx o i e) σ μ=(evE φ e σ μ).bind (kSx φ o i σ):=rfl
theorem S4:evS φ (.ex e) σ μ=(evE φ e σ μ).bind (kNx σ):=rfl
theorem R6 {x y:Sms}:evS φ (.ite c x y) σ μ=(evE φ c σ μ).bind (kIf φ x y σ):=rfl
theorem Pe {tg:Tg} {it:It} {b:Sms}:evS φ (.loop tg it b) σ μ=(evI φ it σ μ).bind (qy φ tg b σ):=rfl
theorem R7:evS φ (.ret e) σ μ=(evE φ e σ μ).bind kRet:=rfl
theorem Pf:evS φ .pass σ μ=.ok (.nx σ) μ:=rfl
theorem R8:evS φ .brk σ μ=.ok (.bk σ) μ:=rfl
theorem Pg:evS φ .cont σ μ=.ok (.ct σ) μ:=rfl
theorem Ph:gu φ .nil σ μ=.ok (.nx σ) μ:=rfl
theorem Nd:gu φ (.cons s rs) σ μ=(evS φ s σ μ).bind (kSs φ rs):=rfl
theorem bu {f:Nat} {ds:List D} {d:D} {μ':Sto} (h:φ f ds μ=.ok d μ') (hd:d.pure=true) (hl:μ'.length=μ.length) (hr:fu μ'):lu φ false f ds μ=.ok d μ':=by
 rw[lu,h,y0 hd hl hr]
theorem Ka {mt:Mt} {x:D} (h:j3 mt x μ=true):kM φ mt es σ x μ=(fb φ es σ μ).bind (mtD mt x):=by rw[kM,if_pos h]
theorem Kb {d:D}:Oy (some (some d)) μ=.ok d μ:=rfl
theorem K1 {i:Int}:kNeg (.int i) μ=.ok (.int (-i)) μ:=rfl
theorem Nf {b:Bool}:kNot (.bl b) μ=.ok (.bl (!b)) μ:=rfl
theorem Pj {b:Ex}:M3 φ b σ (.bl true) μ=evE φ b σ μ:=rfl
theorem Pk {b:Ex}:M3 φ b σ (.bl false) μ=.ok (.bl false) μ:=rfl
theorem R9 {b:Ex}:kOr φ b σ (.bl true) μ=.ok (.bl true) μ:=rfl
theorem Sa {b:Ex}:kOr φ b σ (.bl false) μ=evE φ b σ μ:=rfl
theorem Pl:M4 φ a b σ (.bl true) μ=evE φ a σ μ:=rfl
theorem Pm:M4 φ a b σ (.bl false) μ=evE φ b σ μ:=rfl
theorem Pn {y:D}:Kz φ r y σ (.bl true) μ=evC φ r y σ μ:=rfl
theorem Po {y:D}:Kz φ r y σ (.bl false) μ=.ok (.bl false) μ:=rfl
theorem Sb:kCs φ es σ (.bl true) μ=ym φ es σ μ:=rfl
theorem Sd:kCs φ es σ (.bl false) μ=.ok false μ:=rfl
theorem Pp {elt:Ex}:K0 φ elt σ true μ=(evE φ elt σ μ).bind kOne:=rfl
theorem Pq {elt:Ex}:K0 φ elt σ false μ=.ok [] μ:=rfl
theorem K2 {i:Int}:kInt (.int i) μ=.ok (some i) μ:=rfl
theorem Se {x y:Sms}:kIf φ x y σ (.bl true) μ=gu φ x σ μ:=rfl
theorem Sf {x y:Sms}:kIf φ x y σ (.bl false) μ=gu φ y σ μ:=rfl
theorem Pr {σ':Sl}:kSs φ rs (.nx σ') μ=gu φ rs σ' μ:=rfl
theorem Pt {d:D}:kSs φ rs (.rt d) μ=.ok (.rt d) μ:=rfl
theorem Pw {σ':Sl}:kSs φ rs (.bk σ') μ=.ok (.bk σ') μ:=rfl
theorem Px {σ':Sl}:kSs φ rs (.ct σ') μ=.ok (.ct σ') μ:=rfl
theorem Kc {σ':Sl}:M7 (some σ') μ=.ok (.nx σ') μ:=rfl
theorem K3 {ds:List D}:kSeq (.tup ds) μ=.ok (ds,none) μ:=rfl
theorem K4 {ds:List D}:kSeq (.lst ds) μ=.ok (ds,none) μ:=rfl
theorem Gx {j:Int} (h:-1000000<=j/\j<=1000000):kRng (.int j) μ=.ok ((List.range j.toNat).map fun(i:Nat)=>D.int i,none) μ:=by
 have:=j5
 simp![kRng]
 rw[if_pos ⟨by lia,by lia⟩]
theorem ju {n:Nat} (h:n<=1000000):kRng (.int n) μ=.ok ((List.range n).map fun(i:Nat)=>D.int i,none) μ:=by
 rw[Gx ⟨by lia,by lia⟩,CS]
theorem Kd {i:Nat} {d:D}:ee (.one i) d σ=some (σ.set i (some d)):=rfl
theorem Sg {i j:Int}:cpD .lt (.int i) (.int j) μ=.ok (.bl (decide (i<j))) μ:=rfl
theorem Sh {i j:Int}:cpD .le (.int i) (.int j) μ=.ok (.bl (decide (i<=j))) μ:=rfl
theorem Si {i j:Int}:cpD .gt (.int i) (.int j) μ=.ok (.bl (decide (j<i))) μ:=rfl
theorem Sj {i j:Int}:cpD .ge (.int i) (.int j) μ=.ok (.bl (decide (j<=i))) μ:=rfl
theorem Py {i j:Int}:cpD .eq (.int i) (.int j) μ=.ok (.bl (decide (i=j))) μ:=rfl
theorem Ke {x y:D} (hx:x.pure=true) (hy:y.pure=true):cpD .ne x y μ=.ok (.bl (!deq x y)) μ:=by simp[cpD,hx,hy]
theorem Pz {i j:Int}:cpD .ne (.int i) (.int j) μ=.ok (.bl (!decide (i=j))) μ:=Ke rfl rfl
theorem P0 {i j:Bool}:cpD .ne (.bl i) (.bl j) μ=.ok (.bl (!(i==j))) μ:=Ke rfl rfl
theorem Ng {x y:D} (hx:x.pure=true) (hy:y.pure=true):cpD .eq x y μ=.ok (.bl (deq x y)) μ:=by simp[cpD,hx,hy]
theorem bt_len {x:D} {xs:List D} (h:c6 μ x=some xs):btD .len m [x] μ=.ok (.int xs.length) μ:=by simp[btD,seq1,h]
theorem bt_tuple {x:D} {xs:List D} (h:c6 μ x=some xs):btD .tuple m [x] μ=.ok (.tup xs) μ:=by simp[btD,seq1,h]
theorem bt_list {x:D} {xs:List D} (h:c6 μ x=some xs):btD .list m [x] μ=mkL m xs μ:=by simp[btD,seq1,h]
theorem y8 {x:D} {xs:List D} (h:listOf μ x=some xs):btD .listRev m [x] μ=mkL m xs.reverse μ:=by simp[btD,qj,h]
theorem bt_all {x:D} {xs:List D} {ns:List Bool} (h:c6 μ x=some xs) (h2:kf xs=some ns):btD .all m [x] μ=.ok (.bl (ns.all id)) μ:=by simp[btD,Ae,h,h2]
theorem bt_min {i j:Int}:btD .min m [.int i,.int j] μ=.ok (.int (min i j)) μ:=by
 simp![btD,minD]
 congr 2
 split<;>lia
theorem bt_max {i j:Int}:btD .max m [.int i,.int j] μ=.ok (.int (max i j)) μ:=by
 simp![btD,maxD]
 congr 2
 split<;>lia
theorem kn {ds:List D}:c6 μ (.tup ds)=some ds:=rfl
theorem bc {ds:List D}:c6 μ (.lst ds)=some ds:=rfl
theorem ja {ds:List D}:mkL .z ds μ=.ok (.lst ds) μ:=rfl
theorem A9 {x:D} {xs:List D} {k:Nat} {d:D} (h:c6 μ x=some xs) (hd:xs[k]? = some d):ixD x (.int k) μ=.ok d μ:=by
 have hk:k<xs.length:=(AF.mp hd).1
 have e:ixN xs.length (k:Int)=some k:=by simp[ixN,hk]
 simp![ixD,h,e,hd]
theorem Nh {i j:Nat} {a b:D}:ee (.many [i,j]) (.tup [a,b]) σ=some ((σ.set i (some a)).set j (some b)):=rfl
theorem Ni {i j k:Nat} {a b c:D}:ee (.many [i,j,k]) (.tup [a,b,c]) σ=some (((σ.set i (some a)).set j (some b)).set k (some c)):=rfl
theorem Nj {i j k l:Nat} {a b c d:D}:ee (.many [i,j,k,l]) (.tup [a,b,c,d]) σ=some ((((σ.set i (some a)).set j (some b)).set k (some c)).set l (some d)):=rfl
theorem Nk {i j k l m:Nat} {a b c d e:D}:ee (.many [i,j,k,l,m]) (.tup [a,b,c,d,e]) σ=some (((((σ.set i (some a)).set j (some b)).set k (some c)).set l (some d)).set m (some e)):=rfl
theorem comp_map {α:Type} {tg:Tg} {cs:Exs} {elt:Ex} {σ0:Sl} {xs:List α} {en:α->D} {g:α->D} (h:∀a∈xs,mi φ tg cs elt σ0 (en a) μ=.ok [g a] μ):cw φ m tg cs elt σ0 (xs.map en,none) μ=mkL m (xs.map g) μ:=by
 have e:mapR none (mi φ tg cs elt σ0) (xs.map en) μ=.ok (xs.map g) μ:=by
  induction xs with
  | nil=>simp[mapR]
  | cons a r ih =>
   simp![AX,mapR,qk,if_true,h a AT,Res.bj,ih λx hx=>h x (AR _ hx)]
   rfl
 rw[cw]
 show(mapR none _ (xs.map en) μ).bind _=_
 rw[e];rfl
theorem v3 {α:Type} {tg:Tg} {cs:Exs} {elt:Ex} {σ0:Sl} {xs:List α} {en:α->D} {g:α->D} {p:α->Bool} (h:∀a∈xs,mi φ tg cs elt σ0 (en a) μ=.ok (if p a=true then [g a]else []) μ):cw φ m tg cs elt σ0 (xs.map en,none) μ=mkL m ((xs.filter p).map g) μ:=by
 have e:mapR none (mi φ tg cs elt σ0) (xs.map en) μ=.ok ((xs.filter p).map g) μ:=by
  induction xs with
  | nil=>simp[mapR]
  | cons a r ih =>
   simp![AX,mapR,qk,if_true,h a AT,Res.bj,ih λx hx=>h x (AR _ hx)]
   by_cases hp:p a=true
   ·simp[hp]
   ·simp[hp]
 rw[cw]
 show(mapR none _ (xs.map en) μ).bind _=_
 rw[e];rfl
def many {S α:Type} (G:S->α×S):Nat->S->List α×S
 | 0,s=>([],s)
 | n+1,s=>((G s).1::(many G n (G s).2).1,(many G n (G s).2).2)
theorem qz {S α:Type} (G:S->α×S):∀(n:Nat) (s:S),(many G n s).1.length=n
 | 0,_=>rfl
 | n+1,s=>by simp[many,qz G n]
theorem rf {S α:Type} {G:S->α×S} {P:α->Prop} (h:∀s,P (G s).1):∀(n:Nat) (s:S),∀a∈(many G n s).1,P a
 | 0,_,a,ha=>by simp[many]at ha
 | n+1,s,a,ha=>by
  rcases AJ.mp ha with rfl | q
  ·exact h s
  ·exact rf h n _ a q
theorem ue {S α:Type} {f:D->Sto->Res (List D)} {enS:S->Sto} {en:α->D} {G:S->α×S}:∀{ds:List D} {s:S},(∀d∈ds,∀s,f d (enS s)=.ok [en (G s).1] (enS (G s).2)) ->
  mapR none f ds (enS s)=.ok ((many G ds.length s).1.map en) (enS (many G ds.length s).2)
 | [],s,_=>by simp[mapR,many]
 | d::ds,s,h=>by
  simp![mapR,qk,if_true,h d AT s,Res.bj,ue (ds:=ds) λx hx=>h x (AR _ hx),many,BJ,AX]
  rfl
theorem uf {S α:Type} {tg:Tg} {cs:Exs} {elt:Ex} {σ0:Sl} {ds:List D} {enS:S->Sto} {en:α->D} {G:S->α×S} {s:S} (h:∀d∈ds,∀s,mi φ tg cs elt σ0 d (enS s)=.ok [en (G s).1] (enS (G s).2)) :
  cw φ m tg cs elt σ0 (ds,none) (enS s)=mkL m ((many G ds.length s).1.map en) (enS (many G ds.length s).2):=by
 rw[cw]
 show(mapR none _ ds (enS s)).bind _=_
 rw[ue h];rfl
theorem Sk {x:D}:kB φ op m b σ x μ=(evE φ b σ μ).bind (opD op m x):=rfl
theorem Nl {x:D}:Oz φ r σ x μ=evC φ r x σ μ:=rfl
theorem P1 {o:Cp} {x y:D}:kCh φ o x r σ y μ=(cpD o x y μ).bind (Kz φ r y σ):=rfl
theorem P2 {x:D}:kIx φ b σ x μ=(evE φ b σ μ).bind (ixD x):=rfl
theorem Nm {hi:ExO} {x:D} {l:Option Int}:M5 φ m hi σ x l μ=(evO φ hi σ μ).bind (slD m x l):=rfl
theorem P4 {lo hi:ExO} {x:D}:kSl φ m lo hi σ x μ=(evO φ lo σ μ).bind (M5 φ m hi σ x):=rfl
theorem Nn {ds:List D}:kTup ds μ=.ok (.tup ds) μ:=rfl
theorem Np {d:D} {ds:List D}:M6 d ds μ=.ok (d::ds) μ:=rfl
theorem P5 {d:D}:kEs φ es σ d μ=(fb φ es σ μ).bind (M6 d):=rfl
theorem Nq {x:D}:kOne x μ=.ok [x] μ:=rfl
theorem Nr {cs:Exs} {elt:Ex}:O0 φ cs elt μ σ=(ym φ cs σ μ).bind (K0 φ elt σ):=rfl
theorem K5 {x:D}:J9 φ b σ x μ=(evE φ b σ μ).bind (Ei x):=rfl
theorem Nt {x:D}:O1 φ b σ x μ=(evE φ b σ μ).bind (Gw x):=rfl
theorem Nu {i:Nat} {d:D}:O2 i σ d μ=.ok (.nx (σ.set i (some d))) μ:=rfl
theorem Nv {is:List Nat} {d:D}:O3 is σ d μ=M7 (ee (.many is) d σ) μ:=rfl
theorem Nw {d:D}:kNx σ d μ=.ok (.nx σ) μ:=rfl
theorem Nx {d:Unit}:kNx σ d μ=.ok (.nx σ) μ:=rfl
theorem Ny {d x y:D}:M8 σ d x y μ=(rn x y d μ).bind (kNx σ):=rfl
theorem Nz {i:Ex} {d x:D}:M9 φ i σ d x μ=(evE φ i σ μ).bind (M8 σ d x):=rfl
theorem P6 {o i:Ex} {d:D}:kSx φ o i σ d μ=(evE φ o σ μ).bind (M9 φ i σ d):=rfl
theorem P7 {b:Sms}:kLp φ b μ σ=gu φ b σ μ:=rfl
theorem N0 {d:D}:kRet d μ=.ok (.rt d) μ:=rfl
theorem K6 {n:Nat}:List.replicate (n+1) (none:Option D)=none::List.replicate n none:=rfl
theorem K7:List.replicate 0 (none:Option D)=[]:=rfl
end
section
variable {φ : Phi} {σ : Sl} {μ : Sto}
def P8 (φ:Phi) (b:Ex) (σ:Sl) (x:D) (μ:Sto):Res D:=(evE φ b σ μ).bind (Mb x)
def K8 (σ:Sl) (x y z:D) (μ:Sto):Res Fl:=(rn x y z μ).bind (kNx σ)
def K9 (op:Operator) (σ:Sl) (x y old d:D) (μ:Sto):Res Fl:=(Ot op old d μ).bind (K8 σ x y)
def N1 (φ:Phi) (op:Operator) (e:Ex) (σ:Sl) (x y old:D) (μ:Sto):Res Fl:=(evE φ e σ μ).bind (K9 op σ x y old)
def N2 (φ:Phi) (op:Operator) (e:Ex) (σ:Sl) (x y:D) (μ:Sto):Res Fl:=(ixL x y μ).bind (N1 φ op e σ x y)
def P9 (φ:Phi) (op:Operator) (i e:Ex) (σ:Sl) (x:D) (μ:Sto):Res Fl:=(evE φ i σ μ).bind (N2 φ op e σ x)
theorem Sn {a b:Ex}:evE φ (.dix a b) σ μ=(evE φ a σ μ).bind (P8 φ b σ):=rfl
theorem N3 {b:Ex} {x:D}:P8 φ b σ x μ=(evE φ b σ μ).bind (Mb x):=rfl
theorem Qa {op:Operator} {o i e:Ex}:evS φ (.augx op o i e) σ μ=(evE φ o σ μ).bind (P9 φ op i e σ):=rfl
theorem N4 {op:Operator} {i e:Ex} {x:D}:P9 φ op i e σ x μ=(evE φ i σ μ).bind (N2 φ op e σ x):=rfl
theorem N5 {op:Operator} {e:Ex} {x y:D}:N2 φ op e σ x y μ=(ixL x y μ).bind (N1 φ op e σ x y):=rfl
theorem N6 {op:Operator} {e:Ex} {x y old:D}:N1 φ op e σ x y old μ=(evE φ e σ μ).bind (K9 op σ x y old):=rfl
theorem La {x y:D} {i j:Int}:K9 .Add σ x y (.int i) (.int j) μ=K8 σ x y (.int (i+j)) μ:=rfl
theorem Lb {x y:D} {i j:Int}:K9 .Sub σ x y (.int i) (.int j) μ=K8 σ x y (.int (i-j)) μ:=rfl
theorem N7 {x y z:D}:K8 σ x y z μ=(rn x y z μ).bind (kNx σ):=rfl
end
section
variable {μ : Sto}
theorem Qb {α β:Type} (a:α) (f:α->Sto->Res β):(Res.ok a μ).bind f=f a μ:=rfl
theorem Qc {α β:Type} (a:α) (k:α->Res β):ik (some a) k=k a:=rfl
theorem S5 (d:D):finD (.rt d) μ=.ok d μ:=rfl
theorem S6 (σ:Sl):finD (.nx σ) μ=.ok .non μ:=rfl
theorem S7 {α β:Type} (f:α->β) (a:α) (l:List α):(a::l).map f=f a::l.map f:=rfl
theorem S8 {α β:Type} (f:α->β):([]:List α).map f=[]:=rfl
theorem S9 {α:Type} (a:α) (l m:List α):a::l++m=a::(l++m):=rfl
theorem Ta {α:Type} (m:List α):[]++m=m:=rfl
theorem Tb {α:Type} (a:α) (l:List α):(a::l)[0]? = some a:=rfl
theorem Tc {α:Type} (a:α) (l:List α) (i:Nat):(a::l)[i+1]? = l[i]?:=rfl
theorem Td {α:Type} (a b:α) (l:List α):(a::l).set 0 b=b::l:=rfl
theorem Te {α:Type} (a b:α) (l:List α) (i:Nat):(a::l).set (i+1) b=a::l.set i b:=rfl
theorem Tf {α:Type} (a b:α):(some a).getD b=a:=rfl
theorem Th {op:Operator} {m:Mk} {i j:Int}:opD op m (.int i) (.int j) μ=opI op i j μ:=Gv
theorem Ti {i j:Int}:opI .Add i j μ=.ok (.int (i+j)) μ:=op_add
theorem Tj {i j:Int}:opI .Sub i j μ=.ok (.int (i-j)) μ:=op_sub
theorem Tn {d:D} {b:Nat}:nu true b (.ok d μ)=.ok d μ:=y6
end
end Lr
local macro_rules | `(tactic| simp! only [$ls,*]) => do
  let mut a := ls.getElems
  for s in "Rh Ri Rj Rk Rl Rm Sy Rn Ro Rp O4 O5 Rq Rr O6 Sz S0 Rt Ru Rv O7 O8 Na S2 S3 O9 Nc Rw Ry Pa Rz Pb Pc R0 R1 Pd S4 R6 Pe R7 Pf R8 Pg Ph Nd Kb K1 Nf Pj Pk R9 Sa Pl Pm Pn Po Sb Sd Pp Pq K2 Se Sf Pr Pt Pw Px Kc K3 K4 Kd Sg Sh Si Sj Py Pz P0 bt_min bt_max ja Nh Ni Nj Nk Sk Nl P1 P2 Nm P4 Nn Np P5 Nq Nr K5 Nt Nu Nv Nw Nx Ny Nz P6 P7 N0 K6 K7 Sn N3 Qa N4 N5 N6 La Lb N7 Qb Qc S5 S6 S7 S8 S9 Ta Tb Tc Td Te Tf Th Ti Tj Tn Nat.reduceSub decide_true decide_false Bool.not_true Bool.not_false".splitOn " " do
    a := a.push ⟨(<- `(Lean.Parser.Tactic.simpLemma| $(Lean.mkIdent ((s.splitOn ".").foldl Lean.Name.mkStr .anonymous)):ident)).raw⟩
  `(tactic| simp only [$a,*])
namespace Lr
open Lp
open PySem
def bq (c:Int):Int:=((c % 10 ^ 60+1)*69621 % 2147483647)*((c % 10 ^ 60+1)*69621 % 2147483647) % 1000000007 / 7
def jz (c most:Int):Int:=if bq c % 8<6 then min most (bq c / 8 % 13)else if bq c % 8=6 then most-bq c / 8 % 2 else c % (most+1)
def Lf (cs:List Int):O:=.l (cs.reverse.map D.int)
@[simp] theorem Qd (cs:List Int):noR (Lf cs)=true:=rfl
section
variable {n : Nat} {μ ρ : Sto}
theorem Gy (cs:List Int):ai GL (n+1) az [.loc 0] (Lf cs::ρ)=.ok (.int (cs.headD 0)) (Lf cs.tail::ρ):=by
 rw[au yu,run_eq rfl]
 cases cs with
 | nil=>simp[D_law_next,gu,evS,evE,evC,fb,btD,seq1,c6,Lf,cpD]
 | cons c r=>simp[D_law_next,gu,evS,evE,evC,fb,btD,seq1,c6,Lf,cpD,j3,Lp.listOf,mtD,sj,mtL,gv,putL]
theorem lx (hr:∀cs,fu (Lf cs::ρ)) (cs:List Int):lu (ai GL (n+1)) false az [.loc 0] (Lf cs::ρ)=.ok (.int (cs.headD 0)) (Lf cs.tail::ρ) :=
 bu (Gy cs) rfl rfl (hr _)
theorem Gz (c:Int):ai GL (n+1) cf [.int c] μ=.ok (.int (bq c)) μ:=by
 rw[au yv,run_eq rfl]
 have h1:(0:Int)<=(c % 10 ^ 60+1)*69621 % 2147483647:=BV _ (by decide)
 have h2:(c % 10 ^ 60+1)*69621 % 2147483647<2147483647:=BS _ (by decide)
 have hm:CMul ((c % 10 ^ 60+1)*69621 % 2147483647) ((c % 10 ^ 60+1)*69621 % 2147483647):=.left (by lia) (by lia)
 have hm0:CMul (c % 10 ^ 60+1) 69621:=.right (by decide) (by decide)
 have e1:opI .Pow 10 60 μ=.ok (.int (10 ^ 60)) μ:=op_pow (by decide)
 simp! only[D_law_turn,e1,op_mod (show(0:Int)<10 ^ 60 by decide),op_mul hm0,op_mod (show(0:Int)<2147483647 by decide),op_mul hm,op_mod (show(0:Int)<1000000007 by decide),jh (show(0:Int)<7 by decide) (by decide),bq]
theorem rg (c:Int):0<=bq c:=Int.ediv_nonneg (BV _ (by decide)) (by decide)
theorem jb (hr:fu μ) (c:Int):lu (ai GL (n+1)) false cf [.int c] μ=.ok (.int (bq c)) μ:=bu (Gz c) rfl rfl hr
theorem G0 (hr:fu μ) (c most:Int) (hm:0<=most):ai GL (n+2) bz [.int c,.int most] μ=.ok (.int (jz c most)) μ:=by
 rw[au yw,run_eq rfl]
 have f8:∀x:Int,opI .Mod x 8 μ=.ok (.int (x % 8)) μ:=λx=>op_mod (by decide)
 by_cases h1:bq c % 8<6
 ·simp! only[D_law_size,jb hr,f8,h1,jh (show(0:Int)<8 by decide) (by decide),op_mod (show(0:Int)<13 by decide),jz,if_true]
 ·by_cases h2:bq c % 8=6
  ·simp! only[D_law_size,jb hr,f8,h1,h2,jh (show(0:Int)<8 by decide) (by decide),op_mod (show(0:Int)<2 by decide),jz,if_true,if_false,Int.reduceLT]
  ·simp! only[D_law_size,jb hr,f8,h1,h2,op_mod (show(0:Int)<most+1 by lia),jz,if_false]
theorem ly (hr:fu μ) (c most:Int) (hm:0<=most):lu (ai GL (n+2)) false bz [.int c,.int most] μ=.ok (.int (jz c most)) μ :=
 bu (G0 hr c most hm) rfl rfl hr
theorem g7 {c most:Int} (hm:1<=most):0<=jz c most/\jz c most<=most:=by
 have h1:=rg c
 have h3:0<=c % (most+1):=BV _ (by lia)
 have h4:c % (most+1)<most+1:=BS _ (by lia)
 unfold jz
 split
 ·lia
 ·split<;>lia
end
open PySem
structure Lamp where
 tank:Int
 oil:Int
 away:List Int
structure Day where
 boat:Int
 most:Int
 price:Int
 length:Int
 wanted:Int
structure Book where
 store:Int
 oil:Int
 lamps:List Lamp
 days:List Day
def gn (ns:List Int):D:=.tup (ns.map D.int)
def et (l:Lamp):D:=.tup [.int l.tank,.int l.oil,gn l.away]
def j4 (d:Day):D:=.tup [.int d.boat,.int d.most,.int d.price,.int d.length,.int d.wanted]
def dg (b:Book):D:=.tup [.int b.store,.int b.oil,.tup (b.lamps.map et),.tup (b.days.map j4)]
theorem ko {k:Nat} (ns:List Int):D.pureN (k+1) (gn ns)=true:=by
 simp![gn,mv,CN,AO]
 exact λx _=>iw
theorem ug {k:Nat} (l:Lamp):D.pureN (k+2) (et l)=true:=by
 simp![et,mv,AY,DL,DB,DC,iw,ko]
theorem xp {k:Nat} (l:Day):D.pureN (k+1) (j4 l)=true:=by
 simp![j4,mv,AY,DL,DB,DC,iw]
theorem ji (b:Book):(dg b).pure=true:=by
 simp![D.pure,dg,mv,AY,DL,DB,DC,iw,CN,AW,AO]
 exact⟨λl _=>ug l,λl _=>xp l⟩
structure Wf (b:Book):Prop where
 store:0<=b.store/\b.store<=10 ^ 30
 oil:0<=b.oil/\b.oil<=10 ^ 30
 lamps:1<=b.lamps.length/\b.lamps.length<=8
 days:1<=b.days.length/\b.days.length<=16
 lamp:∀l∈b.lamps,(0<=l.tank/\l.tank<=10 ^ 30)/\(0<=l.oil/\l.oil<=l.tank)/\l.away.Pairwise (· < ·)/\∀a∈l.away,0<=a/\a<b.days.length
 day:∀d∈b.days,(0<=d.boat/\d.boat<=10 ^ 30)/\(0<=d.most/\d.most<=10 ^ 30)/\(0<=d.price/\d.price<=10 ^ 15)/\(1<=d.length/\d.length<=10 ^ 15)/\0<=d.wanted/\d.wanted<=b.lamps.length
def y9 (turn:Int) (days:Nat):List Int:=((List.range days).filter λk=>turn / 2 ^ (k+1) % 2=1).map fun(k:Nat)=>(k:Int)
def pf (days:Nat) (cs:List Int):Lamp×List Int :=
 let tank:=jz (cs.headD 0) (10 ^ 30)
 (⟨tank,min tank (jz (cs.tail.headD 0) (10 ^ 30)),if bq (cs.tail.tail.headD 0) % 2=1 then y9 (bq (cs.tail.tail.headD 0)) days else []⟩,cs.tail.tail.tail)
def Dq (lamps:Nat) (cs:List Int):Day×List Int :=
 (⟨jz (cs.headD 0) (10 ^ 30),jz (cs.tail.headD 0) (10 ^ 30),jz (cs.tail.tail.headD 0) (10 ^ 15),max 1 (jz (cs.tail.tail.tail.headD 0) (10 ^ 15)),bq (cs.tail.tail.tail.tail.headD 0) % (lamps+1)⟩,cs.tail.tail.tail.tail.tail)
section
variable {n : Nat} {μ ρ : Sto}
theorem p30:opI .Pow 10 30 μ=.ok (.int (10 ^ 30)) μ:=op_pow (by decide)
theorem p15:opI .Pow 10 15 μ=.ok (.int (10 ^ 15)) μ:=op_pow (by decide)
theorem G1 (hr:∀cs,fu (Lf cs::ρ)) (cs:List Int) (days:Nat) (hd:days<=100) :
  ai GL (n+3) jq [.loc 0,.int days] (Lf cs::ρ)=.ok (et (pf days cs).1) (Lf (pf days cs).2::ρ):=by
 rw[au yx,run_eq rfl]
 have hr':=hr
 have f2:∀(x:Int) μ,opI .Mod x 2 μ=.ok (.int (x % 2)) μ:=λx μ=>op_mod (by decide)
 have m30:(0:Int)<=10 ^ 30:=by decide
 by_cases h1:bq (cs.tail.tail.headD 0) % 2=1
 ·have hc:∀μ,cw (ai GL (n+2)) .z (.one 1) i9 d7
    [some (.int (bq (cs.tail.tail.headD 0))),none] ((List.range days).map fun(k:Nat)=>D.int k,none) μ=.ok (.lst ((y9 (bq (cs.tail.tail.headD 0)) days).map D.int)) μ:=λμ=>by
   rw[v3 (en:=fun(k:Nat)=>D.int k) (g:=fun(k:Nat)=>D.int k) (p:=λk=>decide (bq (cs.tail.tail.headD 0) / 2 ^ (k+1) % 2=1))]
   ·simp![mkL,y9,BY];rfl
   ·intro k _
    simp! only[mi,i9,d7,op_shr (show(0:Int)<=(k:Int)+1 by lia),f2]
    have e:((k:Int)+1).toNat=k+1:=by lia
    rw[e]
    by_cases hk:bq (cs.tail.tail.headD 0) / 2 ^ (k+1) % 2=1
    ·simp! only[d7,hk,if_true]
    ·simp! only[d7,hk,if_false,CA]
  simp! only[D_law_lamp,lx hr,jb (hr' _),ly (hr' _) _ _ m30,p30,f2,h1,ju (show days<=1000000 by lia),hc,bt_tuple bc,pf,if_true,et,gn]
 ·simp! only[D_law_lamp,lx hr,jb (hr' _),ly (hr' _) _ _ m30,p30,f2,h1,pf,if_false,et,gn]
theorem Kf (hr:∀cs,fu (Lf cs::ρ)) (cs:List Int) (lamps:Nat) :
  ai GL (n+3) kj [.loc 0,.int lamps] (Lf cs::ρ)=.ok (j4 (Dq lamps cs).1) (Lf (Dq lamps cs).2::ρ):=by
 rw[au A6,run_eq rfl]
 have hr':=hr
 have m30:(0:Int)<=10 ^ 30:=by decide
 have m15:(0:Int)<=10 ^ 15:=by decide
 simp! only[D_law_day,lx hr,jb (hr' _),ly (hr' _) _ _ m30,ly (hr' _) _ _ m15,p30,p15,op_mod (show(0:Int)<(lamps:Int)+1 by lia),Dq,j4]
theorem lz (l:Lamp):(et l).pure=true:=ug l
theorem oy (l:Day):(j4 l).pure=true:=xp l
def fh (h:Int):Nat:=if h / 12 % 5=1 then(1+h / 60 % 8).toNat else(1+h % 3).toNat
def l5 (h:Int):Nat:=if h / 12 % 5=1 then(1+h / 480 % 16).toNat else(1+h / 3 % 4).toNat
theorem uh (h:Int):1<=fh h/\fh h<=8:=by
 unfold fh
 split<;>lia
theorem xq (h:Int):1<=l5 h/\l5 h<=16:=by
 unfold l5
 split<;>lia
def rh (cs:List Int):Book×List Int :=
 let h:=bq (cs.headD 0)
 let ls:=many (pf (l5 h)) (fh h) cs.tail.tail.tail
 let ds:=many (Dq (fh h)) (l5 h) ls.2
 (⟨jz (cs.tail.headD 0) (10 ^ 30),jz (cs.tail.tail.headD 0) (10 ^ 30),ls.1,ds.1⟩,ds.2)
theorem G5 (hr:∀cs,fu (Lf cs::ρ)) (cs:List Int) :
  ai GL (n+4) jr [.loc 0] (Lf cs::ρ)=.ok (dg (rh cs).1) (Lf (rh cs).2::ρ):=by
 rw[au yy,run_eq rfl]
 have hr':=hr
 have m30:(0:Int)<=10 ^ 30:=by decide
 have fm:∀(x y:Int) μ,0<y->opI .Mod x y μ=.ok (.int (x % y)) μ:=λx y μ h=>op_mod h
 have fd:∀(x y:Int) μ,0<y->y<1073741824->opI .FloorDiv x y μ=.ok (.int (x / y)) μ:=λx y μ h h2=>jh h h2
 have L:=uh (bq (cs.headD 0))
 have Y:=xq (bq (cs.headD 0))
 have cl:∀(k:Nat) (cs':List Int) (days:Nat),days<=16->cw (ai GL (n+3)) .z (.one 2) .nil fj [some (.loc 0),some (.int days),none] ((List.range k).map fun(j:Nat)=>D.int j,none) (Lf cs'::ρ)
   = .ok (.lst ((many (pf days) k cs').1.map et)) (Lf (many (pf days) k cs').2::ρ):=λk cs' days hd=>by
  have e:=uf (m:=.z) (φ:=ai GL (n+3)) (tg:=.one 2) (cs:=.nil) (elt:=fj) (σ0:=[some (.loc 0),some (.int days),none]) (ds:=(List.range k).map fun(j:Nat)=>D.int j)
   (enS:=λcs=>Lf cs::ρ) (en:=et) (G:=pf days) (s:=cs') λd _ s=>by
    simp! only[mi,fj,bu (G1 (n:=n) hr s days (by lia)) (lz _) rfl (hr' _)]
  simp![AG,List.length_range]at e
  exact e
 have cy:∀(k:Nat) (cs':List Int) (lamps:Nat),cw (ai GL (n+3)) .z (.one 2) .nil fk [some (.loc 0),some (.int lamps),none] ((List.range k).map fun(j:Nat)=>D.int j,none) (Lf cs'::ρ)
   = .ok (.lst ((many (Dq lamps) k cs').1.map j4)) (Lf (many (Dq lamps) k cs').2::ρ):=λk cs' lamps=>by
  have e:=uf (m:=.z) (φ:=ai GL (n+3)) (tg:=.one 2) (cs:=.nil) (elt:=fk) (σ0:=[some (.loc 0),some (.int lamps),none]) (ds:=(List.range k).map fun(j:Nat)=>D.int j)
   (enS:=λcs=>Lf cs::ρ) (en:=j4) (G:=Dq lamps) (s:=cs') λd _ s=>by
    simp! only[mi,fk,bu (Kf (n:=n) hr s lamps) (oy _) rfl (hr' _)]
  simp![AG,List.length_range]at e
  exact e
 by_cases h1:bq (cs.headD 0) / 12 % 5=1
 ·have e1:1+bq (cs.headD 0) / 60 % 8=(fh (bq (cs.headD 0)):Int):=by unfold fh;rw[if_pos h1];lia
  have e2:1+bq (cs.headD 0) / 480 % 16=(l5 (bq (cs.headD 0)):Int):=by unfold l5;rw[if_pos h1];lia
  simp! only[D_law_book,lx hr,jb (hr' _),ly (hr' _) _ _ m30,p30,fm _ _ _ (show(0:Int)<3 by decide),fm _ _ _ (show(0:Int)<4 by decide),fm _ _ _ (show(0:Int)<5 by decide),fm _ _ _ (show(0:Int)<8 by decide),fm _ _ _ (show(0:Int)<16 by decide),
   fd _ _ _ (show(0:Int)<3 by decide) (by decide),fd _ _ _ (show(0:Int)<12 by decide) (by decide),fd _ _ _ (show(0:Int)<60 by decide) (by decide),fd _ _ _ (show(0:Int)<480 by decide) (by decide),h1,e1,e2,ju (show fh (bq (cs.headD 0))<=1000000 by lia),ju (show l5 (bq (cs.headD 0))<=1000000 by lia),cl _ _ _ Y.2,cy,bt_tuple bc,rh,dg]
 ·have e1:1+bq (cs.headD 0) % 3=(fh (bq (cs.headD 0)):Int):=by unfold fh;rw[if_neg h1];lia
  have e2:1+bq (cs.headD 0) / 3 % 4=(l5 (bq (cs.headD 0)):Int):=by unfold l5;rw[if_neg h1];lia
  simp! only[D_law_book,lx hr,jb (hr' _),ly (hr' _) _ _ m30,p30,fm _ _ _ (show(0:Int)<3 by decide),fm _ _ _ (show(0:Int)<4 by decide),fm _ _ _ (show(0:Int)<5 by decide),
   fd _ _ _ (show(0:Int)<3 by decide) (by decide),fd _ _ _ (show(0:Int)<12 by decide) (by decide),h1,e1,e2,ju (show fh (bq (cs.headD 0))<=1000000 by lia),ju (show l5 (bq (cs.headD 0))<=1000000 by lia),cl _ _ _ Y.2,cy,bt_tuple bc,rh,dg]
theorem Dr (t:Int) (n:Nat):(y9 t n).Pairwise (· < ·)/\∀a∈y9 t n,0<=a/\a<n:=by
 unfold y9
 constructor
 ·rw[List.pairwise_map]
  refine List.Pairwise.filter _ ?_
  exact List.pairwise_lt_range.imp λh=>by lia
 ·intro a ha
  obtain⟨k,hk,rfl⟩:=BX.mp ha
  have:=HE.mp (HB.mp hk).1
  lia
theorem Ds (cs:List Int):Wf (rh cs).1:=by
 have L:=uh (bq (cs.headD 0))
 have Y:=xq (bq (cs.headD 0))
 have z30:(1:Int)<=10 ^ 30:=by decide
 have z15:(1:Int)<=10 ^ 15:=by decide
 have hd:(rh cs).1.days.length=l5 (bq (cs.headD 0)):=qz _ _ _
 have hl:(rh cs).1.lamps.length=fh (bq (cs.headD 0)):=qz _ _ _
 refine⟨g7 z30,g7 z30,by rw[hl];exact L,by rw[hd];exact Y,?_,?_⟩
 ·rw[hd]
  refine rf (P:=λl:Lamp=>(0<=l.tank/\l.tank<=10 ^ 30)/\(0<=l.oil/\l.oil<=l.tank)/\l.away.Pairwise (· < ·)/\∀a∈l.away,0<=a/\a<((l5 (bq (cs.headD 0)):Nat):Int)) (λs=>?_) _ _
  have s1:=g7 (c:=s.headD 0) z30
  have s2:=g7 (c:=s.tail.headD 0) z30
  refine⟨s1,?_,?_⟩
  ·simp![pf];lia
  ·simp![pf]
   split
   ·exact Dr _ _
   ·exact⟨.nil,λa h=>by simp at h⟩
 ·rw[hl]
  refine rf (P:=λd:Day=>(0<=d.boat/\d.boat<=10 ^ 30)/\(0<=d.most/\d.most<=10 ^ 30)/\(0<=d.price/\d.price<=10 ^ 15)/\(1<=d.length/\d.length<=10 ^ 15)/\0<=d.wanted/\d.wanted<=((fh (bq (cs.headD 0)):Nat):Int)) (λs=>?_) _ _
  have s1:=g7 (c:=s.tail.tail.tail.headD 0) z15
  have w1:0<=bq (s.tail.tail.tail.tail.headD 0) % ((fh (bq (cs.headD 0)):Nat)+1:Int):=BV _ (by lia)
  have w2:bq (s.tail.tail.tail.tail.headD 0) % ((fh (bq (cs.headD 0)):Nat)+1:Int)<(fh (bq (cs.headD 0)):Nat)+1:=BS _ (by lia)
  refine⟨g7 z30,g7 z30,g7 z15,?_,?_⟩
  ·simp![Dq];lia
  ·simp![Dq];lia
end
open PySem
theorem Ba (ns:List Int):mkL .l (ns.map D.int).reverse []=.ok (.loc 0) [Lf ns]:=by
 have hall:(ns.map D.int).reverse.all (D.pureN 8)=true:=by
  rw[<-List.map_reverse,CN,AO]
  exact λ_ _=>rfl
 simp![mkL,hall,if_true,Lf,List.map_reverse,BU,List.nil_append]
theorem za {μ:Sto} {ds:List D}:listOf μ (.lst ds)=some ds:=rfl
theorem oz {k:Nat} (ih:∀d:D,D.pureN k d=true->deq d d=true):∀ds:List D,ds.all (D.pureN k)=true->zi ds ds=true
 | [],_=>by rw[zi]
 | d::r,h=>by
  simp![AY,AW]at h
  rw[zi,ih d h.1,oz ih r h.2];rfl
theorem rj:∀(k:Nat) (d:D),D.pureN k d=true->deq d d=true
 | 0,d,h=>by cases d<;>simp_all[D.pureN,deq]
 | k+1,d,h=>by
  cases d with
  | tup ds=>rw[deq];exact oz (rj k) ds h
  | lst ds=>rw[deq];exact oz (rj k) ds h
  | loc n=>simp[D.pureN]at h
  | _=>simp[deq]
theorem xu (xs:List D) (k:Nat):cut xs none (some (k:Int))=xs.take k:=by
 simp![cut,sIx]
 rw[if_neg (by lia)]
 simp[List.take_eq_take_iff]
theorem xw (xs:List D) (k:Nat):cut xs (some (k:Int)) none=xs.drop k:=by
 simp![cut,sIx]
 rw[if_neg (by lia)]
 by_cases h:k<=xs.length
 ·rw[CS,Nat.min_eq_left h,EO (by simp)]
 ·rw[CS,Nat.min_eq_right (by lia),List.drop_eq_nil_of_le (show xs.length<=k by lia)];simp
section
variable {n : Nat} {μ ρ : Sto} {m : Mk} {φ : Phi} {σ : Sl} {es : Exs}
theorem G6 {xs:List D} {k:Nat}:slD m (.tup xs) (some (k:Int)) none μ=.ok (.tup (xs.drop k)) μ:=by rw[slD,xw]
theorem N8 {xs:List D}:slD m (.tup xs) (some 1) none μ=.ok (.tup (xs.drop 1)) μ:=G6 (k:=1)
theorem jv {f:Nat} {ds:List D} {d:D} (h:φ f ds μ=.ok d (μ++ρ)) (hd:d.pure=true) (hr:fu μ):lu φ false f ds μ=.ok d μ:=by
 rw[lu,h]
 have e:(μ++ρ).take μ.length=μ:=by simp
 have hr':μ.all (dj μ.length)=true:=hr
 simp![nu,CA,if_false,e,iu _ 8 d hd,hr',and_self,if_true]
theorem o1 {o:O}:(μ++[o])[μ.length]? = some o:=by simp
theorem x8 {o o':O}:(μ++[o]).set μ.length o'=μ++[o']:=by simp
theorem Qe {ds:List D} (h:ds.all (D.pureN 8)=true):mkL .l ds μ=.ok (.loc μ.length) (μ++[.l ds]):=by simp![mkL,h,if_true]
end
open PySem
def sq (b:Bool) (ds:List D):D:=match b with
 | true=>.lst ds
 | false=>.tup ds
section
variable {n : Nat} {μ ρ : Sto} {b : Bool} {m : Mk}
theorem kq {ds:List D}:c6 μ (sq b ds)=some ds:=by cases b<;>rfl
theorem o3 {ds:List D}:kSeq (sq b ds) μ=.ok (ds,none) μ:=by cases b<;>rfl
theorem Kg {ds:List D}:slD .z (sq b ds) (some 1) none μ=.ok (sq b (ds.drop 1)) μ:=by
 cases b
 ·exact N8
 ·show mkL .z (cut ds (some ((1:Nat):Int)) none) μ=_
  rw[xw];rfl
theorem Ej {ds es:List D}:Gw (sq b ds) (sq b es) μ=.ok ((ds.zip es).map λp=>.tup [p.1,p.2],none) μ:=by cases b<;>rfl
theorem Bb {w:Str}:ai GL (n+1) aj [.bl true,.str w] μ=.ok .non μ:=by
 rw[au ou,run_eq rfl]
 simp! only[D_refuse_unless]
theorem o4 (hr:fu μ) {w:Str}:lu (ai GL (n+1)) false aj [.bl true,.str w] μ=.ok .non μ:=bu Bb rfl rfl hr
theorem zb {x:Int} (h:0<=x/\x<=10 ^ 30):ai GL (n+1) ay [.int x] μ=.ok (.bl true) μ:=by
 rw[au l8,run_eq rfl]
 simp! only[D_is_measure,p30,h.1,h.2]
theorem iy (hr:fu μ) {x:Int} (h:0<=x/\x<=10 ^ 30):lu (ai GL (n+1)) false ay [.int x] μ=.ok (.bl true) μ:=bu (zb h) rfl rfl hr
theorem o5:∀{ns:List Int},ns.Pairwise (· < ·)->∀p∈ns.zip (ns.drop 1),p.1<p.2
 | [],_,p,hp=>by simp at hp
 | [a],_,p,hp=>by simp at hp
 | a::c::r,h,p,hp=>by
  rcases AJ.mp hp with rfl | hp
  ·exact(Do.mp h).1 c AT
  ·exact o5 (Do.mp h).2 p hp
theorem Dt {ns:List Int} (h:ns.Pairwise (· < ·)):ai GL (n+1) lr [sq b (ns.map D.int)] μ=.ok (.bl true) μ:=by
 rw[au A7,run_eq rfl]
 have hc:cw (ai GL n) .z (.many [0,1]) .nil iq [none,none] (((ns.map D.int).zip ((ns.map D.int).drop 1)).map λp=>.tup [p.1,p.2],none) μ=.ok (.lst (((ns.zip (ns.drop 1)).map λ_=>true).map D.bl)) μ:=by
  have e:(((ns.map D.int).zip ((ns.map D.int).drop 1)).map λp=>D.tup [p.1,p.2])=(ns.zip (ns.drop 1)).map λp:Int×Int=>D.tup [.int p.1,.int p.2]:=by
   rw[<-List.map_drop,List.zip_map,BY];rfl
  rw[e,comp_map (g:=λ_=>D.bl true) λp hp=>by
   have hlt:=o5 h p hp
   simp! only[mi,iq,hlt]]
  rw[ja,BY];rfl
 have ha:((ns.zip (ns.drop 1)).map λ_=>true).all id=true:=by simp
 simp! only[D_rises,Kg,Ej,hc,bt_all bc (fv _),ha]
def mj (b:Bool) (l:Lamp):D:=.tup [.int l.tank,.int l.oil,sq b (l.away.map D.int)]
def ui (l:Lamp) (many:Nat):Prop:=(0<=l.tank/\l.tank<=10 ^ 30)/\(0<=l.oil/\l.oil<=l.tank)/\l.away.Pairwise (· < ·)/\∀a∈l.away,0<=a/\a<many
def Bc (d:Day) (many:Nat):Prop:=(0<=d.boat/\d.boat<=10 ^ 30)/\(0<=d.most/\d.most<=10 ^ 30)/\(0<=d.price/\d.price<=10 ^ 15)/\(1<=d.length/\d.length<=10 ^ 15)/\0<=d.wanted/\d.wanted<=many
theorem gp {l:Lamp} {i j k:Nat} {σ:Sl}:ee (.many [i,j,k]) (mj b l) σ=some (((σ.set i (some (.int l.tank))).set j (some (.int l.oil))).set k (some (sq b (l.away.map D.int)))):=rfl
theorem ig {d:Day} {i j k l p:Nat} {σ:Sl}:ee (.many [i,j,k,l,p]) (j4 d) σ=some (((((σ.set i (some (.int d.boat))).set j (some (.int d.most))).set k (some (.int d.price))).set l (some (.int d.length))).set p (some (.int d.wanted))):=rfl
theorem gq {l:Lamp}:btD .len .z [mj b l] μ=.ok (.int 3) μ:=rfl
theorem ij {l:Day}:btD .len .z [j4 l] μ=.ok (.int 5) μ:=rfl
theorem v7 (hr:fu μ) {l:Lamp} {many:Nat} (h:ui l many):ai GL (n+2) i7 [mj b l,.int many] μ=.ok (et l) μ:=by
 rw[au vx,run_eq rfl]
 obtain⟨h1,h2,h3,h4⟩:=h
 have hc:cw (ai GL (n+1)) .z (.one 1) .nil ib [some (.int many),none] (l.away.map D.int,none) μ=.ok (.lst ((l.away.map λ_=>true).map D.bl)) μ:=by
  rw[comp_map (g:=λ_=>D.bl true) λa ha=>by
   have q:=h4 a ha
   simp! only[mi,ib,q.1,q.2]]
  rw[ja,BY];rfl
 have ha:(l.away.map λ_=>true).all id=true:=by simp
 simp! only[D_made_lamp,gq,o4 hr,gp,iy hr h1,h2.1,h2.2,o3,hc,bt_all bc (fv _),ha,bu (Dt (n:=n) (μ:=μ) (b:=b) h3) rfl rfl hr,bt_tuple kq,et,gn]
theorem zc (hr:fu μ) {d:Day} {many:Nat} (h:Bc d many):ai GL (n+2) jt [j4 d,.int many] μ=.ok (j4 d) μ:=by
 rw[au yz,run_eq rfl]
 obtain⟨h1,h2,h3,h4,h5⟩:=h
 simp! only[D_made_day,ij,o4 hr,ig,iy hr h1,iy hr h2,p15,h3.1,h3.2,h4.1,h4.2,h5.1,h5.2]
 rfl
theorem v8 (hr:fu μ) {bk:Book} (hb:Wf bk) {b1 b2 b3:Bool}:ai GL (n+3) gg [.int bk.store,.int bk.oil,sq b1 (bk.lamps.map (mj b2)),sq b3 (bk.days.map j4)] μ=.ok (dg bk) μ:=by
 rw[au vy,run_eq rfl]
 have h1:(1:Int)<=(bk.lamps.length:Nat):=by have:=hb.lamps;lia
 have h2:((bk.lamps.length:Nat):Int)<=8:=by have:=hb.lamps;lia
 have h3:(1:Int)<=(bk.days.length:Nat):=by have:=hb.days;lia
 have h4:((bk.days.length:Nat):Int)<=16:=by have:=hb.days;lia
 have c1:cw (ai GL (n+2)) .z (.one 1) .nil ic [some (sq b3 (bk.days.map j4)),none] (bk.lamps.map (mj b2),none) μ=.ok (.lst (bk.lamps.map et)) μ:=by
  rw[comp_map (g:=et) λl hl=>by
   simp! only[mi,ic,bt_len kq,AG,bu (v7 (n:=n) (b:=b2) hr (hb.lamp l hl)) (lz _) rfl hr]]
  rfl
 have c2:cw (ai GL (n+2)) .z (.one 1) .nil ie [some (sq b1 (bk.lamps.map (mj b2))),none] (bk.days.map j4,none) μ=.ok (.lst (bk.days.map j4)) μ:=by
  rw[comp_map (g:=j4) λd hd=>by
   simp! only[mi,ie,bt_len kq,AG,bu (zc (n:=n) hr (hb.day d hd)) (oy _) rfl hr]]
  rfl
 simp! only[D_made_book,iy hr hb.store,iy hr hb.oil,o4 hr,bt_len kq,AG,h1,h2,h3,h4,o3,c1,c2,bt_tuple bc,dg]
end
open PySem
section
variable {n : Nat} {μ ρ : Sto}
theorem o6:∀(xs:List Int) (lo:Int) (n:Nat),xs.Pairwise (· < ·)->(∀a∈xs,lo<=a/\a<n)->lo<=n->(xs.length:Int)<=n-lo
 | [],lo,n,_,_,h=>by simp;omega
 | x::r,lo,n,hp,hb,h=>by
  have hx:=hb x AT
  have hp':=Do.mp hp
  have:=o6 r (x+1) n hp'.2 (λa ha=>⟨by have:=hp'.1 a ha;omega,(hb a (AR _ ha)).2⟩) (by omega)
  simp;omega
theorem uj (hr:fu μ) {b:Book} (hb:Wf b):ai GL (n+3) gg [.int b.store,.int b.oil,.tup (b.lamps.map et),.tup (b.days.map j4)] μ=.ok (dg b) μ:=v8 (b1:=false) (b2:=false) (b3:=false) hr hb
end
open PySem
section
variable {φ : Phi} {σ : Sl} {μ ρ : Sto}
def kRs (c:Str) (_:List D) (μ:Sto):Res Fl:=.ok (.rt (.tup [.bl false,.str c])) μ
def kCx (φ:Phi) (f:Nat) (σ:Sl) (ds:List D) (μ:Sto):Res Fl:=(sk μ.length (φ f ds μ)).bind (kTh σ)
def kTc (φ:Phi) (f:Nat) (σ:Sl) (ei:Nat) (h:Sms) (ds:List D) (μ:Sto):Res Fl:=(sk μ.length (φ f ds μ)).bind (Kt σ ei λσ μ=>gu φ h σ μ)
theorem G7 {c:Str} {es:Exs}:evS φ (.raise c es) σ μ=(fb φ es σ μ).bind (kRs c):=rfl
theorem Kh {c:Str} {ds:List D}:kRs c ds μ=.ok (.rt (.tup [.bl false,.str c])) μ:=rfl
theorem v9 {s:Sm}:evS φ (.pl s) σ μ=(evS φ s σ μ).bind kPl:=rfl
theorem gr:kPl (.nx σ) μ=.ok (.nx σ) μ:=rfl
theorem bo {f:Nat} {es:Exs}:evS φ (.callx f es) σ μ=(fb φ es σ μ).bind (kCx φ f σ):=rfl
theorem Ki {f ei:Nat} {es:Exs} {h:Sms}:evS φ (.tryc f es ei h) σ μ=(fb φ es σ μ).bind (kTc φ f σ ei h):=rfl
theorem Be {f:Nat} {ds:List D} {d:D} {r:Sum D Str} (e:φ f ds μ=.ok d (μ++ρ)) (hd:zk d=some r) (hr:fu μ):sk μ.length (φ f ds μ)=.ok (match r with | .inl _=>none | .inr c=>some c) μ:=by
 have t:(μ++ρ).take μ.length=μ:=by simp
 have hr':μ.all (dj μ.length)=true:=hr
 rw[e]
 simp![sk,t,hr',if_true,hd]
 cases r<;>rfl
theorem Kj {f:Nat} {ds:List D} {d d':D} (e:φ f ds μ=.ok d (μ++ρ)) (hd:zk d=some (.inl d')) (hr:fu μ):kCx φ f σ ds μ=.ok (.nx σ) μ:=by rw[kCx,Be e hd hr];rfl
theorem Kk {f:Nat} {ds:List D} {d:D} {c:Str} (e:φ f ds μ=.ok d (μ++ρ)) (hd:zk d=some (.inr c)) (hr:fu μ):kCx φ f σ ds μ=.ok (.rt (.tup [.bl false,.str c])) μ:=by rw[kCx,Be e hd hr];rfl
theorem Kl {f ei:Nat} {h:Sms} {ds:List D} {d:D} {c:Str} (e:φ f ds μ=.ok d (μ++ρ)) (hd:zk d=some (.inr c)) (hr:fu μ) (hc:xcls.contains c=true) :
  kTc φ f σ ei h ds μ=(gu φ h (σ.set ei (some (.loc μ.length))) (μ++[.x c])).bind (kGo ei):=by
 rw[kTc,Be e hd hr]
 simp![Res.bj,Kt,hc,if_true]
theorem Km {ei:Nat}:kGo ei (.nx σ) μ=.ok (.nx (σ.set ei none)) μ:=rfl
end
theorem uk {α:Type} {φ:Phi} {μ:Sto} {tg:Tg} {b:Sms} {en:α->D} {v:D} (I:Sl->Prop) (P:α->Prop):∀{xs:List α} {σ:Sl},I σ->(∀a∈xs,∀σ,I σ->(¬P a->∃σ',fLp φ tg b (en a) σ μ=.ok (.nx σ') μ/\I σ')/\(P a->fLp φ tg b (en a) σ μ=.ok (.rt v) μ)) ->
  ((∀a∈xs,¬P a)->∃σ',qy φ tg b σ (xs.map en,none) μ=.ok (.nx σ') μ/\I σ')/\((¬∀a∈xs,¬P a)->qy φ tg b σ (xs.map en,none) μ=.ok (.rt v) μ)
 | [],σ,h,_=>⟨λ_=>⟨σ,by simp[qy,k7],h⟩,λe=>by simp at e⟩
 | a::r,σ,h,st=>by
  have s:=st a AT σ h
  have kl:∀σ,qy φ tg b σ ((a::r).map en,none) μ=(fLp φ tg b (en a) σ μ).bind λfl μ1=>match fl with
   | .nx σ1=>qy φ tg b σ1 (r.map en,none) μ1
   | .ct σ1=>qy φ tg b σ1 (r.map en,none) μ1
   | .bk σ1=>.ok (.nx σ1) μ1
   | .rt v=>.ok (.rt v) μ1:=λσ=>by
    simp![qy,AX,k7]
    rw[if_pos (show gd none μ from trivial)]
    all_goals congr 1
  by_cases p:P a
  ·exact⟨λq=>absurd p (q a AT),λ_=>by rw[kl,s.2 p];rfl⟩
  ·obtain⟨σ1,e1,i1⟩:=s.1 p
   have ih:=uk I P (xs:=r) (σ:=σ1) i1 λx hx=>st x (AR _ hx)
   refine⟨λq=>?_,λq=>?_⟩
   ·rw[kl,e1];exact ih.1 λx hx=>q x (AR _ hx)
   ·rw[kl,e1]
    refine ih.2 λz=>q λx hx=>?_
    rcases AJ.mp hx with rfl | hx
    ·exact p
    ·exact z x hx
def kBv (φ:Phi) (f:Nat) (as:List D) (μ:Sto):Res (Sum D Str):=vc μ.length (φ f as μ)
def kMa (φ:Phi) (f:Nat) (es:Exs) (μ:Sto) (σ:Sl):Res (Sum D Str):=(fb φ es σ μ).bind (kBv φ f)
def fMx (φ:Phi) (tg:Tg) (f:Nat) (es:Exs) (σ0:Sl) (d:D) (μ:Sto):Res (Sum D Str):=ik (ee tg d σ0) (kMa φ f es μ)
def N9 (φ:Phi) (tg:Tg) (f:Nat) (es:Exs) (σ0 σ:Sl) (i:Nat) (w:List D×Gd) (μ:Sto):Res Fl:=(zl w.2 (fMx φ tg f es σ0) w.1 μ).bind (kMx σ i [])
section
variable {φ : Phi} {σ : Sl} {μ ρ : Sto}
theorem Ek {i:Nat} {cap:List Nat} {nl:Nat} {tg:Tg} {it:It} {f:Nat} {es:Exs}:evS φ (.mapx i cap nl tg it f es) σ μ=(evI φ it σ μ).bind (N9 φ tg f es (cap.map (λi=>(σ[i]?).getD none)++List.replicate nl none) σ i):=rfl
theorem qa {f:Nat} {es:Exs}:kMa φ f es μ σ=(fb φ es σ μ).bind (kBv φ f):=rfl
theorem El {f:Nat} {ds:List D} {d d':D} (e:φ f ds μ=.ok d (μ++ρ)) (hd:zk d=some (.inl d')) (hp:d'.pure=true) (hr:fu μ):kBv φ f ds μ=.ok (.inl d') μ:=by
 have t:(μ++ρ).take μ.length=μ:=by simp
 have hr':μ.all (dj μ.length)=true:=hr
 rw[kBv,e]
 simp![vc,t,hr',if_true,hd,iu _ 8 d' hp]
theorem x9 {f:Nat} {ds:List D} {d:D} {c:Str} (e:φ f ds μ=.ok d (μ++ρ)) (hd:zk d=some (.inr c)) (hr:fu μ):kBv φ f ds μ=.ok (.inr c) μ:=by
 have t:(μ++ρ).take μ.length=μ:=by simp
 have hr':μ.all (dj μ.length)=true:=hr
 rw[kBv,e]
 simp![vc,t,hr',if_true,hd]
theorem G8 {α:Type} {F:D->Sto->Res (Sum D Str)} {en g:α->D} {c:Str} (P:α->Prop):∀{xs:List α},(∀a∈xs,(P a->F (en a) μ=.ok (.inl (g a)) μ)/\(¬P a->F (en a) μ=.ok (.inr c) μ)) ->
  ((∀a∈xs,P a)->zl none F (xs.map en) μ=.ok (.inl (xs.map g)) μ)/\((¬∀a∈xs,P a)->zl none F (xs.map en) μ=.ok (.inr c) μ)
 | [],_=>⟨λ_=>by simp[zl],λe=>by simp at e⟩
 | a::r,st=>by
  have s:=st a AT
  have ih:=G8 P (xs:=r) λx hx=>st x (AR _ hx)
  have kl:zl none F ((a::r).map en) μ=(F (en a) μ).bind (kMc λμ=>zl none F (r.map en) μ):=by
   simp![AX,zl]
   rw[if_pos (show gd none μ from trivial)]
  refine⟨λq=>?_,λq=>?_⟩
  ·rw[kl,s.1 (q a AT)]
   simp![Res.bj,kMc,ih.1 λx hx=>q x (AR _ hx),kMd,AX]
  ·rw[kl]
   by_cases p:P a
   ·rw[s.1 p]
    have z:¬∀x∈r,P x:=λz=>q λx hx=>by
     rcases AJ.mp hx with rfl | hx
     ·exact p
     ·exact z x hx
    simp![Res.bj,kMc,ih.2 z,kMd]
   ·rw[s.2 p]
    rfl
end
open PySem
theorem ku {b c:Nat} (h:b<=c):∀(k:Nat) (d:D),D.belowN b k d=true->D.belowN c k d=true
 | 0,d,e=>by cases d<;>simp_all[D.belowN];omega
 | k+1,d,e=>by
  cases d with
  | tup ds =>
   simp![D.belowN,AO]at e ⊢
   exact λx hx=>ku h k x (e x hx)
  | lst ds =>
   simp![D.belowN,AO]at e ⊢
   exact λx hx=>ku h k x (e x hx)
  | loc n=>simp_all[D.belowN];omega
  | _=>rfl
def xB:D:=.tup [.bl false,.str "BadBook"]
theorem Oa:∀{xs:List Int},((xs.zip (xs.drop 1)).map λp=>decide (p.1<p.2)).all id=true↔xs.Pairwise (· < ·)
 | []=>by simp
 | [a]=>by simp
 | a::b::r=>by
  have ih:=Oa (xs:=b::r)
  simp![List.drop_succ_cons,List.drop_zero,CM,AX,AY,id,AW,decide_eq_true_eq]at ih ⊢
  rw[ih]
  constructor
  ·rintro⟨h1,h2⟩
   refine Do.mpr ⟨λx hx=>?_,h2⟩
   rcases AJ.mp hx with rfl | hx
   ·exact h1
   ·have:=(Do.mp h2).1 x hx;omega
  ·intro h
   obtain⟨h1,h2⟩:=Do.mp h
   exact⟨h1 b AT,h2⟩
section
variable {n : Nat} {μ ρ : Sto} {b : Bool} {m : Mk} {σ : Sl}
theorem G9 {w:Str}:ai GL (n+1) ah [.bl true,.str w] μ=.ok .non μ:=by
 rw[au ir,run_eq rfl]
 simp! only[D_refuse_unless_2]
theorem Ha {w:Str}:ai GL (n+1) ah [.bl false,.str w] μ=.ok xB μ:=by
 rw[au ir,run_eq rfl]
 simp! only[D_refuse_unless_2,G7,Kh,xB]
theorem cxT (hr:fu μ) {w:Str}:kCx (ai GL (n+1)) ah σ [.bl true,.str w] μ=.ok (.nx σ) μ:=Kj (ρ:=[]) (by rw[BD];exact G9) rfl hr
theorem cxF (hr:fu μ) {w:Str}:kCx (ai GL (n+1)) ah σ [.bl false,.str w] μ=.ok (.rt xB) μ:=Kk (ρ:=[]) (by rw[BD];exact Ha) rfl hr
theorem wa {x:Int}:ai GL (n+1) ay [.int x] μ=.ok (.bl (decide (0<=x/\x<=10 ^ 30))) μ:=by
 rw[au l8,run_eq rfl]
 by_cases h1:0<=x
 ·by_cases h2:x<=10 ^ 30
  ·simp! only[D_is_measure,p30,h1,h2,and_self]
  ·simp! only[D_is_measure,p30,h1,h2,and_false]
 ·simp! only[D_is_measure,p30,h1,false_and]
theorem av (hr:fu μ) {x:Int}:lu (ai GL (n+1)) false ay [.int x] μ=.ok (.bl (decide (0<=x/\x<=10 ^ 30))) μ:=bu wa rfl rfl hr
theorem Bf {ns:List Int}:ai GL (n+1) lr [sq b (ns.map D.int)] μ=.ok (.bl (((ns.zip (ns.drop 1)).map λp=>decide (p.1<p.2)).all id)) μ:=by
 rw[au A7,run_eq rfl]
 have hc:cw (ai GL n) .z (.many [0,1]) .nil iq [none,none] (((ns.map D.int).zip ((ns.map D.int).drop 1)).map λp=>.tup [p.1,p.2],none) μ=.ok (.lst (((ns.zip (ns.drop 1)).map λp=>decide (p.1<p.2)).map D.bl)) μ:=by
  have e:(((ns.map D.int).zip ((ns.map D.int).drop 1)).map λp=>D.tup [p.1,p.2])=(ns.zip (ns.drop 1)).map λp:Int×Int=>D.tup [.int p.1,.int p.2]:=by
   rw[<-List.map_drop,List.zip_map,BY];rfl
  rw[e,comp_map (g:=λp:Int×Int=>D.bl (decide (p.1<p.2))) λp hp=>by
   simp! only[mi,iq]]
  rw[ja,BY];rfl
 simp! only[D_rises,Kg,Ej,hc,bt_all bc (fv _)]
theorem um (hr:fu μ) {l:Lamp} {many:Nat}:(ui l many->ai GL (n+2) cu [mj b l,.int many] μ=.ok (.tup [.bl true,et l]) μ)/\(¬ui l many->ai GL (n+2) cu [mj b l,.int many] μ=.ok xB μ):=by
 rw[au km,run_eq rfl]
 have hc:cw (ai GL (n+1)) .z (.one 1) .nil cv [some (.int many),none] (l.away.map D.int,none) μ=.ok (.lst ((l.away.map λa=>decide (0<=a/\a<(many:Int))).map D.bl)) μ:=by
  rw[comp_map (g:=λa:Int=>D.bl (decide (0<=a/\a<(many:Int)))) λa ha=>by
   by_cases h1:0<=a
   ·by_cases h2:a<(many:Int)
    ·simp! only[mi,cv,h1,h2,and_self]
    ·simp! only[mi,cv,h1,h2,and_false]
   ·simp! only[mi,cv,h1,false_and]]
  rw[ja,BY];rfl
 have kr:=bu (Bf (n:=n) (μ:=μ) (b:=b) (ns:=l.away)) rfl rfl hr
 by_cases h1:0<=l.tank/\l.tank<=10 ^ 30
 ·by_cases h2:0<=l.oil
  ·by_cases h3:l.oil<=l.tank
   ·by_cases h4:∀a∈l.away,0<=a/\a<(many:Int)
    ·have ha:(l.away.map λa=>decide (0<=a/\a<(many:Int))).all id=true:=by
      rw[AO]
      intro x hx
      obtain⟨a,ha,rfl⟩:=BX.mp hx
      simpa using h4 a ha
     by_cases h5:l.away.Pairwise (· < ·)
     ·refine⟨λ_=>?_,λz=>absurd ⟨h1,⟨h2,h3⟩,h5,h4⟩ z⟩
      simp! only[D_made_lamp_2,bo,v9,gr,gq,cxT hr,gp,av hr,h1,and_self,h2,h3,o3,hc,bt_all bc (fv _),ha,kr,Oa.mpr h5,bt_tuple kq,et,gn]
     ·refine⟨λz=>absurd z.2.2.1 h5,λ_=>?_⟩
      have h5':((l.away.zip (l.away.drop 1)).map λp=>decide (p.1<p.2)).all id=false:=by
       rw[<-Bool.not_eq_true,Oa];exact h5
      simp! only[D_made_lamp_2,bo,v9,gr,gq,cxT hr,cxF hr,gp,av hr,h1,and_self,h2,h3,o3,hc,bt_all bc (fv _),ha,kr,h5']
    ·refine⟨λz=>absurd z.2.2.2 h4,λ_=>?_⟩
     have ha:(l.away.map λa=>decide (0<=a/\a<(many:Int))).all id=false:=by
      rw[List.all_eq_false]
      simp![Classical.not_forall]at h4
      obtain⟨a,ha,q⟩:=h4
      exact⟨false,BX.mpr ⟨a,ha,by simp[q]⟩,by simp⟩
     simp! only[D_made_lamp_2,bo,v9,gr,gq,cxT hr,cxF hr,gp,av hr,h1,and_self,h2,h3,o3,hc,bt_all bc (fv _),ha]
   ·refine⟨λz=>absurd z.2.1.2 h3,λ_=>?_⟩
    simp! only[D_made_lamp_2,bo,v9,gr,gq,cxT hr,cxF hr,gp,av hr,h1,and_self,h2,h3]
  ·refine⟨λz=>absurd z.2.1.1 h2,λ_=>?_⟩
   simp! only[D_made_lamp_2,bo,v9,gr,gq,cxT hr,cxF hr,gp,av hr,h1,and_self,h2]
 ·refine⟨λz=>absurd z.1 h1,λ_=>?_⟩
  simp! only[D_made_lamp_2,bo,v9,gr,gq,cxT hr,cxF hr,gp,av hr,h1]
theorem pg (hr:fu μ) {ds:List D} {many:Nat} (h:ds.length≠3):ai GL (n+2) cu [.tup ds,.int many] μ=.ok xB μ:=by
 rw[au km,run_eq rfl]
 have h':¬((ds.length:Nat):Int)=3:=by omega
 simp! only[D_made_lamp_2,bo,bt_len kn,h',cxF hr]
theorem wb (hr:fu μ) {d:Day} {many:Nat}:(Bc d many->ai GL (n+2) da [j4 d,.int many] μ=.ok (.tup [.bl true,j4 d]) μ)/\(¬Bc d many->ai GL (n+2) da [j4 d,.int many] μ=.ok xB μ):=by
 rw[au l9,run_eq rfl]
 have bad:∀{P Y Z:Prop},¬P->Z->(P->Y)/\(¬P->Z):=λh z=>⟨λp=>absurd p h,λ_=>z⟩
 by_cases h1:0<=d.boat/\d.boat<=10 ^ 30
 ·by_cases h2:0<=d.most/\d.most<=10 ^ 30
  ·by_cases h3:0<=d.price
   ·by_cases h4:d.price<=10 ^ 15
    ·by_cases h5:1<=d.length
     ·by_cases h6:d.length<=10 ^ 15
      ·by_cases h7:0<=d.wanted
       ·by_cases h8:d.wanted<=(many:Int)
        ·refine⟨λ_=>?_,λz=>absurd ⟨h1,h2,⟨h3,h4⟩,⟨h5,h6⟩,h7,h8⟩ z⟩
         simp! only[D_made_day_2,bo,v9,gr,ij,cxT hr,ig,av hr,p15,h1,h2,and_self,h3,h4,h5,h6,h7,h8]
         rfl
        ·refine bad (λz=>h8 z.2.2.2.2.2) ?_
         simp! only[D_made_day_2,bo,v9,gr,ij,cxT hr,cxF hr,ig,av hr,p15,h1,h2,and_self,h3,h4,h5,h6,h7,h8]
       ·refine bad (λz=>h7 z.2.2.2.2.1) ?_
        simp! only[D_made_day_2,bo,v9,gr,ij,cxT hr,cxF hr,ig,av hr,p15,h1,h2,and_self,h3,h4,h5,h6,h7]
      ·refine bad (λz=>h6 z.2.2.2.1.2) ?_
       simp! only[D_made_day_2,bo,v9,gr,ij,cxT hr,cxF hr,ig,av hr,p15,h1,h2,and_self,h3,h4,h5,h6]
     ·refine bad (λz=>h5 z.2.2.2.1.1) ?_
      simp! only[D_made_day_2,bo,v9,gr,ij,cxT hr,cxF hr,ig,av hr,p15,h1,h2,and_self,h3,h4,h5]
    ·refine bad (λz=>h4 z.2.2.1.2) ?_
     simp! only[D_made_day_2,bo,v9,gr,ij,cxT hr,cxF hr,ig,av hr,p15,h1,h2,and_self,h3,h4]
   ·refine bad (λz=>h3 z.2.2.1.1) ?_
    simp! only[D_made_day_2,bo,v9,gr,ij,cxT hr,cxF hr,ig,av hr,p15,h1,h2,and_self,h3]
  ·refine bad (λz=>h2 z.2.1) ?_
   simp! only[D_made_day_2,bo,v9,gr,ij,cxT hr,cxF hr,ig,av hr,h1,h2,and_self]
 ·refine bad (λz=>h1 z.1) ?_
  simp! only[D_made_day_2,bo,v9,gr,ij,cxT hr,cxF hr,ig,av hr,h1]
theorem rk (hr:fu μ) {ds:List D} {many:Nat} (h:ds.length≠5):ai GL (n+2) da [.tup ds,.int many] μ=.ok xB μ:=by
 rw[au l9,run_eq rfl]
 have h':¬((ds.length:Nat):Int)=5:=by omega
 simp! only[D_made_day_2,bo,bt_len kn,h',cxF hr]
inductive Lc where
 | g (b:Bool) (l:Lamp)
 | x (ds:List D)
inductive Dc where
 | g (d:Day)
 | x (ds:List D)
def enL:Lc->D
 | .g b l=>mj b l
 | .x ds=>.tup ds
def enD:Dc->D
 | .g d=>j4 d
 | .x ds=>.tup ds
def okL (many:Nat):Lc->Prop
 | .g _ l=>ui l many
 | .x _=>False
def okD (many:Nat):Dc->Prop
 | .g d=>Bc d many
 | .x _=>False
def gL:Lc->D
 | .g _ l=>et l
 | .x _=>.non
def gD:Dc->D
 | .g d=>j4 d
 | .x _=>.non
structure lq (ls:List Lc) (ds:List Dc):Prop where
 l:∀c∈ls,∀x,c=.x x->x.length≠3
 d:∀c∈ds,∀x,c=.x x->x.length≠5
structure Whole (st oil:Int) (ls:List Lc) (ds:List Dc):Prop where
 st:0<=st/\st<=10 ^ 30
 oil:0<=oil/\oil<=10 ^ 30
 nl:1<=ls.length/\ls.length<=8
 nd:1<=ds.length/\ds.length<=16
 l:∀c∈ls,okL ds.length c
 d:∀c∈ds,okD ls.length c
theorem uo (hr:fu μ) {st oil:Int} {ls:List Lc} {ds:List Dc} (hp:lq ls ds) (bad:¬Whole st oil ls ds):ai GL (n+3) d5 [.int st,.int oil,.lst (ls.map enL),.lst (ds.map enD)] μ=.ok xB μ:=by
 rw[au qx,run_eq rfl]
 have kl:kSeq (.lst (ls.map enL)) μ=.ok (ls.map enL,none) μ:=rfl
 have kd:kSeq (.lst (ds.map enD)) μ=.ok (ds.map enD,none) μ:=rfl
 have ml:=G8 (μ:=μ) (F:=fMx (ai GL (n+2)) (.one 1) cu (.cons (.var 1) (.cons (.blt .len .z (.cons (.var 0) .nil)) .nil)) [some (.lst (ds.map enD)),none]) (en:=enL) (g:=gL) (c:="BadBook") (okL ds.length) (xs:=ls) λc hc=>by
  cases c with
  | g b l =>
   obtain⟨e1,e2⟩:=um (n:=n) (b:=b) (l:=l) (many:=ds.length) hr
   refine⟨λh=>?_,λh=>?_⟩
   ·have k:=El (ρ:=[]) (by rw[BD];exact e1 h) rfl (lz _) hr
    simp! only[fMx,qa,bt_len bc,AG,enL,k,gL]
   ·have k:=x9 (ρ:=[]) (by rw[BD];exact e2 h) rfl hr
    simp! only[fMx,qa,bt_len bc,AG,enL,k]
  | x l =>
   have k:=x9 (ρ:=[]) (by rw[BD];exact pg (n:=n) (many:=ds.length) hr (hp.l _ hc l rfl)) rfl hr
   refine⟨λh=>h.elim,λ_=>?_⟩
   simp! only[fMx,qa,bt_len bc,AG,enL,k]
 have md:=G8 (μ:=μ) (F:=fMx (ai GL (n+2)) (.one 1) da (.cons (.var 1) (.cons (.blt .len .z (.cons (.var 0) .nil)) .nil)) [some (.lst (ls.map enL)),none]) (en:=enD) (g:=gD) (c:="BadBook") (okD ls.length) (xs:=ds) λc hc=>by
  cases c with
  | g d =>
   obtain⟨e1,e2⟩:=wb (n:=n) (d:=d) (many:=ls.length) hr
   refine⟨λh=>?_,λh=>?_⟩
   ·have k:=El (ρ:=[]) (by rw[BD];exact e1 h) rfl (oy _) hr
    simp! only[fMx,qa,bt_len bc,AG,enD,k,gD]
   ·have k:=x9 (ρ:=[]) (by rw[BD];exact e2 h) rfl hr
    simp! only[fMx,qa,bt_len bc,AG,enD,k]
  | x l =>
   have k:=x9 (ρ:=[]) (by rw[BD];exact rk (n:=n) (many:=ls.length) hr (hp.d _ hc l rfl)) rfl hr
   refine⟨λh=>h.elim,λ_=>?_⟩
   simp! only[fMx,qa,bt_len bc,AG,enD,k]
 have cx:∀{σ:Sl} {i:Nat} {c:Str},kMx σ i [] (.inr c) μ=.ok (.rt (.tup [.bl false,.str c])) μ:=rfl
 have ci:∀{σ:Sl} {i:Nat} {xs:List D},kMx σ i [] (.inl xs) μ=.ok (.nx (σ.set i (some (.tup xs)))) μ:=rfl
 have bl:btD .len .z [.lst (ls.map enL)] μ=.ok (.int ls.length) μ:=by rw[bt_len bc,AG]
 have bd:btD .len .z [.lst (ds.map enD)] μ=.ok (.int ds.length) μ:=by rw[bt_len bc,AG]
 by_cases h1:0<=st/\st<=10 ^ 30
 ·by_cases h2:0<=oil/\oil<=10 ^ 30
  ·by_cases h3:(1:Int)<=ls.length
   ·by_cases h4:(ls.length:Int)<=8
    ·by_cases h5:(1:Int)<=ds.length
     ·by_cases h6:(ds.length:Int)<=16
      ·by_cases h7:∀c∈ls,okL ds.length c
       ·have h8:¬∀c∈ds,okD ls.length c:=λz=>bad ⟨h1,h2,by omega,by omega,h7,z⟩
        have e7:=ml.1 h7
        have e8:=md.2 h8
        simp! only[D_made_book_2,bo,Ek,N9,cxT hr,av hr,h1,h2,and_self,bl,bd,h3,h4,h5,h6,kl,kd,e7,e8,cx,ci,xB]
       ·have e7:=ml.2 h7
        simp! only[D_made_book_2,bo,Ek,N9,cxT hr,av hr,h1,h2,and_self,bl,bd,h3,h4,h5,h6,kl,e7,cx,xB]
      ·simp! only[D_made_book_2,bo,cxT hr,cxF hr,av hr,h1,h2,and_self,bl,bd,h3,h4,h5,h6]
     ·simp! only[D_made_book_2,bo,cxT hr,cxF hr,av hr,h1,h2,and_self,bl,bd,h3,h4,h5]
    ·simp! only[D_made_book_2,bo,cxT hr,cxF hr,av hr,h1,h2,and_self,bl,h3,h4]
   ·simp! only[D_made_book_2,bo,cxT hr,cxF hr,av hr,h1,h2,and_self,bl,h3]
  ·simp! only[D_made_book_2,bo,cxT hr,cxF hr,av hr,h1,h2,and_self]
 ·simp! only[D_made_book_2,bo,cxF hr,av hr,h1]
theorem Du:ai GL (n+1) i8 [.loc μ.length] (μ++[.x "BadBook"])=.ok (.lst ([true,false,false,false,false,true].map D.bl)) (μ++[.x "BadBook"]):=by
 rw[au vz,run_eq rfl]
 have is:∀(c:Str) (b:Bool),zj "BadBook" c=b->Hh (.own c) (.loc μ.length) (μ++[.x "BadBook"])=.ok (.bl b) (μ++[.x "BadBook"]):=λc b h=>by
  have a:(μ++[O.x "BadBook"])[μ.length]? = some (O.x "BadBook"):=by simp
  have k:xcls.contains "BadBook"=true:=by decide
  simp![Hh,a,k,if_true,h]
 have op:opD .Add .z (.lst [.bl true,.bl false,.bl false,.bl false]) (.lst [.bl false,.bl true]) (μ++[.x "BadBook"])=.ok (.lst ([true,false,false,false,false,true].map D.bl)) (μ++[.x "BadBook"]):=by
  have:=j5
  simp![opD,Lp.listOf]
  rw[if_pos (by simp;omega),ja];rfl
 simp! only[D_law_kinds,is "BadBook" true (by decide),is "BadTicks" false (by decide),is "NoDeed" false (by decide),is "NoRest" false (by decide),is "BadRow" false (by decide),is "ValueError" true (by decide),ja,op]
theorem me (hr:fu μ) {st oil:Int} {ls:List Lc} {ds:List Dc} (hp:lq ls ds) (bad:¬Whole st oil ls ds) :
  ∃ρ,ai GL (n+4) de [.tup [.int st,.int oil,.lst (ls.map enL),.lst (ds.map enD)]] μ=.ok (.bl true) (μ++ρ):=by
 rw[au ox,run_eq rfl]
 have e:=uo (n:=n) hr hp bad
 have e0:∀σ ei h,kTc (ai GL (n+3)) d5 σ ei h [.int st,.int oil,.lst (ls.map enL),.lst (ds.map enD)] μ=(gu (ai GL (n+3)) h (σ.set ei (some (.loc μ.length))) (μ++[.x "BadBook"])).bind (kGo ei):=λσ ei h=>Kl (ρ:=[]) (by rw[BD];exact e) rfl hr (by decide)
 have hr2:fu (μ++[.x "BadBook"]):=by
  unfold fu at hr ⊢
  rw[AO]at hr ⊢
  intro o ho
  rcases CT.mp ho with h | h
  ·have:=hr o h
   cases o with
   | r xs =>
    simp![dj,AO]at this ⊢
    exact λx hx=>ku (by simp) 8 x (this x hx)
   | _=>rfl
  ·simp![BZ]at h
   subst h;rfl
 have kk:=bu (Du (n:=n+2) (μ:=μ)) rfl rfl hr2
 have i00:ixD (.tup [.int st,.int oil,.lst (ls.map enL),.lst (ds.map enD)]) (.int 0) μ=.ok (.int st) μ:=rfl
 have i01:ixD (.tup [.int st,.int oil,.lst (ls.map enL),.lst (ds.map enD)]) (.int 1) μ=.ok (.int oil) μ:=rfl
 have i02:ixD (.tup [.int st,.int oil,.lst (ls.map enL),.lst (ds.map enD)]) (.int 2) μ=.ok (.lst (ls.map enL)) μ:=rfl
 have i03:ixD (.tup [.int st,.int oil,.lst (ls.map enL),.lst (ds.map enD)]) (.int 3) μ=.ok (.lst (ds.map enD)) μ:=rfl
 have cp:∀ν,cpD .eq (.lst [.bl true,.bl false,.bl false,.bl false,.bl false,.bl true]) (.lst [.bl true,.bl false,.bl false,.bl false,.bl false,.bl true]) ν=.ok (.bl true) ν:=λν=>rfl
 refine⟨[.x "BadBook"],?_⟩
 simp! only[D_law_refused_2,Ki,ja,i00,i01,i02,i03,e0,Km,kk,cp]
end
open PySem
structure R2 (μ0 ν:Sto) (a b:Nat) (la lb:List Nat) (rl rd:List (List D)):Prop where
 oa:ν[a]? = some (.r (la.map D.loc))
 ob:ν[b]? = some (.r (lb.map D.loc))
 na:la.length=rl.length
 nb:lb.length=rd.length
 pa:∀(i:Nat) l r,la[i]? = some l->rl[i]? = some r->ν[l]? = some (.l r)
 pb:∀(i:Nat) l r,lb[i]? = some l->rd[i]? = some r->ν[l]? = some (.l r)
 nd:(la++lb).Nodup
 pre:∃ρ,ν=μ0++ρ
 lo:∀l∈la++lb,μ0.length<=l
 sh:fu ν
theorem ya {μ:Sto} {i:Nat} {ds:List D} (h:fu μ):fu (μ.set i (.l ds)):=by
 unfold fu at h ⊢
 rw[AO]at h ⊢
 intro o ho
 rw[List.length_set]
 rcases CK ho with z | z
 ·exact h o z
 ·subst z;rfl
theorem mw {μ:Sto} {o:O} (h:fu μ) (ho:dj (μ.length+1) o=true):fu (μ++[o]):=by
 unfold fu at h ⊢
 rw[AO]at h ⊢
 intro p hp
 rw[BM,ET]
 rcases CT.mp hp with z | z
 ·have:=h p z
  cases p with
  | r xs =>
   simp![dj,AO]at this ⊢
   exact λx hx=>ku (by omega) 8 x (this x hx)
  | _=>rfl
 ·rw[BZ.mp z];exact ho
section
variable {n : Nat} {μ μ0 ν : Sto} {φ : Phi} {a b : Nat} {la lb : List Nat} {rl rd : List (List D)} {σ : Sl} {es : Exs}
theorem Kn {xs:List Nat} (h:xs.Nodup) {i j:Nat} {x y:Nat} (ei:xs[i]? = some x) (ej:xs[j]? = some y) (ne:i≠j):x≠y:=by
 rintro rfl
 obtain⟨h1,e1⟩:=AF.mp ei
 obtain⟨h2,e2⟩:=AF.mp ej
 exact ne ((GM h).mp (e1.trans e2.symm))
theorem R2.rowa (h:R2 μ0 ν a b la lb rl rd) {i:Nat} (hi:i<rl.length):∃l r,la[i]? = some l/\rl[i]? = some r/\ν[l]? = some (.l r):=by
 have hi':i<la.length:=by rw[h.na];exact hi
 exact⟨la[i],rl[i],AB hi',AB hi,h.pa i _ _ (AB hi') (AB hi)⟩
theorem R2.rowb (h:R2 μ0 ν a b la lb rl rd) {i:Nat} (hi:i<rd.length):∃l r,lb[i]? = some l/\rd[i]? = some r/\ν[l]? = some (.l r):=by
 have hi':i<lb.length:=by rw[h.nb];exact hi
 exact⟨lb[i],rd[i],AB hi',AB hi,h.pb i _ _ (AB hi') (AB hi)⟩
theorem Bg {i:Nat} {o:O} (h:∃ρ,ν=μ0++ρ) (hi:μ0.length<=i):∃ρ,ν.set i o=μ0++ρ:=by
 obtain⟨ρ,rfl⟩:=h
 exact⟨ρ.set (i-μ0.length) o,by rw[List.set_append_right _ _ hi]⟩
theorem eg {i:Nat} {l:Nat} {x y:O} (e:ν[l]? = some y):(ν.set l x)[i]? = if i=l then some x else ν[i]?:=by
 by_cases z:i=l
 ·subst z
  rw[if_pos rfl,AZ (AF.mp e).1]
 ·rw[if_neg z,BB (Ne.symm z)]
theorem R2.puta (h:R2 μ0 ν a b la lb rl rd) {i l:Nat} {r r':List D} (ei:la[i]? = some l) (er:rl[i]? = some r):R2 μ0 (ν.set l (.l r')) a b la lb (rl.set i r') rd:=by
 have el:=h.pa i l r ei er
 have hi:=(AF.mp er).1
 have nda:=(DA.mp h.nd).1
 have dis:=(DA.mp h.nd).2.2
 refine⟨?_,?_,by simpa using h.na,h.nb,λj l2 r2 e1 e2=>?_,λj l2 r2 e1 e2=>?_,h.nd,Bg h.pre (h.lo l (FA _ (AV ei))),h.lo,ya h.sh⟩
 ·rw[eg el,if_neg (by rintro rfl;rw[h.oa]at el;cases el)];exact h.oa
 ·rw[eg el,if_neg (by rintro rfl;rw[h.ob]at el;cases el)];exact h.ob
 ·rw[eg el]
  by_cases z:j=i
  ·subst z
   rw[ei]at e1;cases e1
   rw[AZ hi]at e2;cases e2
   rw[if_pos rfl]
  ·rw[if_neg (Kn nda e1 ei z)]
   rw[BB (Ne.symm z)]at e2
   exact h.pa j l2 r2 e1 e2
 ·rw[eg el,if_neg (λz=>dis l (AV ei) l2 (AV e1) z.symm)]
  exact h.pb j l2 r2 e1 e2
theorem R2.putb (h:R2 μ0 ν a b la lb rl rd) {i l:Nat} {r r':List D} (ei:lb[i]? = some l) (er:rd[i]? = some r):R2 μ0 (ν.set l (.l r')) a b la lb rl (rd.set i r'):=by
 have el:=h.pb i l r ei er
 have hi:=(AF.mp er).1
 have ndb:=(DA.mp h.nd).2.1
 have dis:=(DA.mp h.nd).2.2
 refine⟨?_,?_,h.na,by simpa using h.nb,λj l2 r2 e1 e2=>?_,λj l2 r2 e1 e2=>?_,h.nd,Bg h.pre (h.lo l (AS _ (AV ei))),h.lo,ya h.sh⟩
 ·rw[eg el,if_neg (by rintro rfl;rw[h.oa]at el;cases el)];exact h.oa
 ·rw[eg el,if_neg (by rintro rfl;rw[h.ob]at el;cases el)];exact h.ob
 ·rw[eg el,if_neg (dis l2 (AV e1) l (AV ei))]
  exact h.pa j l2 r2 e1 e2
 ·rw[eg el]
  by_cases z:j=i
  ·subst z
   rw[ei]at e1;cases e1
   rw[AZ hi]at e2;cases e2
   rw[if_pos rfl]
  ·rw[if_neg (Kn ndb e1 ei z)]
   rw[BB (Ne.symm z)]at e2
   exact h.pb j l2 r2 e1 e2
theorem rm {i:Nat} {x o:O} (e:ν[i]? = some x):(ν++[o])[i]? = some x:=by
 rw[AK (AF.mp e).1];exact e
theorem R2.push (h:R2 μ0 ν a b la lb rl rd) (ds:List D):R2 μ0 (ν++[.l ds]) a b la lb rl rd :=
 ⟨rm h.oa,rm h.ob,h.na,h.nb,λi l r e1 e2=>rm (h.pa i l r e1 e2),λi l r e1 e2=>rm (h.pb i l r e1 e2),h.nd,by obtain⟨ρ,e⟩:=h.pre;exact⟨ρ++[.l ds],by rw[e,BW]⟩,h.lo,mw h.sh rfl⟩
theorem R2.lena (h:R2 μ0 ν a b la lb rl rd):btD .len .z [.loc a] ν=.ok (.int rl.length) ν:=by
 rw[bt_len (show c6 ν (.loc a)=some (la.map D.loc)by simp![c6,h.oa]),AG,h.na]
theorem R2.lenb (h:R2 μ0 ν a b la lb rl rd):btD .len .z [.loc b] ν=.ok (.int rd.length) ν:=by
 rw[bt_len (show c6 ν (.loc b)=some (lb.map D.loc)by simp![c6,h.ob]),AG,h.nb]
theorem R2.ixa (h:R2 μ0 ν a b la lb rl rd) {k l:Nat} (e:la[k]? = some l):ixD (.loc a) (.int k) ν=.ok (.loc l) ν:=A9 (show c6 ν (.loc a)=some (la.map D.loc)by simp![c6,h.oa]) (by rw[AU,e];rfl)
theorem R2.ixb (h:R2 μ0 ν a b la lb rl rd) {k l:Nat} (e:lb[k]? = some l):ixD (.loc b) (.int k) ν=.ok (.loc l) ν:=A9 (show c6 ν (.loc b)=some (lb.map D.loc)by simp![c6,h.ob]) (by rw[AU,e];rfl)
theorem R2.seqa (h:R2 μ0 ν a b la lb rl rd):kSeq (.loc a) ν=.ok (la.map D.loc,some (a,.r (la.map D.loc))) ν:=by simp![kSeq,cc,h.oa]
theorem R2.seqb (h:R2 μ0 ν a b la lb rl rd):kSeq (.loc b) ν=.ok (lb.map D.loc,some (b,.r (lb.map D.loc))) ν:=by simp![kSeq,cc,h.ob]
theorem o7 {l:Nat} {r:List D} (e:ν[l]? = some (.l r)):c6 ν (.loc l)=some r:=by simp![c6,e]
theorem qb {l:Nat} {r:List D} {k:Nat} {d:D} (e:ν[l]? = some (.l r)) (ed:r[k]? = some d):ixD (.loc l) (.int k) ν=.ok d ν:=A9 (o7 e) ed
theorem jk {l:Nat} {r:List D} {k:Nat} {d:D} (e:ν[l]? = some (.l r)) (hk:k<r.length) (hd:d.pure=true):rn (.loc l) (.int k) d ν=.ok () (ν.set l (.l (r.set k d))):=by
 have e1:ixN r.length (k:Int)=some k:=by simp[ixN];omega
 have hd':fits (.l r) d=true:=hd
 simp![rn,e,gv,e1,hd',if_true,putL,Res.bj]
theorem jw {elt:Ex} (hy:elt=.blt .tuple .z (.cons (.var 0) .nil)) {g:Gd} (hg:gd g ν):∀{ds:List D} {rs:List (List D)},ds.length=rs.length->(∀(i:Nat) d r,ds[i]? = some d->rs[i]? = some r->c6 ν d=some r) ->
  cw φ .z (.one 0) .nil elt [none] (ds,g) ν=.ok (.lst (rs.map D.tup)) ν:=λ{ds rs} hl h=>by
 subst hy
 have e:mapR g (mi φ (.one 0) .nil (.blt .tuple .z (.cons (.var 0) .nil)) [none]) ds ν=.ok (rs.map D.tup) ν:=by
  induction ds generalizing rs with
  | nil =>
   have:rs=[]:=GS.mp hl.symm
   subst this
   simp[mapR,hg]
  | cons d t ih =>
   cases rs with
   | nil=>simp at hl
   | cons r q =>
    have e2:=h 0 d r rfl rfl
    have e3:mi φ (.one 0) .nil (.blt .tuple .z (.cons (.var 0) .nil)) [none] d ν=.ok [.tup r] ν:=by
     simp! only[mi,bt_tuple e2]
    have:=ih (rs:=q) (by simpa using hl) λi d' r' h1 h2=>h (i+1) d' r' (by simpa using h1) (by simpa using h2)
    simp![mapR,hg,if_true,e3,Res.bj,this,AX]
    rfl
 rw[cw]
 show(mapR g _ ds ν).bind _=_
 rw[e]
 rfl
theorem R2.tupa (h:R2 μ0 ν a b la lb rl rd) {elt:Ex} (hy:elt=.blt .tuple .z (.cons (.var 0) .nil)):cw φ .z (.one 0) .nil elt [none] (la.map D.loc,some (a,.r (la.map D.loc))) ν=.ok (.lst (rl.map D.tup)) ν :=
 jw hy (show gd (some (a,_)) ν from h.oa) (by rw[AG,h.na]) λi d r h1 h2=>by
  rw[AU]at h1
  obtain⟨l,hl,rfl⟩:=DK.mp h1
  exact o7 (h.pa i l r hl h2)
theorem R2.tupb (h:R2 μ0 ν a b la lb rl rd) {elt:Ex} (hy:elt=.blt .tuple .z (.cons (.var 0) .nil)):cw φ .z (.one 0) .nil elt [none] (lb.map D.loc,some (b,.r (lb.map D.loc))) ν=.ok (.lst (rd.map D.tup)) ν :=
 jw hy (show gd (some (b,_)) ν from h.ob) (by rw[AG,h.nb]) λi d r h1 h2=>by
  rw[AU]at h1
  obtain⟨l,hl,rfl⟩:=DK.mp h1
  exact o7 (h.pb i l r hl h2)
theorem uq:∀(rs:List (List D)) (μ:Sto),(∀r∈rs,r.all (D.pureN 8)=true)->mapR none (mi φ (.one 0) .nil (.blt .list .l (.cons (.var 0) .nil)) [none]) (rs.map D.tup) μ=.ok ((List.range' μ.length rs.length).map D.loc) (μ++rs.map O.l)
 | [],μ,_=>by simp[mapR]
 | r::t,μ,h=>by
  have e0:mkL .l r μ=.ok (.loc μ.length) (μ++[.l r]):=Qe (h r AT)
  have e1:btD .list .l [.tup r] μ=.ok (.loc μ.length) (μ++[.l r]):=by rw[bt_list kn];exact e0
  have e2:mi φ (.one 0) .nil (.blt .list .l (.cons (.var 0) .nil)) [none] (.tup r) μ=.ok [.loc μ.length] (μ++[.l r]):=by
   simp! only[mi,e1]
  have ih:=uq t (μ++[.l r]) λx hx=>h x (AR _ hx)
  simp![AX,mapR,qk,if_true,e2,Res.bj,ih,BM,ET,BW,List.singleton_append,BJ,List.range'_succ,BU,Nat.zero_add]
theorem qc {elt:Ex} (hy:elt=.blt .list .l (.cons (.var 0) .nil)) (rs:List (List D)) (hp:∀r∈rs,r.all (D.pureN 8)=true) :
  cw φ .r (.one 0) .nil elt [none] (rs.map D.tup,none) μ=.ok (.loc (μ.length+rs.length)) (μ++rs.map O.l++[.r ((List.range' μ.length rs.length).map D.loc)]):=by
 subst hy
 rw[cw]
 show(mapR none _ (rs.map D.tup) μ).bind _=_
 rw[uq rs μ hp]
 simp![Res.bj,mkL,BM,AG]
theorem Dw {rl rd:List (List D)} (hr:fu μ):∃a b la lb,∀ν,ν=μ++rl.map O.l++[.r ((List.range' μ.length rl.length).map D.loc)]++rd.map O.l++[.r ((List.range' (μ++rl.map O.l++[O.r ((List.range' μ.length rl.length).map D.loc)]).length rd.length).map D.loc)] ->
  a=μ.length+rl.length/\b=(μ++rl.map O.l++[O.r ((List.range' μ.length rl.length).map D.loc)]).length+rd.length/\R2 μ ν a b la lb rl rd:=by
 refine⟨_,_,List.range' μ.length rl.length,List.range' (μ++rl.map O.l++[O.r ((List.range' μ.length rl.length).map D.loc)]).length rd.length,λν eν=>⟨rfl,rfl,?_⟩⟩
 have l1:(μ++rl.map O.l++[O.r ((List.range' μ.length rl.length).map D.loc)]).length=μ.length+rl.length+1:=by simp;omega
 rw[l1]at eν ⊢
 subst eν
 refine⟨?_,?_,by simp,by simp,λi l r e1 e2=>?_,λi l r e1 e2=>?_,?_,⟨rl.map O.l++([.r ((List.range' μ.length rl.length).map D.loc)]++(rd.map O.l++[.r ((List.range' (μ.length+rl.length+1) rd.length).map D.loc)])),by simp![BW]⟩,λl hl=>?_,?_⟩
 ·rw[BW (μ++rl.map O.l++_),AK (by simp<;>omega),show μ.length+rl.length=(μ++rl.map O.l).length by simp]
  exact o1
 ·rw[show μ.length+rl.length+1+rd.length=(μ++rl.map O.l++[O.r ((List.range' μ.length rl.length).map D.loc)]++rd.map O.l).length by simp<;>omega]
  exact o1
 ·have hi:=(AF.mp e2).1
  rw[List.getElem?_range' hi]at e1
  cases e1
  rw[BW (μ++rl.map O.l++_),BW (μ++rl.map O.l),AK (by simp<;>omega),BK (by omega)]
  simp[e2]
 ·have hi:=(AF.mp e2).1
  rw[List.getElem?_range' hi]at e1
  cases e1
  rw[AK (by simp<;>omega),BK (by simp<;>omega),l1]
  rw[show μ.length+rl.length+1+1*i-(μ.length+rl.length+1)=i by omega,AU,e2]
  rfl
 ·rw[DA]
  refine⟨List.nodup_range',List.nodup_range',λx hx y hy=>?_⟩
  rw[DW]at hx hy
  omega
 ·rcases CT.mp hl with z | z
  ·rw[DW]at z;omega
  ·rw[DW]at z;omega
 ·have many:∀(rs:List (List D)) {μ:Sto},fu μ->fu (μ++rs.map O.l):=by
   intro rs
   induction rs with
   | nil=>intro μ h;simpa using h
   | cons r t ih =>
    intro μ h
    have:=ih (mw (o:=.l r) h rfl)
    rw[BW]at this
    exact this
  have s1:=many rl hr
  have s2:fu (μ++rl.map O.l++[.r ((List.range' μ.length rl.length).map D.loc)]):=mw s1 (by
   simp![dj,CN,AO]
   intro x hx
   rw[DW]at hx
   simp[D.belowN];omega)
  have s3:=many rd s2
  exact mw s3 (by
   simp![dj,CN,AO]
   intro x hx
   rw[DW]at hx
   simp[D.belowN];omega)
end
open PySem
def iz (l:Lamp):List D:=[.int l.tank,.int l.oil,gn l.away]
def jd (d:Day):List D:=[.int d.boat,.int d.most,.int d.price,.int d.length,.int d.wanted]
theorem Bh (l:Lamp):(iz l).all (D.pureN 8)=true:=by
 simp![iz,AY,DL,DB,iw,DC]
 exact ko _
theorem Bi (d:Day):(jd d).all (D.pureN 8)=true:=rfl
theorem zd (ls:List Lamp):ls.map et=(ls.map iz).map D.tup:=by rw[BY];rfl
theorem Bj (ds:List Day):ds.map j4=(ds.map jd).map D.tup:=by rw[BY];rfl
theorem eu (ls:List Lamp):(ls.map iz).map D.tup=(ls.map (Lc.g false)).map enL:=by rw[BY,BY];rfl
theorem g8 (ds:List Day):(ds.map jd).map D.tup=(ds.map Dc.g).map enD:=by rw[BY,BY];rfl
theorem gs (ls:List Lamp) (ds:List Day):lq (ls.map (Lc.g false)) (ds.map Dc.g):=by
 constructor
 ·intro c hc x e
  obtain⟨l,_,rfl⟩:=BX.mp hc
  cases e
 ·intro c hc x e
  obtain⟨l,_,rfl⟩:=BX.mp hc
  cases e
theorem wc {b:Bool} (l:Lamp):D.pureN 6 (mj b l)=true:=by
 cases b
 ·simp![mj,sq,D.pureN,AY,DL,CN,DB,DC,AO]
  exact λ_ _=>rfl
 ·simp![mj,sq,D.pureN,AY,DL,CN,DB,DC,AO]
  exact λ_ _=>rfl
def Pu (ls:List Lc) (ds:List Dc):Prop:=(∀c∈ls,D.pureN 6 (enL c)=true)/\∀c∈ds,D.pureN 6 (enD c)=true
theorem Bk (ls:List Lamp) (ds:List Day):Pu (ls.map (Lc.g false)) (ds.map Dc.g):=by
 constructor
 ·intro c hc
  obtain⟨l,_,rfl⟩:=BX.mp hc
  exact wc l
 ·intro c hc
  obtain⟨l,_,rfl⟩:=BX.mp hc
  rfl
theorem Pu.pure {st oil:Int} {ls:List Lc} {ds:List Dc} (h:Pu ls ds):(D.tup [.int st,.int oil,.lst (ls.map enL),.lst (ds.map enD)]).pure=true:=by
 simp![D.pure,D.pureN,AY,DL,CN,DB,DC,AW,AO]
 exact⟨h.1,h.2⟩
theorem mem_set {α:Type} {xs:List α} {k:Nat} {x:α} (h:k<xs.length):x∈xs.set k x:=List.mem_iff_getElem?.mpr ⟨k,by rw[AZ h]⟩
section
variable {n : Nat} {μ : Sto} {φ : Phi}
theorem Bm (hr:fu μ) (b:Book) {e1 e2:Ex} (h1:e1=.blt .list .l (.cons (.var 0) .nil)) (h2:e2=.blt .list .l (.cons (.var 0) .nil)) :
  ∃μ1 ν a c la lb,cw φ .r (.one 0) .nil e1 [none] (b.lamps.map et,none) μ=.ok (.loc a) μ1/\cw φ .r (.one 0) .nil e2 [none] (b.days.map j4,none) μ1=.ok (.loc c) ν/\R2 μ ν a c la lb (b.lamps.map iz) (b.days.map jd):=by
 obtain⟨a,c,la,lb,h⟩:=Dw (rl:=b.lamps.map iz) (rd:=b.days.map jd) hr
 obtain⟨ea,ec,R⟩:=h _ rfl
 refine⟨μ++(b.lamps.map iz).map O.l++[.r ((List.range' μ.length (b.lamps.map iz).length).map D.loc)],_,a,c,la,lb,?_,?_,R⟩
 ·rw[zd,qc h1 _ (λr hr=>by obtain⟨l,_,rfl⟩:=BX.mp hr;exact Bh l),ea]
 ·rw[Bj,qc h2 _ (λr hr=>by obtain⟨l,_,rfl⟩:=BX.mp hr;exact Bi l),ec]
theorem o8 {t lo hi:Int} (h:0<=t):∃v:Int,(v<lo\/hi<v)/\ai GL (n+1) du [.int t,.int lo,.int hi] μ=.ok (.int v) μ:=by
 rw[au ud,run_eq rfl]
 have p6:opI .Pow 10 6 μ=.ok (.int (10 ^ 6)) μ:=op_pow (by decide)
 have p20:opI .Pow 10 20 μ=.ok (.int (10 ^ 20)) μ:=op_pow (by decide)
 have d4:opI .FloorDiv t 4 μ=.ok (.int (t / 4)) μ:=jh (by decide) (by decide)
 have m6:opI .Mod (t / 4) (10 ^ 6) μ=.ok (.int (t / 4 % 10 ^ 6)) μ:=op_mod (by decide)
 have m4:opI .Mod t 4 μ=.ok (.int (t % 4)) μ:=op_mod (by decide)
 have f0:0<=t / 4 % 10 ^ 6:=BV _ (by decide)
 have f1:t / 4 % 10 ^ 6<10 ^ 6:=BS _ (by decide)
 generalize t / 4 % 10 ^ 6=f at m6 f0 f1
 have cm:CMul (1+f) (10 ^ 20):=.left (by omega) (by omega)
 have four:t % 4=0\/t % 4=1\/t % 4=2\/t % 4=3:=by omega
 have ix:∀(x0 x1 x2 x3 v:Int),(t % 4=0->v=x0)->(t % 4=1->v=x1)->(t % 4=2->v=x2)->(t % 4=3->v=x3)->ixD (.lst [.int x0,.int x1,.int x2,.int x3]) (.int (t % 4)) μ=.ok (.int v) μ:=by
  intro x0 x1 x2 x3 v h0 h1 h2 h3
  rcases four with q | q | q | q
  ·rw[q,h0 q];rfl
  ·rw[q,h1 q];rfl
  ·rw[q,h2 q];rfl
  ·rw[q,h3 q];rfl
 have key:∀v:Int,(t % 4=0->v=lo-1)->(t % 4=1->v=hi+1)->(t % 4=2->v=lo-(1+f))->(t % 4=3->v=hi+(1+f)*10 ^ 20)->(gu (ai GL n) D_law_beyond.body ([D.int t,.int lo,.int hi].map some++List.replicate (D_law_beyond.nn-D_law_beyond.np) none) μ).bind finD=.ok (.int v) μ:=by
  intro v h0 h1 h2 h3
  simp! only[D_law_beyond,p6,d4,m6,p20,op_mul cm,m4,ja,ix _ _ _ _ v h0 h1 h2 h3]
 rcases four with q | q | q | q
 ·exact⟨lo-1,.inl (by omega),key _ (λ_=>rfl) (λz=>by omega) (λz=>by omega) (λz=>by omega)⟩
 ·exact⟨hi+1,.inr (by omega),key _ (λz=>by omega) (λ_=>rfl) (λz=>by omega) (λz=>by omega)⟩
 ·exact⟨lo-(1+f),.inl (by omega),key _ (λz=>by omega) (λz=>by omega) (λ_=>rfl) (λz=>by omega)⟩
 ·exact⟨hi+(1+f)*10 ^ 20,.inr (by have:0<(1+f)*10 ^ 20:=Int.mul_pos (by omega) (by decide);omega),key _ (λz=>by omega) (λz=>by omega) (λz=>by omega) (λ_=>rfl)⟩
theorem Bn (hr:fu μ) {b:Book} (hb:Wf b) {t:Int} (ht:0<=t):∃st oil ls ds ρ,lq ls ds/\Pu ls ds/\¬Whole st oil ls ds/\ai GL (n+2) dm [dg b,.int t] μ=.ok (.tup [.int st,.int oil,.lst (ls.map enL),.lst (ds.map enD)]) (μ++ρ):=by
 rw[au mh,run_eq rfl]
 obtain⟨μ1,ν,a,c,la,lb,c1,c2,R⟩:=Bm (φ:=ai GL (n+1)) hr b (e1:=gi) (e2:=gj) rfl rfl
 have hl:=hb.lamps
 have hd:=hb.days
 have k1:∀μ,kSeq (.tup (b.lamps.map et)) μ=.ok (b.lamps.map et,none) μ:=λμ=>rfl
 have k2:∀μ,kSeq (.tup (b.days.map j4)) μ=.ok (b.days.map j4,none) μ:=λμ=>rfl
 have mk:mkL .l [.int b.store,.int b.oil] ν=.ok (.loc ν.length) (ν++[.l [.int b.store,.int b.oil]]):=Qe rfl
 have R3:=R.push [.int b.store,.int b.oil]
 have B3:(ν++[O.l [.int b.store,.int b.oil]])[ν.length]? = some (.l [.int b.store,.int b.oil]):=o1
 have m8:∀μ,opI .Mod t 8 μ=.ok (.int (t % 8)) μ:=λμ=>op_mod (by decide)
 have d8:∀μ,opI .FloorDiv t 8 μ=.ok (.int (t / 8)) μ:=λμ=>jh (by decide) (by decide)
 have r0:0<=t / 8:=by omega
 have w0:0<=t % 8:=BV _ (by decide)
 have w8:t % 8<8:=BS _ (by decide)
 generalize t % 8=w at m8 w0 w8
 generalize t / 8=r at d8 r0
 have dB:∀μ,opI .FloorDiv r 4000003 μ=.ok (.int (r / 4000003)) μ:=λμ=>jh (by decide) (by decide)
 -- the last row: all told
 have fin:∀(ξ:Sto) (rl rd:List (List D)) (s o:Int),R2 μ ξ a c la lb rl rd->ξ[ν.length]? = some (.l [.int s,.int o])->ixD (.loc ν.length) (.int 0) ξ=.ok (.int s) ξ/\ixD (.loc ν.length) (.int 1) ξ=.ok (.int o) ξ/\kSeq (.loc a) ξ=.ok (la.map D.loc,some (a,.r (la.map D.loc))) ξ/\kSeq (.loc c) ξ=.ok (lb.map D.loc,some (c,.r (lb.map D.loc))) ξ /\
   cw (ai GL (n+1)) .z (.one 0) .nil gk [none] (la.map D.loc,some (a,.r (la.map D.loc))) ξ=.ok (.lst (rl.map D.tup)) ξ/\cw (ai GL (n+1)) .z (.one 0) .nil gm [none] (lb.map D.loc,some (c,.r (lb.map D.loc))) ξ=.ok (.lst (rd.map D.tup)) ξ :=
  λξ rl rd s o Rx Bx=>⟨qb Bx rfl,qb Bx rfl,Rx.seqa,Rx.seqb,Rx.tupa rfl,Rx.tupb rfl⟩
 -- how a row of the lamps and a row of the days is found
 have rowl:∀z:Int,0<=z->∃(k l:Nat) (lp:Lamp),k<b.lamps.length/\b.lamps[k]? = some lp/\la[k]? = some l/\z % ((b.lamps.map iz).length:Int)=(k:Int):=by
  intro z hz
  have h0:0<=z % (b.lamps.length:Int):=BV _ (by omega)
  have h1:z % (b.lamps.length:Int)<b.lamps.length:=BS _ (by omega)
  obtain⟨k,hk⟩:=DI h0
  have hk2:k<b.lamps.length:=by omega
  have hk3:k<la.length:=by rw[R.na,AG];exact hk2
  exact⟨k,la[k],b.lamps[k],hk2,AB hk2,AB hk3,by rw[AG];exact hk⟩
 have rowd:∀z:Int,0<=z->∃(k l:Nat) (dy:Day),k<b.days.length/\b.days[k]? = some dy/\lb[k]? = some l/\z % ((b.days.map jd).length:Int)=(k:Int):=by
  intro z hz
  have h0:0<=z % (b.days.length:Int):=BV _ (by omega)
  have h1:z % (b.days.length:Int)<b.days.length:=BS _ (by omega)
  obtain⟨k,hk⟩:=DI h0
  have hk2:k<b.days.length:=by omega
  have hk3:k<lb.length:=by rw[R.nb,AG];exact hk2
  exact⟨k,lb[k],b.days[k],hk2,AB hk2,AB hk3,by rw[AG];exact hk⟩
 have mL:∀μ,opI .Mod (r / 4000003) ((b.lamps.map iz).length:Int) μ=.ok (.int (r / 4000003 % ((b.lamps.map iz).length:Int))) μ:=λμ=>op_mod (by rw[AG];omega)
 have mD:∀μ,opI .Mod (r / 4000003) ((b.days.map jd).length:Int) μ=.ok (.int (r / 4000003 % ((b.days.map jd).length:Int))) μ:=λμ=>op_mod (by rw[AG];omega)
 have z0:0<=r / 4000003:=by omega
 have sh3:=R3.sh
 have p30:∀μ,opI .Pow 10 30 μ=.ok (.int (10 ^ 30)) μ:=λμ=>op_pow (by decide)
 have g0:ixD (dg b) (.int 0) ν=.ok (.int b.store) ν:=rfl
 have g1:ixD (dg b) (.int 1) ν=.ok (.int b.oil) ν:=rfl
 have g2:ixD (dg b) (.int 2) μ=.ok (.tup (b.lamps.map et)) μ:=rfl
 have g3:ixD (dg b) (.int 3) μ1=.ok (.tup (b.days.map j4)) μ1:=rfl
 by_cases w2:w<2
 ·obtain⟨v,hv,ev⟩:=o8 (n:=n) (μ:=ν++[.l [.int b.store,.int b.oil]]) (t:=r) (lo:=0) (hi:=10 ^ 30) r0
  have kb:=bu ev rfl rfl sh3
  rcases(show w=0\/w=1 by omega)with rfl | rfl
  ·have st:rn (.loc ν.length) (.int 0) (.int v) (ν++[O.l [.int b.store,.int b.oil]])=.ok () (ν++[O.l [.int v,.int b.oil]]):=by
    have q:=jk (k:=0) (d:=.int v) B3 (by simp) rfl
    rw[x8]at q;exact q
   have R4:=R.push [.int v,.int b.oil]
   obtain⟨ρ,eρ⟩:=R4.pre
   refine⟨v,b.oil,b.lamps.map (Lc.g false),b.days.map Dc.g,ρ,gs _ _,Bk _ _,λW=>?_,?_⟩
   ·have:=W.st;omega
   rw[<-eu,<-g8,<-eρ]
   obtain⟨f1,f2,f3,f4,f5,f6⟩:=fin _ _ _ v b.oil R4 o1
   simp! only[D_law_number_off,g0,g1,g2,g3,k1,k2,c1,c2,mk,m8,d8,w2,p30,kb,st,f1,f2,f3,f4,f5,f6]
  ·have st:rn (.loc ν.length) (.int 1) (.int v) (ν++[O.l [.int b.store,.int b.oil]])=.ok () (ν++[O.l [.int b.store,.int v]]):=by
    have q:=jk (k:=1) (d:=.int v) B3 (by simp) rfl
    rw[x8]at q;exact q
   have R4:=R.push [.int b.store,.int v]
   obtain⟨ρ,eρ⟩:=R4.pre
   refine⟨b.store,v,b.lamps.map (Lc.g false),b.days.map Dc.g,ρ,gs _ _,Bk _ _,λW=>?_,?_⟩
   ·have:=W.oil;omega
   rw[<-eu,<-g8,<-eρ]
   obtain⟨f1,f2,f3,f4,f5,f6⟩:=fin _ _ _ b.store v R4 o1
   simp! only[D_law_number_off,g0,g1,g2,g3,k1,k2,c1,c2,mk,m8,d8,w2,p30,kb,st,f1,f2,f3,f4,f5,f6]
 by_cases w3:w=2
 ·obtain⟨k,l,lp,hk,elp,el,ek⟩:=rowl _ z0
  have er:(b.lamps.map iz)[k]? = some (iz lp):=by rw[AU,elp];rfl
  have Bl:=R3.pa k l _ el er
  have ne:ν.length≠l:=λz=>by rw[<-z,B3]at Bl;exact absurd Bl (by simp[iz])
  obtain⟨v,hv,ev⟩:=o8 (n:=n) (μ:=ν++[.l [.int b.store,.int b.oil]]) (t:=r) (lo:=0) (hi:=10 ^ 30) r0
  have kb:=bu ev rfl rfl sh3
  have s1:rn (.loc l) (.int 0) (.int v) (ν++[O.l [.int b.store,.int b.oil]])=.ok () ((ν++[O.l [.int b.store,.int b.oil]]).set l (.l [.int v,.int lp.oil,gn lp.away])):=jk (k:=0) (d:=.int v) Bl (by simp[iz]) rfl
  have R4:=R3.puta (r':=[.int v,.int lp.oil,gn lp.away]) el er
  have B4:((ν++[O.l [.int b.store,.int b.oil]]).set l (.l [.int v,.int lp.oil,gn lp.away]))[l]? = some (.l [.int v,.int lp.oil,gn lp.away]):=by rw[eg Bl,if_pos rfl]
  have C4:((ν++[O.l [.int b.store,.int b.oil]]).set l (.l [.int v,.int lp.oil,gn lp.away]))[ν.length]? = some (.l [.int b.store,.int b.oil]):=by rw[eg Bl,if_neg ne];exact B3
  generalize (ν++[O.l [.int b.store,.int b.oil]]).set l (.l [.int v,.int lp.oil,gn lp.away])=ξ1 at *
  have j1:ixD (.loc l) (.int 1) ξ1=.ok (.int lp.oil) ξ1:=qb B4 rfl
  have j0:ixD (.loc l) (.int 0) ξ1=.ok (.int v) ξ1:=qb B4 rfl
  have s2:rn (.loc l) (.int 1) (.int (min lp.oil (max 0 v))) ξ1=.ok () (ξ1.set l (.l (iz ⟨v,min lp.oil (max 0 v),lp.away⟩))):=jk (k:=1) (d:=.int (min lp.oil (max 0 v))) B4 (by simp) rfl
  have R5:=R4.puta (r':=iz ⟨v,min lp.oil (max 0 v),lp.away⟩) el (by rw[AZ (by simpa using hk)])
  rw[List.set_set]at R5
  have C5:(ξ1.set l (.l (iz ⟨v,min lp.oil (max 0 v),lp.away⟩)))[ν.length]? = some (.l [.int b.store,.int b.oil]):=by rw[eg B4,if_neg ne];exact C4
  obtain⟨ρ,eρ⟩:=R5.pre
  refine⟨b.store,b.oil,(b.lamps.set k ⟨v,min lp.oil (max 0 v),lp.away⟩).map (Lc.g false),b.days.map Dc.g,ρ,gs _ _,Bk _ _,λW=>?_,?_⟩
  ·have:=(W.l _ (BX.mpr ⟨_,mem_set hk,rfl⟩)).1
   simp only at this;omega
  rw[<-eu,<-g8,<-eρ,EA]
  obtain⟨f1,f2,f3,f4,f5,f6⟩:=fin _ _ _ b.store b.oil R5 C5
  simp! only[D_law_number_off,g0,g1,g2,g3,k1,k2,c1,c2,mk,m8,d8,w2,eq_true w3,p30,dB,R3.lena,mL,ek,R3.ixa el,kb,s1,j1,j0,bt_max,bt_min,s2,f1,f2,f3,f4,f5,f6]
 by_cases w4:w=3
 ·obtain⟨k,l,lp,hk,elp,el,ek⟩:=rowl _ z0
  have er:(b.lamps.map iz)[k]? = some (iz lp):=by rw[AU,elp];rfl
  have Bl:=R3.pa k l _ el er
  have ne:ν.length≠l:=λz=>by rw[<-z,B3]at Bl;exact absurd Bl (by simp[iz])
  have tk:0<=lp.tank:=(hb.lamp lp (AV elp)).1.1
  have m4:∀μ,opI .Mod r 4 μ=.ok (.int (r % 4)) μ:=λμ=>op_mod (by decide)
  have d4:∀μ,opI .FloorDiv r 4 μ=.ok (.int (r / 4)) μ:=λμ=>jh (by decide) (by decide)
  have p9:∀μ,opI .Pow 10 9 μ=.ok (.int (10 ^ 9)) μ:=λμ=>op_pow (by decide)
  have m9:∀μ,opI .Mod r (10 ^ 9) μ=.ok (.int (r % 10 ^ 9)) μ:=λμ=>op_mod (by decide)
  have n9:0<=r % 10 ^ 9:=BV _ (by decide)
  have j0:ixD (.loc l) (.int 0) (ν++[O.l [.int b.store,.int b.oil]])=.ok (.int lp.tank) _:=qb Bl rfl
  have ix:∃v:Int,(v<0\/lp.tank<v)/\∀μ,ixD (.lst [.int (-1),.int (lp.tank+1),.int (-1-r % 10 ^ 9),.int (lp.tank+r / 4+1)]) (.int (r % 4)) μ=.ok (.int v) μ:=by
   rcases(show r % 4=0\/r % 4=1\/r % 4=2\/r % 4=3 by omega)with q | q | q | q
   ·exact⟨-1,.inl (by omega),λμ=>by rw[q];rfl⟩
   ·exact⟨lp.tank+1,.inr (by omega),λμ=>by rw[q];rfl⟩
   ·exact⟨-1-r % 10 ^ 9,.inl (by omega),λμ=>by rw[q];rfl⟩
   ·exact⟨lp.tank+r / 4+1,.inr (by omega),λμ=>by rw[q];rfl⟩
  obtain⟨v,hv,ix⟩:=ix
  have s1:rn (.loc l) (.int 1) (.int v) (ν++[O.l [.int b.store,.int b.oil]])=.ok () ((ν++[O.l [.int b.store,.int b.oil]]).set l (.l (iz ⟨lp.tank,v,lp.away⟩))):=jk (k:=1) (d:=.int v) Bl (by simp[iz]) rfl
  have R4:=R3.puta (r':=iz ⟨lp.tank,v,lp.away⟩) el er
  have C4:((ν++[O.l [.int b.store,.int b.oil]]).set l (.l (iz ⟨lp.tank,v,lp.away⟩)))[ν.length]? = some (.l [.int b.store,.int b.oil]):=by rw[eg Bl,if_neg ne];exact B3
  obtain⟨ρ,eρ⟩:=R4.pre
  refine⟨b.store,b.oil,(b.lamps.set k ⟨lp.tank,v,lp.away⟩).map (Lc.g false),b.days.map Dc.g,ρ,gs _ _,Bk _ _,λW=>?_,?_⟩
  ·have:=(W.l _ (BX.mpr ⟨_,mem_set hk,rfl⟩)).2.1
   simp only at this;omega
  rw[<-eu,<-g8,<-eρ,EA]
  obtain⟨f1,f2,f3,f4,f5,f6⟩:=fin _ _ _ b.store b.oil R4 C4
  simp! only[D_law_number_off,g0,g1,g2,g3,k1,k2,c1,c2,mk,m8,d8,w2,eq_false w3,eq_true w4,dB,R3.lena,mL,ek,R3.ixa el,j0,p9,m9,d4,m4,ja,ix,s1,f1,f2,f3,f4,f5,f6]
 obtain⟨k,l,dy,hk,edy,el,ek⟩:=rowd _ z0
 have er:(b.days.map jd)[k]? = some (jd dy):=by rw[AU,edy];rfl
 have Bl:=R3.pb k l _ el er
 have ne:ν.length≠l:=λz=>by rw[<-z,B3]at Bl;exact absurd Bl (by simp[jd])
 have d3:∀μ,opI .FloorDiv r 3 μ=.ok (.int (r / 3)) μ:=λμ=>jh (by decide) (by decide)
 have m5:∀μ,opI .Mod (r / 3) 5 μ=.ok (.int (r / 3 % 5)) μ:=λμ=>op_mod (by decide)
 have p15:∀μ,opI .Pow 10 15 μ=.ok (.int (10 ^ 15)) μ:=λμ=>op_pow (by decide)
 have i5:0<=r / 3 % 5/\r / 3 % 5<5:=by omega
 generalize r / 3 % 5=j at m5 i5
 have all:∀(q:Nat) (lo hi:Int),j=q->q<5->(∀μ,btD .int .z [.bl (decide (j=3))] μ=.ok (.int lo) μ)->(∀μ,ixD (.lst [.int (10 ^ 30),.int (10 ^ 30),.int (10 ^ 15),.int (10 ^ 15),.int b.lamps.length]) (.int j) μ=.ok (.int hi) μ) ->
   (∀v:Int,(v<lo\/hi<v)->∃dy',jd dy'=(jd dy).set q (.int v)/\¬Bc dy' b.lamps.length) ->
   ∃st oil ls ds ρ,lq ls ds/\Pu ls ds/\¬Whole st oil ls ds/\(gu (ai GL (n+1)) D_law_number_off.body ([dg b,D.int t].map some++List.replicate (D_law_number_off.nn-D_law_number_off.np) none) μ).bind finD=.ok (.tup [.int st,.int oil,.lst (ls.map enL),.lst (ds.map enD)]) (μ++ρ):=by
  intro q lo hi hj hq bi bx hv
  obtain⟨v,hv1,ev⟩:=o8 (n:=n) (μ:=ν++[.l [.int b.store,.int b.oil]]) (t:=r) (lo:=lo) (hi:=hi) r0
  have kb:=bu ev rfl rfl sh3
  obtain⟨dy',e1,e2⟩:=hv v hv1
  have s1:rn (.loc l) (.int j) (.int v) (ν++[O.l [.int b.store,.int b.oil]])=.ok () ((ν++[O.l [.int b.store,.int b.oil]]).set l (.l (jd dy'))):=by
   rw[e1,hj];exact jk (k:=q) (d:=.int v) Bl (by simpa[jd]using hq) rfl
  have R4:=R3.putb (r':=jd dy') el er
  have C4:((ν++[O.l [.int b.store,.int b.oil]]).set l (.l (jd dy')))[ν.length]? = some (.l [.int b.store,.int b.oil]):=by rw[eg Bl,if_neg ne];exact B3
  obtain⟨ρ,eρ⟩:=R4.pre
  refine⟨b.store,b.oil,b.lamps.map (Lc.g false),(b.days.set k dy').map Dc.g,ρ,gs _ _,Bk _ _,λW=>?_,?_⟩
  ·have:=W.d _ (BX.mpr ⟨_,mem_set hk,rfl⟩)
   rw[AG]at this
   exact e2 this
  rw[<-eu,<-g8,<-eρ,EA]
  obtain⟨f1,f2,f3,f4,f5,f6⟩:=fin _ _ _ b.store b.oil R4 C4
  have l1:=R3.lena
  have l2:=R3.lenb
  rw[AG]at l1
  simp! only[D_law_number_off,g0,g1,g2,g3,k1,k2,c1,c2,mk,m8,d8,w2,eq_false w3,eq_false w4,dB,l1,l2,mD,ek,R3.ixb el,d3,m5,p30,p15,ja,bx,bi,kb,s1,f1,f2,f3,f4,f5,f6]
 rcases(show j=0\/j=1\/j=2\/j=3\/j=4 by omega)with q | q | q | q | q
 ·exact all 0 0 (10 ^ 30) q (by decide) (λμ=>by rw[q];rfl) (λμ=>by rw[q];rfl) λv hv=>⟨⟨v,dy.most,dy.price,dy.length,dy.wanted⟩,rfl,λh=>by have:=h.1;simp only at this;omega⟩
 ·exact all 1 0 (10 ^ 30) q (by decide) (λμ=>by rw[q];rfl) (λμ=>by rw[q];rfl) λv hv=>⟨⟨dy.boat,v,dy.price,dy.length,dy.wanted⟩,rfl,λh=>by have:=h.2.1;simp only at this;omega⟩
 ·exact all 2 0 (10 ^ 15) q (by decide) (λμ=>by rw[q];rfl) (λμ=>by rw[q];rfl) λv hv=>⟨⟨dy.boat,dy.most,v,dy.length,dy.wanted⟩,rfl,λh=>by have:=h.2.2.1;simp only at this;omega⟩
 ·exact all 3 1 (10 ^ 15) q (by decide) (λμ=>by rw[q];rfl) (λμ=>by rw[q];rfl) λv hv=>⟨⟨dy.boat,dy.most,dy.price,v,dy.wanted⟩,rfl,λh=>by have:=h.2.2.2.1;simp only at this;omega⟩
 ·exact all 4 0 b.lamps.length q (by decide) (λμ=>by rw[q];rfl) (λμ=>by rw[q];rfl) λv hv=>⟨⟨dy.boat,dy.most,dy.price,dy.length,v⟩,rfl,λh=>by have:=h.2.2.2.2;simp only at this;omega⟩
end
open PySem
theorem ze {ls:List Lc} {ds:List Dc} {k:Nat} {c:Lc} (h:lq ls ds) (hc:∀x,c=.x x->x.length≠3):lq (ls.set k c) ds:=by
 refine⟨λe he x q=>?_,h.d⟩
 rcases CK he with z | z
 ·exact h.l e z x q
 ·exact hc x (z ▸ q)
theorem zf {ls:List Lc} {ds:List Dc} {k:Nat} {c:Dc} (h:lq ls ds) (hc:∀x,c=.x x->x.length≠5):lq ls (ds.set k c):=by
 refine⟨h.l,λe he x q=>?_⟩
 rcases CK he with z | z
 ·exact h.d e z x q
 ·exact hc x (z ▸ q)
theorem Hb {ls:List Lc} {ds:List Dc} {k:Nat} {c:Lc} (h:Pu ls ds) (hc:D.pureN 6 (enL c)=true):Pu (ls.set k c) ds:=by
 refine⟨λe he=>?_,h.2⟩
 rcases CK he with z | z
 ·exact h.1 e z
 ·exact z ▸ hc
theorem Hc {ls:List Lc} {ds:List Dc} {k:Nat} {c:Dc} (h:Pu ls ds) (hc:D.pureN 6 (enD c)=true):Pu ls (ds.set k c):=by
 refine⟨h.1,λe he=>?_⟩
 rcases CK he with z | z
 ·exact h.2 e z
 ·exact z ▸ hc
theorem Dx (xs:List Int) (z:Int) (h:0<=z):¬(xs++[z,0]).Pairwise (· < ·):=λp=>by
 have:=(List.pairwise_append.mp p).2.1
 simp at this;omega
theorem zg (l:Lamp):(iz l).all (D.pureN 5)=true:=by
 simp![iz,AY,DL,DB,iw,DC]
 exact ko _
theorem zh (ns:List Int):(D.lst (ns.map D.int)).pure=true:=by
 simp![D.pure,D.pureN,CN,AO]
 exact λ_ _=>rfl
section
variable {n : Nat} {μ : Sto} {φ : Phi}
theorem yb {xs:List D} {k:Nat}:slD .z (.lst xs) none (some (k:Int)) μ=.ok (.lst (xs.take k)) μ:=by
 show mkL .z (cut xs none (some (k:Int))) μ=_
 rw[xu];rfl
theorem Em {xs ys:List D} (h:xs.length+ys.length<=1000000):opD .Add .z (.lst xs) (.lst ys) μ=.ok (.lst (xs++ys)) μ:=by
 have:=j5
 simp![opD,Lp.listOf]
 rw[if_pos (by omega),ja]
theorem En {xs:List D} {k:Nat} (h:xs.length*k<=1000000) (hk:k<=1000):opD .Mult .z (.lst xs) (.int k) μ=.ok (.lst (List.replicate k xs).flatten) μ:=by
 have:=j5
 simp![opD,Lp.listOf]
 rw[if_pos ⟨by simp![CS];omega,by omega,by omega⟩,ja];simp![CS]
theorem wd (hr:fu μ) {b:Book} (hb:Wf b) {t:Int} (ht:0<=t):∃st oil ls ds ρ,lq ls ds/\Pu ls ds/\¬Whole st oil ls ds/\ai GL (n+1) d6 [dg b,.int t] μ=.ok (.tup [.int st,.int oil,.lst (ls.map enL),.lst (ds.map enD)]) (μ++ρ):=by
 rw[au ow,run_eq rfl]
 obtain⟨μ1,ν,a,c,la,lb,c1,c2,R⟩:=Bm (φ:=ai GL n) hr b (e1:=gx) (e2:=gy) rfl rfl
 have hl:=hb.lamps
 have hd:=hb.days
 have k1:∀μ,kSeq (.tup (b.lamps.map et)) μ=.ok (b.lamps.map et,none) μ:=λμ=>rfl
 have k2:∀μ,kSeq (.tup (b.days.map j4)) μ=.ok (b.days.map j4,none) μ:=λμ=>rfl
 have m8:∀μ,opI .Mod t 8 μ=.ok (.int (t % 8)) μ:=λμ=>op_mod (by decide)
 have d8:∀μ,opI .FloorDiv t 8 μ=.ok (.int (t / 8)) μ:=λμ=>jh (by decide) (by decide)
 have r0:0<=t / 8:=by omega
 have w0:0<=t % 8:=BV _ (by decide)
 have w8:t % 8<8:=BS _ (by decide)
 generalize t % 8=w at m8 w0 w8
 generalize t / 8=r at d8 r0
 have dr:∀μ,opI .FloorDiv r 8 μ=.ok (.int (r / 8)) μ:=λμ=>jh (by decide) (by decide)
 have q0:0<=r / 8:=by omega
 have rowl:∃(k l:Nat) (lp:Lamp),k<b.lamps.length/\b.lamps[k]? = some lp/\la[k]? = some l/\∀μ,opI .Mod r (b.lamps.length:Int) μ=.ok (.int (k:Int)) μ:=by
  have h0:0<=r % (b.lamps.length:Int):=BV _ (by omega)
  have h1:r % (b.lamps.length:Int)<b.lamps.length:=BS _ (by omega)
  obtain⟨k,hk⟩:=DI h0
  have hk2:k<b.lamps.length:=by omega
  have hk3:k<la.length:=by rw[R.na,AG];exact hk2
  exact⟨k,la[k],b.lamps[k],hk2,AB hk2,AB hk3,λμ=>by rw[op_mod (by omega),hk]⟩
 have rowd:∃(k l:Nat) (dy:Day),k<b.days.length/\b.days[k]? = some dy/\lb[k]? = some l/\∀μ,opI .Mod r (b.days.length:Int) μ=.ok (.int (k:Int)) μ:=by
  have h0:0<=r % (b.days.length:Int):=BV _ (by omega)
  have h1:r % (b.days.length:Int)<b.days.length:=BS _ (by omega)
  obtain⟨k,hk⟩:=DI h0
  have hk2:k<b.days.length:=by omega
  have hk3:k<lb.length:=by rw[R.nb,AG];exact hk2
  exact⟨k,lb[k],b.days[k],hk2,AB hk2,AB hk3,λμ=>by rw[op_mod (by omega),hk]⟩
 have g0:∀ξ,ixD (dg b) (.int 0) ξ=.ok (.int b.store) ξ:=λ_=>rfl
 have g1:∀ξ,ixD (dg b) (.int 1) ξ=.ok (.int b.oil) ξ:=λ_=>rfl
 have g2:∀ξ,ixD (dg b) (.int 2) ξ=.ok (.tup (b.lamps.map et)) ξ:=λ_=>rfl
 have g3:∀ξ,ixD (dg b) (.int 3) ξ=.ok (.tup (b.days.map j4)) ξ:=λ_=>rfl
 obtain⟨k,l,lp,hk,elp,el,ek⟩:=rowl
 obtain⟨kd,ld,dy,hkd,edy,eld,ekd⟩:=rowd
 have er:(b.lamps.map iz)[k]? = some (iz lp):=by rw[AU,elp];rfl
 have erd:(b.days.map jd)[kd]? = some (jd dy):=by rw[AU,edy];rfl
 have Bl:=R.pa k l _ el er
 have Bd:=R.pb kd ld _ eld erd
 have hlp:=hb.lamp lp (AV elp)
 have l1:=R.lena
 have l2:=R.lenb
 rw[AG]at l1 l2
 have xl:=R.ixa el
 have xd:=R.ixb eld
 have fin:∀(ξ:Sto) (rl rd:List (List D)),R2 μ ξ a c la lb rl rd->kSeq (.loc a) ξ=.ok (la.map D.loc,some (a,.r (la.map D.loc))) ξ/\kSeq (.loc c) ξ=.ok (lb.map D.loc,some (c,.r (lb.map D.loc))) ξ /\
   cw (ai GL n) .z (.one 0) .nil bf [none] (la.map D.loc,some (a,.r (la.map D.loc))) ξ=.ok (.lst (rl.map D.tup)) ξ/\cw (ai GL n) .z (.one 0) .nil bh [none] (lb.map D.loc,some (c,.r (lb.map D.loc))) ξ=.ok (.lst (rd.map D.tup)) ξ :=
  λξ rl rd Rx=>⟨Rx.seqa,Rx.seqb,Rx.tupa rfl,Rx.tupb rfl⟩
 have noL:∀c',¬okL b.days.length c'->¬Whole b.store b.oil ((b.lamps.map (Lc.g false)).set k c') (b.days.map Dc.g):=λc' h W=>h (by
  have:=W.l c' (mem_set (by rw[AG];exact hk))
  rwa [AG]at this)
 have noD:∀c',¬okD b.lamps.length c'->¬Whole b.store b.oil (b.lamps.map (Lc.g false)) ((b.days.map Dc.g).set kd c'):=λc' h W=>h (by
  have:=W.d c' (mem_set (by rw[AG];exact hkd))
  rwa [AG]at this)
 -- a lamp's row put otherwise
 have lampC:∀(r':List D) (c':Lc),enL c'=.tup r'->(∀x,c'=.x x->x.length≠3)->D.pureN 6 (enL c')=true->¬okL b.days.length c' ->
   (∀(x3:kSeq (.loc a) (ν.set l (.l r'))=.ok (la.map D.loc,some (a,.r (la.map D.loc))) (ν.set l (.l r'))) (x4:kSeq (.loc c) (ν.set l (.l r'))=.ok (lb.map D.loc,some (c,.r (lb.map D.loc))) (ν.set l (.l r')))
    (x5:cw (ai GL n) .z (.one 0) .nil bf [none] (la.map D.loc,some (a,.r (la.map D.loc))) (ν.set l (.l r'))=.ok (.lst (((b.lamps.map (Lc.g false)).set k c').map enL)) (ν.set l (.l r')))
    (x6:cw (ai GL n) .z (.one 0) .nil bh [none] (lb.map D.loc,some (c,.r (lb.map D.loc))) (ν.set l (.l r'))=.ok (.lst ((b.days.map Dc.g).map enD)) (ν.set l (.l r'))),
    (gu (ai GL n) D_law_shape_off.body ([dg b,D.int t].map some++List.replicate (D_law_shape_off.nn-D_law_shape_off.np) none) μ).bind finD=.ok (.tup [.int b.store,.int b.oil,.lst (((b.lamps.map (Lc.g false)).set k c').map enL),.lst ((b.days.map Dc.g).map enD)]) (ν.set l (.l r'))) ->
   ∃st oil ls ds ρ,lq ls ds/\Pu ls ds/\¬Whole st oil ls ds/\(gu (ai GL n) D_law_shape_off.body ([dg b,D.int t].map some++List.replicate (D_law_shape_off.nn-D_law_shape_off.np) none) μ).bind finD=.ok (.tup [.int st,.int oil,.lst (ls.map enL),.lst (ds.map enD)]) (μ++ρ):=by
  intro r' c' e1 e2 e3 e4 h
  have R4:=R.puta (r':=r') el er
  obtain⟨ρ,eρ⟩:=R4.pre
  obtain⟨f3,f4,f5,f6⟩:=fin _ _ _ R4
  have q:((b.lamps.map iz).set k r').map D.tup=((b.lamps.map (Lc.g false)).set k c').map enL:=by rw[EA,eu,EA,e1]
  rw[q]at f5
  rw[g8]at f6
  refine⟨b.store,b.oil,(b.lamps.map (Lc.g false)).set k c',b.days.map Dc.g,ρ,ze (gs _ _) e2,Hb (Bk _ _) e3,noL c' e4,?_⟩
  rw[<-eρ]
  exact h f3 f4 f5 f6
 by_cases w1:w=0
 ·have m4:∀μ,opI .Mod (r / 8) 4 μ=.ok (.int (r / 8 % 4)) μ:=λμ=>op_mod (by decide)
  have ix:∃ns:List Int,¬ui ⟨lp.tank,lp.oil,ns⟩ b.days.length/\∀μ,ixD (.lst [.tup [.int (b.days.length:Int)],.tup [.int (-1)],.tup [.int 0,.int 0],.tup [.int ((b.days.length:Int)-1),.int (b.days.length:Int)]]) (.int (r / 8 % 4)) μ=.ok (gn ns) μ:=by
   rcases(show r / 8 % 4=0\/r / 8 % 4=1\/r / 8 % 4=2\/r / 8 % 4=3 by omega)with q | q | q | q
   ·exact⟨[(b.days.length:Int)],λh=>by have:=h.2.2.2 _ AT;omega,λμ=>by rw[q];rfl⟩
   ·exact⟨[-1],λh=>by have:=h.2.2.2 _ AT;omega,λμ=>by rw[q];rfl⟩
   ·exact⟨[0,0],λh=>by have:=h.2.2.1;simp at this,λμ=>by rw[q];rfl⟩
   ·exact⟨[(b.days.length:Int)-1,(b.days.length:Int)],λh=>by have:=h.2.2.2 _ (AR _ AT);omega,λμ=>by rw[q];rfl⟩
  obtain⟨ns,hn,ix⟩:=ix
  have s1:rn (.loc l) (.int 2) (gn ns) ν=.ok () (ν.set l (.l [.int lp.tank,.int lp.oil,gn ns])):=jk (k:=2) (d:=gn ns) Bl (by simp[iz]) (ko _)
  refine lampC [.int lp.tank,.int lp.oil,gn ns] (.g false ⟨lp.tank,lp.oil,ns⟩) rfl (λx e=>by cases e) (wc _) hn λf3 f4 f5 f6=>?_
  simp! only[D_law_shape_off,g0,g1,g2,g3,k1,k2,c1,c2,m8,d8,l1,l2,ek,ekd,xl,xd,eq_true w1,dr,m4,ja,ix,s1,f3,f4,f5,f6]
 by_cases w2:w=1
 ·have m2:∀μ,opI .Mod (r / 8) 2 μ=.ok (.int (r / 8 % 2)) μ:=λμ=>op_mod (by decide)
  have j2:ixD (.loc l) (.int 2) ν=.ok (gn lp.away) ν:=qb Bl rfl
  have bl:btD .list .z [gn lp.away] ν=.ok (.lst (lp.away.map D.int)) ν:=by rw[gn,bt_list kn,ja]
  have al:lp.away.length<=100:=by
   have:=o6 lp.away 0 b.days.length hlp.2.2.1 hlp.2.2.2 (by omega)
   omega
  have sl:∃z:List Int,z.length<=2/\(∃ys y,z++[0]=ys++[y,0]/\0<=y)/\∀μ,slD .z (.lst [.int ((b.days.length:Int)-1),.int 0]) none (some (1+r / 8 % 2)) μ=.ok (.lst (z.map D.int)) μ:=by
   rcases(show r / 8 % 2=0\/r / 8 % 2=1 by omega)with q | q
   ·exact⟨[(b.days.length:Int)-1],by simp,⟨[],(b.days.length:Int)-1,rfl,by omega⟩,λμ=>by rw[q];exact yb (k:=1)⟩
   ·exact⟨[(b.days.length:Int)-1,0],by simp,⟨[(b.days.length:Int)-1],0,rfl,by omega⟩,λμ=>by rw[q];exact yb (k:=2)⟩
  obtain⟨z,hz,⟨ys,y,ey,hy⟩,sl⟩:=sl
  have a1:opD .Add .z (.lst (lp.away.map D.int)) (.lst (z.map D.int)) ν=.ok (.lst (lp.away.map D.int++z.map D.int)) ν:=Em (by simp;omega)
  have a2:opD .Add .z (.lst (lp.away.map D.int++z.map D.int)) (.lst [.int 0]) ν=.ok (.lst ((lp.away++z++[0]).map D.int)) ν:=by
   rw[Em (by simp;omega)];simp
  have s1:rn (.loc l) (.int 2) (.lst ((lp.away++z++[0]).map D.int)) ν=.ok () (ν.set l (.l [.int lp.tank,.int lp.oil,.lst ((lp.away++z++[0]).map D.int)])):=jk (k:=2) (d:=.lst ((lp.away++z++[0]).map D.int)) Bl (by simp[iz]) (zh _)
  refine lampC [.int lp.tank,.int lp.oil,.lst ((lp.away++z++[0]).map D.int)] (.g true ⟨lp.tank,lp.oil,lp.away++z++[0]⟩) rfl (λx e=>by cases e) (wc _) (λh=>?_) λf3 f4 f5 f6=>?_
  ·have:=h.2.2.1
   simp![BW,ey]at this
   rw[<-BW]at this
   exact Dx _ y hy this
  simp! only[D_law_shape_off,g0,g1,g2,g3,k1,k2,c1,c2,m8,d8,l1,l2,ek,ekd,xl,xd,eq_false w1,eq_true w2,dr,m2,ja,j2,bl,sl,a1,a2,s1,f3,f4,f5,f6]
 have ml:∀{mt:Mt} {es:Exs} {σ:Sl},(∀d μ,j3 mt d μ=(Lp.listOf μ d).isSome)->kM (ai GL n) mt es σ (.loc l) ν=(fb (ai GL n) es σ ν).bind (mtD mt (.loc l)):=λhm=>Ka (by rw[hm];simp[Lp.listOf,Bl])
 have md:∀{mt:Mt} {es:Exs} {σ:Sl},(∀d μ,j3 mt d μ=(Lp.listOf μ d).isSome)->kM (ai GL n) mt es σ (.loc ld) ν=(fb (ai GL n) es σ ν).bind (mtD mt (.loc ld)):=λhm=>Ka (by rw[hm];simp[Lp.listOf,Bd])
 by_cases w3:w=2
 ·have ma:∀{es:Exs} {σ:Sl},kM (ai GL n) .append es σ (.loc l) ν=(fb (ai GL n) es σ ν).bind (mtD .append (.loc l)):=ml λ_ _=>rfl
  have s1:mtD .append (.loc l) [.tup []] ν=.ok .non (ν.set l (.l (iz lp++[.tup []]))):=by
   have:=j5
   simp![mtD,sj,Bl,gv,mtL,wu,fits,putL]
   exact if_pos ⟨rfl,by show(3:Nat)<lim;omega⟩
  refine lampC (iz lp++[.tup []]) (.x (iz lp++[.tup []])) rfl (λx e=>by cases e;simp[iz]) (by
   show(iz lp++[D.tup []]).all (D.pureN 5)=true
   rw[List.all_append,zg];rfl) (λh=>h) λf3 f4 f5 f6=>?_
  simp! only[D_law_shape_off,g0,g1,g2,g3,k1,k2,c1,c2,m8,d8,l1,l2,ek,ekd,xl,xd,eq_false w1,eq_false w2,eq_true w3,ma,s1,f3,f4,f5,f6]
 by_cases w4:w=3
 ·have ma:∀{es:Exs} {σ:Sl},kM (ai GL n) .pop es σ (.loc l) ν=(fb (ai GL n) es σ ν).bind (mtD .pop (.loc l)):=ml λ_ _=>rfl
  have s1:mtD .pop (.loc l) [] ν=.ok (gn lp.away) (ν.set l (.l [.int lp.tank,.int lp.oil])):=by
   simp![mtD,sj,Bl,gv,mtL]
   rfl
  refine lampC [.int lp.tank,.int lp.oil] (.x [.int lp.tank,.int lp.oil]) rfl (λx e=>by cases e;simp) rfl (λh=>h) λf3 f4 f5 f6=>?_
  simp! only[D_law_shape_off,g0,g1,g2,g3,k1,k2,c1,c2,m8,d8,l1,l2,ek,ekd,xl,xd,eq_false w1,eq_false w2,eq_false w3,eq_true w4,ma,s1,f3,f4,f5,f6]
 -- a day's row put otherwise
 have dayC:∀(r':List D),r'.length≠5->r'.all (D.pureN 5)=true->(∀(x3:kSeq (.loc a) (ν.set ld (.l r'))=.ok (la.map D.loc,some (a,.r (la.map D.loc))) (ν.set ld (.l r'))) (x4:kSeq (.loc c) (ν.set ld (.l r'))=.ok (lb.map D.loc,some (c,.r (lb.map D.loc))) (ν.set ld (.l r')))
    (x5:cw (ai GL n) .z (.one 0) .nil bf [none] (la.map D.loc,some (a,.r (la.map D.loc))) (ν.set ld (.l r'))=.ok (.lst ((b.lamps.map (Lc.g false)).map enL)) (ν.set ld (.l r')))
    (x6:cw (ai GL n) .z (.one 0) .nil bh [none] (lb.map D.loc,some (c,.r (lb.map D.loc))) (ν.set ld (.l r'))=.ok (.lst (((b.days.map Dc.g).set kd (.x r')).map enD)) (ν.set ld (.l r'))),
    (gu (ai GL n) D_law_shape_off.body ([dg b,D.int t].map some++List.replicate (D_law_shape_off.nn-D_law_shape_off.np) none) μ).bind finD=.ok (.tup [.int b.store,.int b.oil,.lst ((b.lamps.map (Lc.g false)).map enL),.lst (((b.days.map Dc.g).set kd (.x r')).map enD)]) (ν.set ld (.l r'))) ->
   ∃st oil ls ds ρ,lq ls ds/\Pu ls ds/\¬Whole st oil ls ds/\(gu (ai GL n) D_law_shape_off.body ([dg b,D.int t].map some++List.replicate (D_law_shape_off.nn-D_law_shape_off.np) none) μ).bind finD=.ok (.tup [.int st,.int oil,.lst (ls.map enL),.lst (ds.map enD)]) (μ++ρ):=by
  intro r' e2 e3 h
  have R4:=R.putb (r':=r') eld erd
  obtain⟨ρ,eρ⟩:=R4.pre
  obtain⟨f3,f4,f5,f6⟩:=fin _ _ _ R4
  have q:((b.days.map jd).set kd r').map D.tup=((b.days.map Dc.g).set kd (.x r')).map enD:=by rw[EA,g8,EA];rfl
  rw[q]at f6
  rw[eu]at f5
  refine⟨b.store,b.oil,b.lamps.map (Lc.g false),(b.days.map Dc.g).set kd (.x r'),ρ,zf (gs _ _) (λx e=>by cases e;exact e2),Hc (Bk _ _) e3,noD _ (λh=>h),?_⟩
  rw[<-eρ]
  exact h f3 f4 f5 f6
 by_cases w5:w=4
 ·have ma:∀{es:Exs} {σ:Sl},kM (ai GL n) .insert es σ (.loc ld) ν=(fb (ai GL n) es σ ν).bind (mtD .insert (.loc ld)):=md λ_ _=>rfl
  have m6:∀μ,opI .Mod (r / 8) 6 μ=.ok (.int (r / 8 % 6)) μ:=λμ=>op_mod (by decide)
  have i6:0<=r / 8 % 6/\r / 8 % 6<6:=by omega
  generalize r / 8 % 6=j at m6 i6
  have s1:mtD .insert (.loc ld) [.int j,.int 1] ν=.ok .non (ν.set ld (.l ((jd dy).take j.toNat++.int 1::(jd dy).drop j.toNat))):=by
   have:=j5
   simp![mtD,sj,Bd,gv,mtL,fits,putL]
   exact if_pos ⟨i6.1,by show j<=(5:Nat);omega,rfl,by show(5:Nat)<lim;omega⟩
  refine dayC ((jd dy).take j.toNat++.int 1::(jd dy).drop j.toNat) (by simp[jd];omega) (by
   rw[AO]
   intro x hx
   have hp:∀x∈jd dy,D.pureN 5 x=true:=AO.mp (show(jd dy).all (D.pureN 5)=true from rfl)
   rcases CT.mp hx with q | q
   ·exact hp x (List.mem_of_mem_take q)
   ·rcases AJ.mp q with rfl | q
    ·rfl
    ·exact hp x (List.mem_of_mem_drop q)) λf3 f4 f5 f6=>?_
  simp! only[D_law_shape_off,g0,g1,g2,g3,k1,k2,c1,c2,m8,d8,l1,l2,ek,ekd,xl,xd,eq_false w1,eq_false w2,eq_false w3,eq_false w4,eq_true w5,dr,m6,ma,s1,f3,f4,f5,f6]
 by_cases w6:w=5
 ·have ma:∀{es:Exs} {σ:Sl},kM (ai GL n) .pop es σ (.loc ld) ν=(fb (ai GL n) es σ ν).bind (mtD .pop (.loc ld)):=md λ_ _=>rfl
  have m5:∀μ,opI .Mod (r / 8) 5 μ=.ok (.int (r / 8 % 5)) μ:=λμ=>op_mod (by decide)
  have i5:0<=r / 8 % 5/\r / 8 % 5<5:=by omega
  generalize r / 8 % 5=j at m5 i5
  have hj:j.toNat<(jd dy).length:=by simp[jd];omega
  have s1:mtD .pop (.loc ld) [.int j] ν=.ok ((jd dy)[j.toNat]) (ν.set ld (.l ((jd dy).eraseIdx j.toNat))):=by
   have:=j5
   simp![mtD,sj,Bd,gv,mtL]
   refine(if_pos ⟨i5.1,by omega⟩).trans ?_
   rw[AB hj]
   rfl
  refine dayC ((jd dy).eraseIdx j.toNat) (by rw[List.length_eraseIdx_of_lt hj];simp[jd]) (by
   rw[AO]
   intro x hx
   have hp:∀x∈jd dy,D.pureN 5 x=true:=AO.mp (show(jd dy).all (D.pureN 5)=true from rfl)
   exact hp x (List.mem_of_mem_eraseIdx hx)) λf3 f4 f5 f6=>?_
  simp! only[D_law_shape_off,g0,g1,g2,g3,k1,k2,c1,c2,m8,d8,l1,l2,ek,ekd,xl,xd,eq_false w1,eq_false w2,eq_false w3,eq_false w4,eq_false w5,eq_true w6,dr,m5,ma,s1,f3,f4,f5,f6]
 have m2:∀μ,opI .Mod (r / 8) 2 μ=.ok (.int (r / 8 % 2)) μ:=λμ=>op_mod (by decide)
 have two:r / 8 % 2=0\/r / 8 % 2=1:=by omega
 obtain⟨f3,f4,f5,f6⟩:=fin _ _ _ R
 rw[eu]at f5
 rw[g8]at f6
 obtain⟨ρ,eρ⟩:=R.pre
 have kz:∀(ds:List D),kSeq (.lst ds) ν=.ok (ds,none) ν:=λ_=>rfl
 have one:∀(o:Nat) (xs:List Nat),ν[o]? = some (.r (xs.map D.loc))->slD .z (.loc o) none (some 1) ν=.ok (.lst ((xs.map D.loc).take 1)) ν:=λo xs h=>by
  show(match Lp.listOf ν (.loc o)with | some ys=>mkL .z (cut ys none (some 1)) ν | none=>.stuck)=_
  rw[show Lp.listOf ν (.loc o)=some (xs.map D.loc)by simp![Lp.listOf,h]]
  show mkL .z (cut (xs.map D.loc) none (some ((1:Nat):Int))) ν=_
  rw[xu];rfl
 by_cases w7:w=6
 ·obtain⟨l0,p0,hl0,hp0,B0⟩:=R.rowa (i:=0) (by rw[AG];omega)
  have t1:(la.map D.loc).take 1=[.loc l0]:=by
   cases la with
   | nil=>cases hl0
   | cons x y=>simp at hl0;subst hl0;rfl
  obtain⟨lp0,h0⟩:∃lp0,b.lamps[0]? = some lp0:=⟨b.lamps[0],AB (by omega)⟩
  have e0:p0=iz lp0:=by rw[AU,h0]at hp0;exact(BC hp0).symm
  have sl:=one a la R.oa
  rw[t1]at sl
  have mu:opD .Mult .z (.lst [.loc l0]) (.int 9) ν=.ok (.lst (List.replicate 9 (.loc l0))) ν:=En (k:=9) (by simp) (by decide)
  rcases two with q | q
  ·refine⟨b.store,b.oil,[],b.days.map Dc.g,ρ,⟨λc hc=>by simp at hc,(gs [] b.days).d⟩,⟨λc hc=>by simp at hc,(Bk [] b.days).2⟩,λW=>by have:=W.nl;simp at this,?_⟩
   have ix:∀μ,ixD (.lst [.lst [],.lst (List.replicate 9 (.loc l0))]) (.int (r / 8 % 2)) μ=.ok (.lst []) μ:=λμ=>by rw[q];rfl
   have ce:cw (ai GL n) .z (.one 0) .nil bf [none] ([],none) ν=.ok (.lst (([]:List Lc).map enL)) ν:=jw (rs:=[]) rfl (g:=none) trivial rfl λi d r h=>by simp at h
   rw[<-eρ]
   simp! only[D_law_shape_off,g0,g1,g2,g3,k1,k2,c1,c2,m8,d8,l1,l2,ek,ekd,xl,xd,eq_false w1,eq_false w2,eq_false w3,eq_false w4,eq_false w5,eq_false w6,eq_true w7,dr,m2,ja,sl,mu,ix,kz,ce,f4,f6]
  ·refine⟨b.store,b.oil,(List.replicate 9 lp0).map (Lc.g false),b.days.map Dc.g,ρ,gs _ _,Bk _ _,λW=>by have:=W.nl;simp at this,?_⟩
   have ix:∀μ,ixD (.lst [.lst [],.lst (List.replicate 9 (.loc l0))]) (.int (r / 8 % 2)) μ=.ok (.lst (List.replicate 9 (.loc l0))) μ:=λμ=>by rw[q];rfl
   have ce:cw (ai GL n) .z (.one 0) .nil bf [none] (List.replicate 9 (.loc l0),none) ν=.ok (.lst (((List.replicate 9 lp0).map (Lc.g false)).map enL)) ν:=jw (rs:=List.replicate 9 (iz lp0)) rfl (g:=none) trivial rfl λi d r h1 h2=>by
    have d1:d=.loc l0:=DD (AV h1)
    have d2:r=iz lp0:=DD (AV h2)
    rw[d1,d2,<-e0];exact o7 B0
   rw[<-eρ]
   simp! only[D_law_shape_off,g0,g1,g2,g3,k1,k2,c1,c2,m8,d8,l1,l2,ek,ekd,xl,xd,eq_false w1,eq_false w2,eq_false w3,eq_false w4,eq_false w5,eq_false w6,eq_true w7,dr,m2,ja,sl,mu,ix,kz,ce,f4,f6]
 ·obtain⟨l0,p0,hl0,hp0,B0⟩:=R.rowb (i:=0) (by rw[AG];omega)
  have t1:(lb.map D.loc).take 1=[.loc l0]:=by
   cases lb with
   | nil=>cases hl0
   | cons x y=>simp at hl0;subst hl0;rfl
  obtain⟨lp0,h0⟩:∃lp0,b.days[0]? = some lp0:=⟨b.days[0],AB (by omega)⟩
  have e0:p0=jd lp0:=by rw[AU,h0]at hp0;exact(BC hp0).symm
  have sl:=one c lb R.ob
  rw[t1]at sl
  have mu:opD .Mult .z (.lst [.loc l0]) (.int 17) ν=.ok (.lst (List.replicate 17 (.loc l0))) ν:=En (k:=17) (by simp) (by decide)
  rcases two with q | q
  ·refine⟨b.store,b.oil,b.lamps.map (Lc.g false),[],ρ,⟨(gs b.lamps []).l,λc hc=>by simp at hc⟩,⟨(Bk b.lamps []).1,λc hc=>by simp at hc⟩,λW=>by have:=W.nd;simp at this,?_⟩
   have ix:∀μ,ixD (.lst [.lst [],.lst (List.replicate 17 (.loc l0))]) (.int (r / 8 % 2)) μ=.ok (.lst []) μ:=λμ=>by rw[q];rfl
   have ce:cw (ai GL n) .z (.one 0) .nil bh [none] ([],none) ν=.ok (.lst (([]:List Dc).map enD)) ν:=jw (rs:=[]) rfl (g:=none) trivial rfl λi d r h=>by simp at h
   rw[<-eρ]
   simp! only[D_law_shape_off,g0,g1,g2,g3,k1,k2,c1,c2,m8,d8,l1,l2,ek,ekd,xl,xd,eq_false w1,eq_false w2,eq_false w3,eq_false w4,eq_false w5,eq_false w6,eq_false w7,dr,m2,ja,sl,mu,ix,kz,ce,f3,f5]
  ·refine⟨b.store,b.oil,b.lamps.map (Lc.g false),(List.replicate 17 lp0).map Dc.g,ρ,gs _ _,Bk _ _,λW=>by have:=W.nd;simp at this,?_⟩
   have ix:∀μ,ixD (.lst [.lst [],.lst (List.replicate 17 (.loc l0))]) (.int (r / 8 % 2)) μ=.ok (.lst (List.replicate 17 (.loc l0))) μ:=λμ=>by rw[q];rfl
   have ce:cw (ai GL n) .z (.one 0) .nil bh [none] (List.replicate 17 (.loc l0),none) ν=.ok (.lst (((List.replicate 17 lp0).map Dc.g).map enD)) ν:=jw (rs:=List.replicate 17 (jd lp0)) rfl (g:=none) trivial rfl λi d r h1 h2=>by
    have d1:d=.loc l0:=DD (AV h1)
    have d2:r=jd lp0:=DD (AV h2)
    rw[d1,d2,<-e0];exact o7 B0
   rw[<-eρ]
   simp! only[D_law_shape_off,g0,g1,g2,g3,k1,k2,c1,c2,m8,d8,l1,l2,ek,ekd,xl,xd,eq_false w1,eq_false w2,eq_false w3,eq_false w4,eq_false w5,eq_false w6,eq_false w7,dr,m2,ja,sl,mu,ix,kz,ce,f3,f5]
end
open PySem
def edgeB:Book:=⟨10 ^ 30,10 ^ 30,[⟨10 ^ 30,10 ^ 30,[0,1]⟩],[⟨10 ^ 30,10 ^ 30,10 ^ 15,10 ^ 15,1⟩,⟨0,0,0,1,0⟩]⟩
theorem Hd:Wf edgeB:=by
 constructor<;>simp[edgeB]
theorem Ob (ns:List Int):∃μ',ai GL 6 ot [.lst (ns.map D.int)] []=.ok (.bl true) μ':=by
 rw[au A8,run_eq rfl]
 have hr:∀cs,fu [Lf cs]:=λcs=>rfl
 have nx:∀cs,lu (ai GL 5) false az [.loc 0] [Lf cs]=.ok (.int (cs.headD 0)) [Lf cs.tail]:=λcs=>lx (n:=4) (ρ:=[]) (λ_=>rfl) cs
 have tn:∀c cs,lu (ai GL 5) false cf [.int c] [Lf cs]=.ok (.int (bq c)) [Lf cs]:=λc cs=>jb (n:=4) (hr _) c
 have hb:=Ds ns.tail
 have ev:=G5 (n:=1) (ρ:=[]) (λ_=>rfl) ns.tail
 generalize (rh ns.tail).1=b at hb ev
 generalize (rh ns.tail).2=cs at ev
 have hc:∃(xs:List Int) (ds:List Int),cw (ai GL 5) .z (.one 1) .nil gz [some (.loc 0),none] ([.int 0,.int 1,.int 2],none) [Lf cs]=.ok (.lst (xs.map D.int)) [Lf ds]:=by
  refine⟨[cs.headD 0,cs.tail.headD 0,cs.tail.tail.headD 0],cs.tail.tail.tail,?_⟩
  have f:∀(d:D) (cs:List Int),mi (ai GL 5) (.one 1) .nil gz [some (.loc 0),none] d [Lf cs]=.ok [.int (cs.headD 0)] [Lf cs.tail]:=λd cs=>by
   simp! only[mi,gz,nx]
  rw[cw]
  show(mapR none _ [.int 0,.int 1,.int 2] [Lf cs]).bind _=_
  have m0:∀(F:D->Sto->Res (List D)) μ,mapR none F [] μ=.ok [] μ:=λ_ _=>by simp[mapR]
  have m1:∀(F:D->Sto->Res (List D)) (d:D) (t:List D) μ,mapR none F (d::t) μ=(F d μ).bind λy μ1=>(mapR none F t μ1).bind λys μ2=>.ok (y++ys) μ2:=λ_ _ _ _=>by simp[mapR]
  simp![m1,m0,f,Res.bj]
  rfl
 obtain⟨xs,ds,hc⟩:=hc
 have wl:∀(v0 v4:Option D) (way:Int),0<=way->∃w v5,qy (ai GL 5) (.one 5) g6 [v0,some (.loc 0),some (.int way),some (dg b),v4,none,none,none] (xs.map D.int,none) [Lf ds]=.ok (.nx [v0,some (.loc 0),some (.int w),some (dg b),v4,v5,none,none]) [Lf ds]:=by
  intro v0 v4 way hw
  obtain⟨h,_⟩:=uk (φ:=ai GL 5) (μ:=[Lf ds]) (tg:=.one 5) (b:=g6) (en:=D.int) (v:=.bl false) (λσ=>∃w v5,0<=w/\σ=[v0,some (.loc 0),some (.int w),some (dg b),v4,v5,none,none]) (λ_:Int=>False) (xs:=xs) (σ:=[v0,some (.loc 0),some (.int way),some (dg b),v4,none,none,none]) ⟨way,none,hw,rfl⟩ λc _ σ hσ=>by
   refine⟨λ_=>?_,λh=>h.elim⟩
   obtain⟨w,v5,h0,rfl⟩:=hσ
   have h1:0<=w+bq c:=Int.add_nonneg h0 (rg c)
   refine⟨[v0,some (.loc 0),some (.int (w+bq c)),some (dg b),v4,some (.int c),none,none],?_,w+bq c,some (.int c),h1,rfl⟩
   obtain⟨st,oil,ls,dd,ρ,p1,p2,p3,e1⟩:=Bn (n:=3) (hr ds) hb h1
   obtain⟨st',oil',ls',dd',ρ',p1',p2',p3',e1'⟩:=wd (n:=4) (hr ds) hb h1
   have n1:=jv e1 p2.pure (hr ds)
   have n2:=jv e1' p2'.pure (hr ds)
   obtain⟨ρ1,r1⟩:=me (n:=1) (hr ds) p1 p3
   obtain⟨ρ2,r2⟩:=me (n:=1) (hr ds) p1' p3'
   have s1:=jv r1 rfl (hr ds)
   have s2:=jv r2 rfl (hr ds)
   simp! only[fLp,g6,tn,n1,s1,n2,s2]
  obtain⟨σ',e,w,v5,_,rfl⟩:=h λ_ _ z=>z
  exact⟨w,v5,e⟩
 have k3:kRng (.int 3) [Lf cs]=.ok ([.int 0,.int 1,.int 2],none) [Lf cs]:=ju (n:=3) (by decide)
 have kz:kSeq (.lst (xs.map D.int)) [Lf ds]=.ok (xs.map D.int,none) [Lf ds]:=rfl
 have M:=bu (uj (n:=2) (hr ds) Hd) (ji edgeB) rfl (hr ds)
 have ce:cpD .eq (dg edgeB) (dg edgeB) [Lf ds]=.ok (.bl true) [Lf ds]:=by rw[Ng (ji _) (ji _),rj 8 _ (ji _)]
 have p30:∀μ,opI .Pow 10 30 μ=.ok (.int (10 ^ 30)) μ:=λμ=>op_pow (by decide)
 have p15:∀μ,opI .Pow 10 15 μ=.ok (.int (10 ^ 15)) μ:=λμ=>op_pow (by decide)
 have eB:∀(x:D),x=dg edgeB->D.tup [.int (10 ^ 30),.int (10 ^ 30),.tup [.tup [.int (10 ^ 30),.int (10 ^ 30),.tup [.int 0,.int 1]]],.tup [.tup [.int (10 ^ 30),.int (10 ^ 30),.int (10 ^ 15),.int (10 ^ 15),.int 1],.tup [.int 0,.int 0,.int 0,.int 1,.int 0]]]=x:=λx h=>by rw[h];rfl
 have i0:∀μ,ixD (dg edgeB) (.int 0) μ=.ok (.int edgeB.store) μ:=λ_=>rfl
 have i1:∀μ,ixD (dg edgeB) (.int 1) μ=.ok (.int edgeB.oil) μ:=λ_=>rfl
 have i2:∀μ,ixD (dg edgeB) (.int 2) μ=.ok (.tup (edgeB.lamps.map et)) μ:=λ_=>rfl
 have i3:∀μ,ixD (dg edgeB) (.int 3) μ=.ok (.tup (edgeB.days.map j4)) μ:=λ_=>rfl
 obtain⟨w,v5,wl⟩:=wl (some (.lst (ns.map D.int))) (some (.lst (xs.map D.int))) (bq (ns.headD 0)) (rg _)
 refine⟨[Lf ds],?_⟩
 simp! only[D_law_k02,y8 za,Ba,nx,tn,bu ev (ji b) rfl (hr _),k3,hc,kz,wl,p30,p15,eB _ rfl,i0,i1,i2,i3,M,ce]
end Lr
namespace Lp.Law
open PySem PySem.Spec PyProof.Rows L2 Lp
def top (i:Nat):Stmt:=PySem.Challenge.pw_lamprota_k02_books_refused.main.body.getD i (.Pass ⟨0,0,0,0⟩)
def e0:Ent:=⟨aj,"refuse_unless",top 8,["holds","words"],["holds","words"],D_refuse_unless⟩
def e1:Ent:=⟨ay,"is_measure",top 9,["number"],["number"],D_is_measure⟩
def e2:Ent:=⟨lr,"rises",top 10,["things"],["things"],D_rises⟩
def e3:Ent:=⟨i7,"made_lamp",top 11,["lamp","many_days","tank","oil","away"],["lamp","many_days"],D_made_lamp⟩
def e4:Ent:=⟨jt,"made_day",top 12,["day","many_lamps","boat","most","price","length","wanted"],["day","many_lamps"],D_made_day⟩
def e5:Ent:=⟨gg,"made_book",top 13,["store","oil","lamps","days","book_lamps","book_days"],["store","oil","lamps","days"],D_made_book⟩
def e6:Ent:=⟨az,"_law_next",top 15,["left"],["left"],D_law_next⟩
def e7:Ent:=⟨cf,"_law_turn",top 16,["cell","stir"],["cell"],D_law_turn⟩
def e8:Ent:=⟨bz,"_law_size",top 17,["cell","most","turn"],["cell","most"],D_law_size⟩
def e9:Ent:=⟨jq,"_law_lamp",top 18,["left","days","tank","oil","turn","away"],["left","days"],D_law_lamp⟩
def e10:Ent:=⟨kj,"_law_day",top 19,["left","lamps","boat","most","price","length"],["left","lamps"],D_law_day⟩
def e11:Ent:=⟨jr,"_law_book",top 20,["left","head","lamps","days","store","oil","made"],["left"],D_law_book⟩
def e12:Ent:=⟨du,"_law_beyond",top 22,["turn","low","high","far"],["turn","low","high"],D_law_beyond⟩
def e13:Ent:=⟨dm,"_law_number_off",top 23,["book","turn","lamps","days","both","kind","rest","lamp","day","at","high"],["book","turn"],D_law_number_off⟩
def e14:Ent:=⟨d6,"_law_shape_off",top 24,["book","turn","lamps","days","rest","lamp","day","kind"],["book","turn"],D_law_shape_off⟩
def e15:Ent:=⟨de,"_law_refused",top 25,["parts","heard","e"],["parts"],D_law_refused_2⟩
def e16:Ent:=⟨ot,"law",top 26,["script","left","way","book","cells","cell","day","edge"],["script"],D_law_k02⟩
def x0:Ent:=⟨ah,"refuse_unless",top 8,["holds","words"],["holds","words"],D_refuse_unless_2⟩
def x1:Ent:=⟨cu,"made_lamp",top 11,["lamp","many_days","tank","oil","away"],["lamp","many_days"],D_made_lamp_2⟩
def x2:Ent:=⟨da,"made_day",top 12,["day","many_lamps","boat","most","price","length","wanted"],["day","many_lamps"],D_made_day_2⟩
def x3:Ent:=⟨d5,"made_book",top 13,["store","oil","lamps","days","book_lamps","book_days"],["store","oil","lamps","days"],D_made_book_2⟩
def q0:Ent:=⟨i8,"_law_kinds",top 21,["e","heard"],["e"],D_law_kinds⟩
def ents:List Ent:=[e0,e1,e2,e3,e4,e5,e6,e7,e8,e9,e10,e11,e12,e13,e14,e15,e16]
def fc:List Ent:=[x0,x1,x2,x3]
def eh:List Ent:=[q0]
def mm:List Str:=["zip","all","len","tuple","min","range","max","isinstance","ValueError","list","int","reversed"]
theorem arS {k:Nat} {Q:List Value->Prop} (h:∀a us,us.length=k->Q (a::us)):∀us:List Value,us.length=k+1->Q us
 | [],e=>nomatch e
 | a::us,e=>h a us (Nat.succ.inj e)
theorem ar0 {Q:List Value->Prop} (h:∀(_:Unit),Q []):∀us:List Value,us.length=0->Q us
 | [],_=>h ()
theorem ar1 {Q:List Value->Prop} (h:∀(a0:Value),Q [a0]):∀us:List Value,us.length=1->Q us:=arS λa0=>ar0 (Q:=λus=>Q (a0::us)) (λ_=>h a0)
theorem ar2 {Q:List Value->Prop} (h:∀(a0 a1:Value),Q [a0,a1]):∀us:List Value,us.length=2->Q us:=arS λa0=>ar1 (Q:=λus=>Q (a0::us)) (h a0)
theorem ar3 {Q:List Value->Prop} (h:∀(a0 a1 a2:Value),Q [a0,a1,a2]):∀us:List Value,us.length=3->Q us:=arS λa0=>ar2 (Q:=λus=>Q (a0::us)) (h a0)
theorem ar4 {Q:List Value->Prop} (h:∀(a0 a1 a2 a3:Value),Q [a0,a1,a2,a3]):∀us:List Value,us.length=4->Q us:=arS λa0=>ar3 (Q:=λus=>Q (a0::us)) (h a0)
section
variable {P : Program} {w : World} {K : PySem.W.Frag} {mg : Str -> Option Value} {base : Heap}
theorem dv0 (B:∀(j:Nat) x,mm[j]? = some x->mg x=none) (xf:XF K mg):DerP GL P w K mg base ents fc eh e0:=uc λn fa cdv A outer s H E hu C D Z =>
 (ba (tx (xk (qt (ae 0))) (ba Gg eo) eo) eo)
theorem dv1 (B:∀(j:Nat) x,mm[j]? = some x->mg x=none) (xf:XF K mg):DerP GL P w K mg base ents fc eh e1:=uc λn fa cdv A outer s H E hu C D Z =>
 (ba (ia (gc af (vn hu .le (ae 0) (gb hu .le (ak af af))))) eo)
theorem dv2 (B:∀(j:Nat) x,mm[j]? = some x->mg x=none) (xf:XF K mg):DerP GL P w K mg base ents fc eh e2:=uc λn fa cdv A outer s H E hu C D Z =>
 (ba (ia (vq (B 1 _ rfl) (aa (jg ["one","other"] (J6 (B 0 _ rfl) (ae 0) (Kx (ae 0) (Kw af) Kv)) (λ_ _ _ _=>⟨(tw (cz 0 (cz 1 tv))),c9,(gc (ae 0) (gb hu .lt (ae 1)))⟩)) ag))) eo)
theorem dv3 (B:∀(j:Nat) x,mm[j]? = some x->mg x=none) (xf:XF K mg):DerP GL P w K mg base ents fc eh e3:=uc λn fa cdv A outer s H E hu C D Z =>
 (ba (qu (ar (C 0 _ rfl) (aa (gc (bt (B 2 _ rfl) (aa (ae 0) ag)) (gb hu .eq af)) (aa dw ag)))) (ba (C7 (tw (cz 2 (cz 3 (cz 4 tv)))) (ae 0)) (ba (qu (ar (C 0 _ rfl) (aa (ar (C 1 _ rfl) (aa (ae 2) ag)) (aa dw ag)))) (ba (qu (ar (C 0 _ rfl) (aa (gc af (vn hu .le (ae 3) (gb hu .le (ae 2)))) (aa dw ag)))) (ba (qu (ar (C 0 _ rfl) (aa (vq (B 1 _ rfl) (aa (jg ["many_days","day"] (gf (ae 4)) (λ_ _ _ _=>⟨(ck 1),c9,(gc af (vn hu .le (ae 1) (gb hu .lt (ae 0))))⟩)) ag)) (aa dw ag)))) (ba (qu (ar (C 0 _ rfl) (aa (ar (C 2 _ rfl) (aa (ae 4) ag)) (aa dw ag)))) (ba (ia (fi (aa (ae 2) (aa (ae 3) (aa (c8 (B 3 _ rfl) (aa (ae 4) ag)) ag))))) eo)))))))
theorem dv4 (B:∀(j:Nat) x,mm[j]? = some x->mg x=none) (xf:XF K mg):DerP GL P w K mg base ents fc eh e4:=uc λn fa cdv A outer s H E hu C D Z =>
 (ba (qu (ar (C 0 _ rfl) (aa (gc (bt (B 2 _ rfl) (aa (ae 0) ag)) (gb hu .eq af)) (aa dw ag)))) (ba (C7 (tw (cz 2 (cz 3 (cz 4 (cz 5 (cz 6 tv)))))) (ae 0)) (ba (qu (ar (C 0 _ rfl) (aa (ar (C 1 _ rfl) (aa (ae 2) ag)) (aa dw ag)))) (ba (qu (ar (C 0 _ rfl) (aa (ar (C 1 _ rfl) (aa (ae 3) ag)) (aa dw ag)))) (ba (qu (ar (C 0 _ rfl) (aa (gc af (vn hu .le (ae 4) (gb hu .le (ak af af)))) (aa dw ag)))) (ba (qu (ar (C 0 _ rfl) (aa (gc af (vn hu .le (ae 5) (gb hu .le (ak af af)))) (aa dw ag)))) (ba (qu (ar (C 0 _ rfl) (aa (gc af (vn hu .le (ae 6) (gb hu .le (ae 1)))) (aa dw ag)))) (ba (ia (fi (aa (ae 2) (aa (ae 3) (aa (ae 4) (aa (ae 5) (aa (ae 6) ag))))))) eo))))))))
theorem dv5 (B:∀(j:Nat) x,mm[j]? = some x->mg x=none) (xf:XF K mg):DerP GL P w K mg base ents fc eh e5:=uc λn fa cdv A outer s H E hu C D Z =>
 (ba (qu (ar (C 0 _ rfl) (aa (ar (C 1 _ rfl) (aa (ae 0) ag)) (aa dw ag)))) (ba (qu (ar (C 0 _ rfl) (aa (ar (C 1 _ rfl) (aa (ae 1) ag)) (aa dw ag)))) (ba (qu (ar (C 0 _ rfl) (aa (gc af (vn hu .le (bt (B 2 _ rfl) (aa (ae 2) ag)) (gb hu .le af))) (aa dw ag)))) (ba (qu (ar (C 0 _ rfl) (aa (gc af (vn hu .le (bt (B 2 _ rfl) (aa (ae 3) ag)) (gb hu .le af))) (aa dw ag)))) (ba (cb 4 (c8 (B 3 _ rfl) (aa (jg ["days","lamp"] (gf (ae 2)) (λ_ _ _ _=>⟨(ck 1),c9,(ar (C 3 _ rfl) (aa (ae 1) (aa (bt (B 2 _ rfl) (aa (ae 0) ag)) ag)))⟩)) ag))) (ba (cb 5 (c8 (B 3 _ rfl) (aa (jg ["lamps","day"] (gf (ae 3)) (λ_ _ _ _=>⟨(ck 1),c9,(ar (C 4 _ rfl) (aa (ae 1) (aa (bt (B 2 _ rfl) (aa (ae 0) ag)) ag)))⟩)) ag))) (ba (ia (fi (aa (ae 0) (aa (ae 1) (aa (ae 4) (aa (ae 5) ag)))))) eo)))))))
theorem dv6 (B:∀(j:Nat) x,mm[j]? = some x->mg x=none) (xf:XF K mg):DerP GL P w K mg base ents fc eh e6:=uc λn fa cdv A outer s H E hu C D Z =>
 (ba (tx (fg (bt (B 2 _ rfl) (aa (ae 0) ag)) (jy hu .gt af)) (ba (ia (xn (ae 0))) eo) eo) (ba (ia af) eo))
theorem dv7 (B:∀(j:Nat) x,mm[j]? = some x->mg x=none) (xf:XF K mg):DerP GL P w K mg base ents fc eh e7:=uc λn fa cdv A outer s H E hu C D Z =>
 (ba (cb 1 (ak (ak (ak (ak (ae 0) (ak af af)) af) af) af)) (ba (ia (ak (ak (ak (ae 1) (ae 1)) af) af)) eo))
theorem dv8 (B:∀(j:Nat) x,mm[j]? = some x->mg x=none) (xf:XF K mg):DerP GL P w K mg base ents fc eh e8:=uc λn fa cdv A outer s H E hu C D Z =>
 (ba (cb 2 (ar (C 7 _ rfl) (aa (ae 0) ag))) (ba (tx (fg (ak (ae 2) af) (jy hu .lt af)) (ba (ia (vo (B 4 _ rfl) (aa (ae 1) (aa (ak (ak (ae 2) af) af) ag)))) eo) eo) (ba (tx (fg (ak (ae 2) af) (jy hu .eq af)) (ba (ia (ak (ae 1) (ak (ak (ae 2) af) af))) eo) eo) (ba (ia (ak (ae 0) (ak (ae 1) af))) eo))))
theorem dv9 (B:∀(j:Nat) x,mm[j]? = some x->mg x=none) (xf:XF K mg):DerP GL P w K mg base ents fc eh e9:=uc λn fa cdv A outer s H E hu C D Z =>
 (ba (cb 2 (ar (C 8 _ rfl) (aa (ar (C 6 _ rfl) (aa (ae 0) ag)) (aa (ak af af) ag)))) (ba (cb 3 (vo (B 4 _ rfl) (aa (ae 2) (aa (ar (C 8 _ rfl) (aa (ar (C 6 _ rfl) (aa (ae 0) ag)) (aa (ak af af) ag))) ag)))) (ba (cb 4 (ar (C 7 _ rfl) (aa (ar (C 6 _ rfl) (aa (ae 0) ag)) ag))) (ba (cb 5 (fi ag)) (ba (tx (fg (ak (ae 4) af) (jy hu .eq af)) (ba (cb 5 (c8 (B 3 _ rfl) (aa (jg ["turn","day"] (xm (B 5 _ rfl) (ae 1)) (λ_ _ _ _=>⟨(ck 1),(C6 (fg (ak (ak (ae 0) (ak (ae 1) af)) af) (jy hu .eq af)) c9),(ae 1)⟩)) ag))) eo) eo) (ba (ia (fi (aa (ae 2) (aa (ae 3) (aa (ae 5) ag))))) eo))))))
theorem So (B:∀(j:Nat) x,mm[j]? = some x->mg x=none) (xf:XF K mg):DerP GL P w K mg base ents fc eh e10:=uc λn fa cdv A outer s H E hu C D Z =>
 (ba (cb 2 (ar (C 8 _ rfl) (aa (ar (C 6 _ rfl) (aa (ae 0) ag)) (aa (ak af af) ag)))) (ba (cb 3 (ar (C 8 _ rfl) (aa (ar (C 6 _ rfl) (aa (ae 0) ag)) (aa (ak af af) ag)))) (ba (cb 4 (ar (C 8 _ rfl) (aa (ar (C 6 _ rfl) (aa (ae 0) ag)) (aa (ak af af) ag)))) (ba (cb 5 (Au (B 6 _ rfl) (aa af (aa (ar (C 8 _ rfl) (aa (ar (C 6 _ rfl) (aa (ae 0) ag)) (aa (ak af af) ag))) ag)))) (ba (ia (fi (aa (ae 2) (aa (ae 3) (aa (ae 4) (aa (ae 5) (aa (ak (ar (C 7 _ rfl) (aa (ar (C 6 _ rfl) (aa (ae 0) ag)) ag)) (ak (ae 1) af)) ag))))))) eo)))))
theorem Sr (B:∀(j:Nat) x,mm[j]? = some x->mg x=none) (xf:XF K mg):DerP GL P w K mg base ents fc eh e11:=uc λn fa cdv A outer s H E hu C D Z =>
 (ba (cb 1 (ar (C 7 _ rfl) (aa (ar (C 6 _ rfl) (aa (ae 0) ag)) ag))) (ba (cb 2 (ak af (ak (ae 1) af))) (ba (cb 3 (ak af (ak (ak (ae 1) af) af))) (ba (tx (fg (ak (ak (ae 1) af) af) (jy hu .eq af)) (ba (cb 2 (ak af (ak (ak (ae 1) af) af))) (ba (cb 3 (ak af (ak (ak (ae 1) af) af))) eo)) eo) (ba (cb 4 (ar (C 8 _ rfl) (aa (ar (C 6 _ rfl) (aa (ae 0) ag)) (aa (ak af af) ag)))) (ba (cb 5 (ar (C 8 _ rfl) (aa (ar (C 6 _ rfl) (aa (ae 0) ag)) (aa (ak af af) ag)))) (ba (ip 6 ["left","days","k"] (xm (B 5 _ rfl) (ae 2)) (λ_ _ _ _=>⟨(ck 2),c9,(ar (C 9 _ rfl) (aa (ae 0) (aa (ae 1) ag)))⟩)) (ba (ia (fi (aa (ae 4) (aa (ae 5) (aa (c8 (B 3 _ rfl) (aa (ae 6) ag)) (aa (c8 (B 3 _ rfl) (aa (jg ["left","lamps","k"] (xm (B 5 _ rfl) (ae 3)) (λ_ _ _ _=>⟨(ck 2),c9,(ar (C 10 _ rfl) (aa (ae 0) (aa (ae 1) ag)))⟩)) ag)) ag)))))) eo))))))))
theorem Ss (B:∀(j:Nat) x,mm[j]? = some x->mg x=none) (xf:XF K mg):DerP GL P w K mg base ents fc eh e12:=uc λn fa cdv A outer s H E hu C D Z =>
 (ba (cb 3 (ak af (ak (ak (ae 0) af) (ak af af)))) (ba (ia (jn (j7 (aa (ak (ae 1) af) (aa (ak (ae 2) af) (aa (ak (ae 1) (ae 3)) (aa (ak (ae 2) (ak (ae 3) (ak af af))) ag))))) (ak (ae 0) af))) eo))
theorem Su (B:∀(j:Nat) x,mm[j]? = some x->mg x=none) (xf:XF K mg):DerP GL P w K mg base ents fc eh e13:=uc λn fa cdv A outer s H E hu C D Z =>
 (ba (ip 2 ["lamp"] (gf (jn (ae 0) af)) (λ_ _ _ _=>⟨(ck 0),c9,(kh (B 9 _ rfl) (aa (ae 0) ag))⟩)) (ba (ip 3 ["day"] (gf (jn (ae 0) af)) (λ_ _ _ _=>⟨(ck 0),c9,(kh (B 9 _ rfl) (aa (ae 0) ag))⟩)) (ba (cb 4 (j7 (aa (jn (ae 0) af) (aa (jn (ae 0) af) ag)))) (ba (cb 5 (ak (ae 1) af)) (ba (cb 6 (ak (ae 1) af)) (ba (tx (fg (ae 5) (jy hu .lt af)) (ba (om hu (ae 4) (ae 5) (ar (C 12 _ rfl) (aa (ae 6) (aa af (aa (ak af af) ag))))) eo) (ba (tx (fg (ae 5) (jy hu .eq af)) (ba (cb 7 (jn (ae 2) (ak (ak (ae 6) af) (bt (B 2 _ rfl) (aa (ae 2) ag))))) (ba (om hu (ae 7) af (ar (C 12 _ rfl) (aa (ae 6) (aa af (aa (ak af af) ag))))) (ba (om hu (ae 7) af (vo (B 4 _ rfl) (aa (jn (ae 7) af) (aa (Au (B 6 _ rfl) (aa af (aa (jn (ae 7) af) ag))) ag)))) eo))) (ba (tx (fg (ae 5) (jy hu .eq af)) (ba (cb 7 (jn (ae 2) (ak (ak (ae 6) af) (bt (B 2 _ rfl) (aa (ae 2) ag))))) (ba (om hu (ae 7) af (jn (j7 (aa (Ge af) (aa (ak (jn (ae 7) af) af) (aa (ak (Ge af) (ak (ae 6) (ak af af))) (aa (ak (ak (jn (ae 7) af) (ak (ae 6) af)) af) ag))))) (ak (ae 6) af))) eo)) (ba (cb 8 (jn (ae 3) (ak (ak (ae 6) af) (bt (B 2 _ rfl) (aa (ae 3) ag))))) (ba (cb 9 (ak (ak (ae 6) af) af)) (ba (cb 10 (jn (j7 (aa (ak af af) (aa (ak af af) (aa (ak af af) (aa (ak af af) (aa (bt (B 2 _ rfl) (aa (ae 2) ag)) ag)))))) (ae 9))) (ba (om hu (ae 8) (ae 9) (ar (C 12 _ rfl) (aa (ae 6) (aa (Gf (B 10 _ rfl) (aa (gc (ae 9) (gb hu .eq af)) ag)) (aa (ae 10) ag))))) eo))))) eo)) eo)) (ba (ia (fi (aa (jn (ae 4) af) (aa (jn (ae 4) af) (aa (jg ["lamp"] (gf (ae 2)) (λ_ _ _ _=>⟨(ck 0),c9,(c8 (B 3 _ rfl) (aa (ae 0) ag))⟩)) (aa (jg ["day"] (gf (ae 3)) (λ_ _ _ _=>⟨(ck 0),c9,(c8 (B 3 _ rfl) (aa (ae 0) ag))⟩)) ag)))))) eo)))))))
theorem Sv (B:∀(j:Nat) x,mm[j]? = some x->mg x=none) (xf:XF K mg):DerP GL P w K mg base ents fc eh e14:=uc λn fa cdv A outer s H E hu C D Z =>
 (ba (ip 2 ["lamp"] (gf (jn (ae 0) af)) (λ_ _ _ _=>⟨(ck 0),c9,(kh (B 9 _ rfl) (aa (ae 0) ag))⟩)) (ba (ip 3 ["day"] (gf (jn (ae 0) af)) (λ_ _ _ _=>⟨(ck 0),c9,(kh (B 9 _ rfl) (aa (ae 0) ag))⟩)) (ba (cb 4 (ak (ae 1) af)) (ba (cb 5 (jn (ae 2) (ak (ae 4) (bt (B 2 _ rfl) (aa (ae 2) ag))))) (ba (cb 6 (jn (ae 3) (ak (ae 4) (bt (B 2 _ rfl) (aa (ae 3) ag))))) (ba (cb 7 (ak (ae 1) af)) (ba (tx (fg (ae 7) (jy hu .eq af)) (ba (om hu (ae 5) af (jn (j7 (aa (fi (aa (bt (B 2 _ rfl) (aa (ae 3) ag)) ag)) (aa (fi (aa (Ge af) ag)) (aa (fi (aa af (aa af ag))) (aa (fi (aa (ak (bt (B 2 _ rfl) (aa (ae 3) ag)) af) (aa (bt (B 2 _ rfl) (aa (ae 3) ag)) ag))) ag))))) (ak (ak (ae 4) af) af))) eo) (ba (tx (fg (ae 7) (jy hu .eq af)) (ba (om hu (ae 5) af (ak (ak (kh (B 9 _ rfl) (aa (jn (ae 5) af) ag)) (Kx (j7 (aa (ak (bt (B 2 _ rfl) (aa (ae 3) ag)) af) (aa af ag))) Kv (Kw (ak af (ak (ak (ae 4) af) af))))) (j7 (aa af ag)))) eo) (ba (tx (fg (ae 7) (jy hu .eq af)) (ba (qu (vt (ae 5) (aa (fi ag) ag))) eo) (ba (tx (fg (ae 7) (jy hu .eq af)) (ba (qu (xn (ae 5))) eo) (ba (tx (fg (ae 7) (jy hu .eq af)) (ba (qu (vw (ae 6) (aa (ak (ak (ae 4) af) af) (aa af ag)))) eo) (ba (tx (fg (ae 7) (jy hu .eq af)) (ba (qu (C9 (ae 6) (aa (ak (ak (ae 4) af) af) ag))) eo) (ba (tx (fg (ae 7) (jy hu .eq af)) (ba (cb 2 (jn (j7 (aa (j7 ag) (aa (ak (Kx (ae 2) Kv (Kw af)) af) ag))) (ak (ak (ae 4) af) af))) eo) (ba (cb 3 (jn (j7 (aa (j7 ag) (aa (ak (Kx (ae 3) Kv (Kw af)) af) ag))) (ak (ak (ae 4) af) af))) eo)) eo)) eo)) eo)) eo)) eo)) eo)) (ba (ia (fi (aa (jn (ae 0) af) (aa (jn (ae 0) af) (aa (jg ["one"] (gf (ae 2)) (λ_ _ _ _=>⟨(ck 0),c9,(c8 (B 3 _ rfl) (aa (ae 0) ag))⟩)) (aa (jg ["one"] (gf (ae 3)) (λ_ _ _ _=>⟨(ck 0),c9,(c8 (B 3 _ rfl) (aa (ae 0) ag))⟩)) ag)))))) eo))))))))
theorem Sw (B:∀(j:Nat) x,mm[j]? = some x->mg x=none) (xf:XF K mg):DerP GL P w K mg base ents fc eh e15:=uc λn fa cdv A outer s H E hu C D Z =>
 (ba (cb 1 (j7 ag)) (ba (J7 xf (D 3 _ rfl) (aa (jn (ae 0) af) (aa (jn (ae 0) af) (aa (jn (ae 0) af) (aa (jn (ae 0) af) ag)))) λ_=>(ba (cb 1 (Gu ((Z 0 _ rfl).mark _) (aa (ae 2) ag))) eo)) (ba (ia (gc (ae 1) (gb hu .eq (j7 (aa Gc (aa Gc (aa Gc (aa Gc (aa Gc (aa Gc ag)))))))))) eo)))
theorem Sx (B:∀(j:Nat) x,mm[j]? = some x->mg x=none) (xf:XF K mg):DerP GL P w K mg base ents fc eh e16:=uc λn fa cdv A outer s H E hu C D Z =>
 (ba (cb 1 (Az (B 9 _ rfl) (B 11 _ rfl) (ae 0))) (ba (cb 2 (ar (C 7 _ rfl) (aa (ar (C 6 _ rfl) (aa (ae 1) ag)) ag))) (ba (cb 3 (ar (C 11 _ rfl) (aa (ae 1) ag))) (ba (ip 4 ["left","k"] (xm (B 5 _ rfl) af) (λ_ _ _ _=>⟨(ck 1),c9,(ar (C 6 _ rfl) (aa (ae 0) ag))⟩)) (ba (My (gf (ae 4)) (ck 5) (ba (cb 2 (ak (ae 2) (ar (C 7 _ rfl) (aa (ae 5) ag)))) (ba (tx (Rc (Mx (xk (qt (ar (C 15 _ rfl) (aa (ar (C 13 _ rfl) (aa (ae 3) (aa (ae 2) ag))) ag)))) (Jy (xk (qt (ar (C 15 _ rfl) (aa (ar (C 14 _ rfl) (aa (ae 3) (aa (ae 2) ag))) ag))))))) (ba (ia Gc) eo) eo) eo))) (ba (cb 6 (fi (aa (ak af af) (aa (ak af af) (aa (ak af af) (aa (ak af af) (aa af ag))))))) (ba (cb 7 (fi (aa (ak af af) (aa (ak af af) (aa (fi (aa (fi (aa (ak af af) (aa (ak af af) (aa (fi (aa af (aa af ag))) ag)))) ag)) (aa (fi (aa (ae 6) (aa (fi (aa af (aa af (aa af (aa af (aa af ag)))))) ag))) ag)))))) (ba (ia (gc (ar (C 5 _ rfl) (aa (jn (ae 7) af) (aa (jn (ae 7) af) (aa (jn (ae 7) af) (aa (jn (ae 7) af) ag))))) (gb hu .eq (ae 7)))) eo))))))))
theorem dx0 (B:∀(j:Nat) x,mm[j]? = some x->mg x=none) (xf:XF K mg):DerX GL P w K mg base ents fc eh x0:=Ky λn fa cdv A outer s H E hu C D Z W =>
 (c0 (Rf (xk (qt (ae 0))) (c0 (Gs xf W (aa (ae 1) ag)) yr) yr) yr)
theorem dx1 (B:∀(j:Nat) x,mm[j]? = some x->mg x=none) (xf:XF K mg):DerX GL P w K mg base ents fc eh x1:=Ky λn fa cdv A outer s H E hu C D Z W =>
 (c0 (dq W (D 0 _ rfl) (aa (gc (bt (B 2 _ rfl) (aa (ae 0) ag)) (gb hu .eq af)) (aa dw ag))) (c0 (Ox (C7 (tw (cz 2 (cz 3 (cz 4 tv)))) (ae 0))) (c0 (dq W (D 0 _ rfl) (aa (ar (C 1 _ rfl) (aa (ae 2) ag)) (aa dw ag))) (c0 (dq W (D 0 _ rfl) (aa (gc af (vn hu .le (ae 3) (gb hu .le (ae 2)))) (aa dw ag))) (c0 (dq W (D 0 _ rfl) (aa (vq (B 1 _ rfl) (aa (jg ["many_days","day"] (gf (ae 4)) (λ_ _ _ _=>⟨(ck 1),c9,(gc af (vn hu .le (ae 1) (gb hu .lt (ae 0))))⟩)) ag)) (aa dw ag))) (c0 (dq W (D 0 _ rfl) (aa (ar (C 2 _ rfl) (aa (ae 4) ag)) (aa dw ag))) (c0 (Gr (fi (aa (ae 2) (aa (ae 3) (aa (c8 (B 3 _ rfl) (aa (ae 4) ag)) ag))))) yr)))))))
theorem dx2 (B:∀(j:Nat) x,mm[j]? = some x->mg x=none) (xf:XF K mg):DerX GL P w K mg base ents fc eh x2:=Ky λn fa cdv A outer s H E hu C D Z W =>
 (c0 (dq W (D 0 _ rfl) (aa (gc (bt (B 2 _ rfl) (aa (ae 0) ag)) (gb hu .eq af)) (aa dw ag))) (c0 (Ox (C7 (tw (cz 2 (cz 3 (cz 4 (cz 5 (cz 6 tv)))))) (ae 0))) (c0 (dq W (D 0 _ rfl) (aa (ar (C 1 _ rfl) (aa (ae 2) ag)) (aa dw ag))) (c0 (dq W (D 0 _ rfl) (aa (ar (C 1 _ rfl) (aa (ae 3) ag)) (aa dw ag))) (c0 (dq W (D 0 _ rfl) (aa (gc af (vn hu .le (ae 4) (gb hu .le (ak af af)))) (aa dw ag))) (c0 (dq W (D 0 _ rfl) (aa (gc af (vn hu .le (ae 5) (gb hu .le (ak af af)))) (aa dw ag))) (c0 (dq W (D 0 _ rfl) (aa (gc af (vn hu .le (ae 6) (gb hu .le (ae 1)))) (aa dw ag))) (c0 (Gr (fi (aa (ae 2) (aa (ae 3) (aa (ae 4) (aa (ae 5) (aa (ae 6) ag))))))) yr))))))))
theorem dx3 (B:∀(j:Nat) x,mm[j]? = some x->mg x=none) (xf:XF K mg):DerX GL P w K mg base ents fc eh x3:=Ky λn fa cdv A outer s H E hu C D Z W =>
 (c0 (dq W (D 0 _ rfl) (aa (ar (C 1 _ rfl) (aa (ae 0) ag)) (aa dw ag))) (c0 (dq W (D 0 _ rfl) (aa (ar (C 1 _ rfl) (aa (ae 1) ag)) (aa dw ag))) (c0 (dq W (D 0 _ rfl) (aa (gc af (vn hu .le (bt (B 2 _ rfl) (aa (ae 2) ag)) (gb hu .le af))) (aa dw ag))) (c0 (dq W (D 0 _ rfl) (aa (gc af (vn hu .le (bt (B 2 _ rfl) (aa (ae 3) ag)) (gb hu .le af))) (aa dw ag))) (c0 (Eh 4 ["days","lamp"] W (D 1 _ rfl) (B 3 _ rfl) (gf (ae 2)) (λ_ _ _ _=>⟨(ck 1),(aa (ae 1) (aa (bt (B 2 _ rfl) (aa (ae 0) ag)) ag)),rfl,rfl,rfl⟩)) (c0 (Eh 5 ["lamps","day"] W (D 2 _ rfl) (B 3 _ rfl) (gf (ae 3)) (λ_ _ _ _=>⟨(ck 1),(aa (ae 1) (aa (bt (B 2 _ rfl) (aa (ae 0) ag)) ag)),rfl,rfl,rfl⟩)) (c0 (Gr (fi (aa (ae 0) (aa (ae 1) (aa (ae 4) (aa (ae 5) ag)))))) yr)))))))
theorem dq0 (B:∀(j:Nat) x,mm[j]? = some x->mg x=none) (xf:XF K mg):DerQ GL P w K mg base eh q0:=Rg λn fa cdv A outer s H E hu Z =>
 (ba (cb 1 (j7 (aa (ua xf (B 7 _ rfl) (ae 0)) (aa (ua xf (B 7 _ rfl) (ae 0)) (aa (ua xf (B 7 _ rfl) (ae 0)) (aa (ua xf (B 7 _ rfl) (ae 0)) ag)))))) (ba (ia (ak (ae 1) (j7 (aa (ua xf (B 7 _ rfl) (ae 0)) (aa (J8 xf (B 7 _ rfl) (B 8 _ rfl) (ae 0)) ag))))) eo))
theorem dvs (B:∀(j:Nat) x,mm[j]? = some x->mg x=none) (xf:XF K mg):∀(j:Nat) e,ents[j]? = some e->DerP GL P w K mg base ents fc eh e:=(Lp.cg (dv0 B xf) (Lp.cg (dv1 B xf) (Lp.cg (dv2 B xf) (Lp.cg (dv3 B xf) (Lp.cg (dv4 B xf) (Lp.cg (dv5 B xf) (Lp.cg (dv6 B xf) (Lp.cg (dv7 B xf) (Lp.cg (dv8 B xf) (Lp.cg (dv9 B xf) (Lp.cg (So B xf) (Lp.cg (Sr B xf) (Lp.cg (Ss B xf) (Lp.cg (Su B xf) (Lp.cg (Sv B xf) (Lp.cg (Sw B xf) (Lp.cg (Sx B xf) Lp.Dh)))))))))))))))))
theorem dxs (B:∀(j:Nat) x,mm[j]? = some x->mg x=none) (xf:XF K mg):∀(j:Nat) e,fc[j]? = some e->DerX GL P w K mg base ents fc eh e:=(Lp.cg (dx0 B xf) (Lp.cg (dx1 B xf) (Lp.cg (dx2 B xf) (Lp.cg (dx3 B xf) Lp.Dh))))
theorem dqs (B:∀(j:Nat) x,mm[j]? = some x->mg x=none) (xf:XF K mg):∀(j:Nat) e,eh[j]? = some e->DerQ GL P w K mg base eh e:=(Lp.cg (dq0 B xf) Lp.Dh)
end
end Lp.Law
open PySem PySem.W PyProof.Rows Lp.Law
open Lp (ModOf)
set_option maxHeartbeats 0 in
theorem PySem.Challenge.cw_lamprota_k02_books_refused_holds : PySem.Challenge.rw_lamprota_k02_books_refused.Holds := by
 w_on;o_law;k_head;(case hw=>w_witness2)
 k_fill
 refine Lp.C3 (l:=PySem.Challenge.rw_lamprota_k02_books_refused) (n:=6) ⟨rfl,by decide,by decide⟩ rfl rfl (λw h Y=>PySem.W.kIn_of Y) ?F
 case F =>
  intro w mg fa h KX G hmg
  have m0:ModOf (L2.KOf KX) mg e0:=by
   dsimp only[L2.KOf]
   refine' Lp.di (e:=e0) KX G ?a ?l ?c ?k λ_ _ _ _ _ _=>ar2 λ_ _=>rfl
   all_goals try dsimp only[e0]
   (case a=>k_is);(case l=>k_is);(case c=>k_is);(case k=>k_is)
  have m1:ModOf (L2.KOf KX) mg e1:=by
   dsimp only[L2.KOf]
   refine' Lp.di (e:=e1) KX G ?a ?l ?c ?k λ_ _ _ _ _ _=>ar1 λ_=>rfl
   all_goals try dsimp only[e1]
   (case a=>k_is);(case l=>k_is);(case c=>k_is);(case k=>k_is)
  have m2:ModOf (L2.KOf KX) mg e2:=by
   dsimp only[L2.KOf]
   refine' Lp.di (e:=e2) KX G ?a ?l ?c ?k λ_ _ _ _ _ _=>ar1 λ_=>rfl
   all_goals try dsimp only[e2]
   (case a=>k_is);(case l=>k_is);(case c=>k_is);(case k=>k_is)
  have m3:ModOf (L2.KOf KX) mg e3:=by
   dsimp only[L2.KOf]
   refine' Lp.di (e:=e3) KX G ?a ?l ?c ?k λ_ _ _ _ _ _=>ar2 λ_ _=>rfl
   all_goals try dsimp only[e3]
   (case a=>k_is);(case l=>k_is);(case c=>k_is);(case k=>k_is)
  have m4:ModOf (L2.KOf KX) mg e4:=by
   dsimp only[L2.KOf]
   refine' Lp.di (e:=e4) KX G ?a ?l ?c ?k λ_ _ _ _ _ _=>ar2 λ_ _=>rfl
   all_goals try dsimp only[e4]
   (case a=>k_is);(case l=>k_is);(case c=>k_is);(case k=>k_is)
  have m5:ModOf (L2.KOf KX) mg e5:=by
   dsimp only[L2.KOf]
   refine' Lp.di (e:=e5) KX G ?a ?l ?c ?k λ_ _ _ _ _ _=>ar4 λ_ _ _ _=>rfl
   all_goals try dsimp only[e5]
   (case a=>k_is);(case l=>k_is);(case c=>k_is);(case k=>k_is)
  have m6:ModOf (L2.KOf KX) mg e6:=by
   dsimp only[L2.KOf]
   refine' Lp.di (e:=e6) KX G ?a ?l ?c ?k λ_ _ _ _ _ _=>ar1 λ_=>rfl
   all_goals try dsimp only[e6]
   (case a=>k_is);(case l=>k_is);(case c=>k_is);(case k=>k_is)
  have m7:ModOf (L2.KOf KX) mg e7:=by
   dsimp only[L2.KOf]
   refine' Lp.di (e:=e7) KX G ?a ?l ?c ?k λ_ _ _ _ _ _=>ar1 λ_=>rfl
   all_goals try dsimp only[e7]
   (case a=>k_is);(case l=>k_is);(case c=>k_is);(case k=>k_is)
  have m8:ModOf (L2.KOf KX) mg e8:=by
   dsimp only[L2.KOf]
   refine' Lp.di (e:=e8) KX G ?a ?l ?c ?k λ_ _ _ _ _ _=>ar2 λ_ _=>rfl
   all_goals try dsimp only[e8]
   (case a=>k_is);(case l=>k_is);(case c=>k_is);(case k=>k_is)
  have m9:ModOf (L2.KOf KX) mg e9:=by
   dsimp only[L2.KOf]
   refine' Lp.di (e:=e9) KX G ?a ?l ?c ?k λ_ _ _ _ _ _=>ar2 λ_ _=>rfl
   all_goals try dsimp only[e9]
   (case a=>k_is);(case l=>k_is);(case c=>k_is);(case k=>k_is)
  have m10:ModOf (L2.KOf KX) mg e10:=by
   dsimp only[L2.KOf]
   refine' Lp.di (e:=e10) KX G ?a ?l ?c ?k λ_ _ _ _ _ _=>ar2 λ_ _=>rfl
   all_goals try dsimp only[e10]
   (case a=>k_is);(case l=>k_is);(case c=>k_is);(case k=>k_is)
  have m11:ModOf (L2.KOf KX) mg e11:=by
   dsimp only[L2.KOf]
   refine' Lp.di (e:=e11) KX G ?a ?l ?c ?k λ_ _ _ _ _ _=>ar1 λ_=>rfl
   all_goals try dsimp only[e11]
   (case a=>k_is);(case l=>k_is);(case c=>k_is);(case k=>k_is)
  have m12:ModOf (L2.KOf KX) mg e12:=by
   dsimp only[L2.KOf]
   refine' Lp.di (e:=e12) KX G ?a ?l ?c ?k λ_ _ _ _ _ _=>ar3 λ_ _ _=>rfl
   all_goals try dsimp only[e12]
   (case a=>k_is);(case l=>k_is);(case c=>k_is);(case k=>k_is)
  have m13:ModOf (L2.KOf KX) mg e13:=by
   dsimp only[L2.KOf]
   refine' Lp.di (e:=e13) KX G ?a ?l ?c ?k λ_ _ _ _ _ _=>ar2 λ_ _=>rfl
   all_goals try dsimp only[e13]
   (case a=>k_is);(case l=>k_is);(case c=>k_is);(case k=>k_is)
  have m14:ModOf (L2.KOf KX) mg e14:=by
   dsimp only[L2.KOf]
   refine' Lp.di (e:=e14) KX G ?a ?l ?c ?k λ_ _ _ _ _ _=>ar2 λ_ _=>rfl
   all_goals try dsimp only[e14]
   (case a=>k_is);(case l=>k_is);(case c=>k_is);(case k=>k_is)
  have m15:ModOf (L2.KOf KX) mg e15:=by
   dsimp only[L2.KOf]
   refine' Lp.di (e:=e15) KX G ?a ?l ?c ?k λ_ _ _ _ _ _=>ar1 λ_=>rfl
   all_goals try dsimp only[e15]
   (case a=>k_is);(case l=>k_is);(case c=>k_is);(case k=>k_is)
  have m16:ModOf (L2.KOf KX) mg e16:=by
   dsimp only[L2.KOf]
   refine' Lp.di (e:=e16) KX G ?a ?l ?c ?k λ_ _ _ _ _ _=>ar1 λ_=>rfl
   all_goals try dsimp only[e16]
   (case a=>k_is);(case l=>k_is);(case c=>k_is);(case k=>k_is)
  have n0:ModOf (L2.KOf KX) mg x0:=by
   dsimp only[L2.KOf]
   refine' Lp.di (e:=x0) KX G ?a ?l ?c ?k λ_ _ _ _ _ _=>ar2 λ_ _=>rfl
   all_goals try dsimp only[x0]
   (case a=>k_is);(case l=>k_is);(case c=>k_is);(case k=>k_is)
  have n1:ModOf (L2.KOf KX) mg x1:=by
   dsimp only[L2.KOf]
   refine' Lp.di (e:=x1) KX G ?a ?l ?c ?k λ_ _ _ _ _ _=>ar2 λ_ _=>rfl
   all_goals try dsimp only[x1]
   (case a=>k_is);(case l=>k_is);(case c=>k_is);(case k=>k_is)
  have n2:ModOf (L2.KOf KX) mg x2:=by
   dsimp only[L2.KOf]
   refine' Lp.di (e:=x2) KX G ?a ?l ?c ?k λ_ _ _ _ _ _=>ar2 λ_ _=>rfl
   all_goals try dsimp only[x2]
   (case a=>k_is);(case l=>k_is);(case c=>k_is);(case k=>k_is)
  have n3:ModOf (L2.KOf KX) mg x3:=by
   dsimp only[L2.KOf]
   refine' Lp.di (e:=x3) KX G ?a ?l ?c ?k λ_ _ _ _ _ _=>ar4 λ_ _ _ _=>rfl
   all_goals try dsimp only[x3]
   (case a=>k_is);(case l=>k_is);(case c=>k_is);(case k=>k_is)
  have o0:ModOf (L2.KOf KX) mg q0:=by
   dsimp only[L2.KOf]
   refine' Lp.di (e:=q0) KX G ?a ?l ?c ?k λ_ _ _ _ _ _=>ar1 λ_=>rfl
   all_goals try dsimp only[q0]
   (case a=>k_is);(case l=>k_is);(case c=>k_is);(case k=>k_is)
  have xf:Lp.XF (L2.KOf KX) mg:=by
   dsimp only[L2.KOf]
   refine' Lp.Mz KX G ?n0 ?n1 ?n2 ?n3 ?n4 ?n5 ?l ?c1 ?c2 ?c3 ?c4
   (case n0=>k_is);(case n1=>k_is);(case n2=>k_is);(case n3=>k_is);(case n4=>k_is);(case n5=>k_is);(case l=>kernel_rfl)
   (case c1=>exact⟨⟨by k_is,by k_is,by k_is,by k_is,by k_is⟩,by kernel_rfl,by k_is,by kernel_rfl,by kernel_rfl,by kernel_rfl,by kernel_rfl,by kernel_rfl,by kernel_rfl,by kernel_rfl⟩);(case c2=>exact⟨⟨by k_is,by k_is,by k_is,by k_is,by k_is⟩,by kernel_rfl,by k_is,by kernel_rfl,by kernel_rfl,by kernel_rfl,by kernel_rfl,by kernel_rfl,by kernel_rfl,by kernel_rfl⟩);(case c3=>exact⟨⟨by k_is,by k_is,by k_is,by k_is,by k_is⟩,by kernel_rfl,by k_is,by kernel_rfl,by kernel_rfl,by kernel_rfl,by kernel_rfl,by kernel_rfl,by kernel_rfl,by kernel_rfl⟩);(case c4=>exact⟨⟨by k_is,by k_is,by k_is,by k_is,by k_is⟩,by kernel_rfl,by k_is,by kernel_rfl,by kernel_rfl,by kernel_rfl,by kernel_rfl,by kernel_rfl,by kernel_rfl,by kernel_rfl⟩)
  have b0:mg "zip"=none:=BL KX G (by k_is)
  have b1:mg "all"=none:=BL KX G (by k_is)
  have b2:mg "len"=none:=BL KX G (by k_is)
  have b3:mg "tuple"=none:=BL KX G (by k_is)
  have b4:mg "min"=none:=BL KX G (by k_is)
  have b5:mg "range"=none:=BL KX G (by k_is)
  have b6:mg "max"=none:=BL KX G (by k_is)
  have b7:mg "isinstance"=none:=BL KX G (by k_is)
  have b8:mg "ValueError"=none:=BL KX G (by k_is)
  have b9:mg "list"=none:=BL KX G (by k_is)
  have b10:mg "int"=none:=BL KX G (by k_is)
  have b11:mg "reversed"=none:=BL KX G (by k_is)
  exact Lp.Dn (T:=Lp.GL) (es:=ents) (xs:=fc) (qs:=eh) (n:=6) (j:=16) (e:=e16) (Lp.cg m0 (Lp.cg m1 (Lp.cg m2 (Lp.cg m3 (Lp.cg m4 (Lp.cg m5 (Lp.cg m6 (Lp.cg m7 (Lp.cg m8 (Lp.cg m9 (Lp.cg m10 (Lp.cg m11 (Lp.cg m12 (Lp.cg m13 (Lp.cg m14 (Lp.cg m15 (Lp.cg m16 Lp.Dh))))))))))))))))) (Lp.cg n0 (Lp.cg n1 (Lp.cg n2 (Lp.cg n3 Lp.Dh)))) (Lp.cg o0 Lp.Dh) (λbase=>dvs (Lp.cg b0 (Lp.cg b1 (Lp.cg b2 (Lp.cg b3 (Lp.cg b4 (Lp.cg b5 (Lp.cg b6 (Lp.cg b7 (Lp.cg b8 (Lp.cg b9 (Lp.cg b10 (Lp.cg b11 Lp.Dh)))))))))))) xf) (λbase=>dxs (Lp.cg b0 (Lp.cg b1 (Lp.cg b2 (Lp.cg b3 (Lp.cg b4 (Lp.cg b5 (Lp.cg b6 (Lp.cg b7 (Lp.cg b8 (Lp.cg b9 (Lp.cg b10 (Lp.cg b11 Lp.Dh)))))))))))) xf) (λbase=>dqs (Lp.cg b0 (Lp.cg b1 (Lp.cg b2 (Lp.cg b3 (Lp.cg b4 (Lp.cg b5 (Lp.cg b6 (Lp.cg b7 (Lp.cg b8 (Lp.cg b9 (Lp.cg b10 (Lp.cg b11 Lp.Dh)))))))))))) xf) rfl hmg rfl (λns hn=>Lr.Ob ns)
