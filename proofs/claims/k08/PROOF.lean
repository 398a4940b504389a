import PyProof.Rows.All
import Wide.All
import OpenK.AllK
import Wide.FinOn
import Lean
import PyProof.EqAt
import PyProof.EqKinds
import PyProof.TupleCall
import PySem.Syntax
import PyProof.Rows.ZipGen
import PyProof.EnumMake
import PyProof.EnumFor
import PyProof.Rows.EnumRows
import PyProof.DictValues
import KE.KSortTup
import PyProof.Rows.SetFrom
import PyProof.WalksMore
import PyProof.FactsAll.set
import PyProof.ForAny
import PyProof.CollectWalk
import PyProof.ListRange
import PyProof.Rows.SortShell
import PyProof.AttrMissHeap
import PySem.Challenge.RW_lamprota_k08_first_faults
noncomputable section
local macro_rules | `(tactic| simp! [$ls,*] $[$l:location]?) => `(tactic| simp only [$ls,*] $[$l]?)
open PySem renaming wpAny_bind -> AA, wpAny_pure -> AE, wpAny_setField_rec -> BK, wpAny_callSpecial?_slot -> BO, wpAny_call_entry -> BP, wpAny_newObj_type -> BZ, wpAny_field -> CD, wpAny_holding -> CP, sizeLine_eq -> Db, wpAny_seqItems -> DG, wpAny_loadPart' -> DI, wpAny_truthy_bool -> DO, codeAny_builtin -> DT, wpAny_Call_Name_kw -> DX, wpAny_isInstance -> EH, wpAny_mono -> EJ, wpAny_pyIter_tuple -> EK, wpAny_setState_of -> ER, plainId_quiet -> ET, wpAny_attempt -> EU, mem_of_lookup -> EV, wpAny_setEntries_of -> EW, wpAny_askSetting -> FB, wpAny_typeOf -> FE, wpAny_ite_split -> FK, builtinLookup_eq_fast -> FO, call_meets -> FT, wpAny_rule -> FU, isSubtype_type -> FV, wpAny_passesOwn -> GF, tupleKind_room_in1 -> GJ, codeAny_mono -> GO, richCompare_meets_room -> GP, wpAny_updateSeq_pair -> HK, typeLookup_type -> HQ, wpAny_newTuple -> If, isSubtype_stop -> Ix, wpAny_fieldsOf -> IC, wpAny_pyIter_list -> IM, wpAny_letGo -> IN, wpAny_of_eq -> IP, wpAny_pyIter_slot -> IQ, wpAny_onRaise -> IS, wpAny_newList -> IV, wpAny_eqBool_int -> IX, wpAny_forIn_list -> IY, noFill_tuple_add -> IZ, wpAny_specialOf -> JT, wpAny_updateSeq -> JU
open List renaming getElem?_eq_getElem -> AB, length_map -> AD, getElem?_eq_some_iff -> AF, size_toArray -> AG, mem_cons_of_mem -> AH, mem_cons -> AL, all_eq_true -> AN, prefix_refl -> AO, mem_cons_self -> AQ, map_cons -> AR, mem_map -> AU, getElem?_append_left -> AV, getElem?_map -> AW, map_map -> AY, getElem?_eq_none -> AZ, all_cons -> BB, mem_of_getElem? -> BD, getD_eq_getElem?_getD -> BF, not_mem_nil -> BI, getElem?_append_right -> BQ, getElem?_set_ne -> BR, mem_iff_getElem -> BS, length_append -> BU, length_cons -> BV, pairwise_cons -> BW, map_append -> BX, take_of_length_le -> BY, ext_getElem? -> CA, getElem_mem -> CB, mem_append_right -> CC, map_congr_left -> CF, mem_append -> CM, nil_prefix -> CN, mem_range -> CO, getElem?_set_self -> CT, mem_singleton -> CV, length_nil -> CW, replicate_succ -> CY, append_assoc -> Da, any_cons -> Do, all_map -> DA, getElem?_zip_eq_some -> DC, pairwise_iff_getElem -> DD, length_range -> DE, sum_cons -> DH, map_nil -> DJ, any_eq_true -> DM, take_add_one -> DQ, nodup_cons -> DS, drop_eq_getElem_cons -> DU, zip_cons_cons -> DY, all_nil -> Ev, getElem?_replicate -> EA, getElem?_cons_zero -> EB, cons_append -> EG, countP_cons -> EI, mem_or_eq_of_mem_set -> EM, sum_append -> EN, length_take -> EX, length_eq_zero_iff -> EY, lookup_cons -> EZ, getElem?_cons_succ -> FC, set_cons_zero -> FG, set_cons_succ -> FH, find?_cons -> FI, length_singleton -> FM, flatten_cons -> FR, length_eraseIdx -> FW, mem_filter -> GD, append_nil -> GG, forIn_cons -> GH, zip_nil_right -> GI, range_succ_eq_map -> GS, getElem_take -> GV, any_eq_false -> GX, eraseIdxIfInBounds_toArray -> GY, getElem?_toArray -> HA, drop_length -> HC, map_reverse -> HF, mem_append_left -> HJ, take_append_of_le_length -> HL, of_mem_zip -> HN, nil_append -> HP, filterMap_cons -> HU, toList_toArray -> HV, map_set -> HX, prefix_append -> IA, zip_nil_left -> II, reverse_cons -> IJ, nodup_append -> IL, getElem?_take_of_lt -> IR, map_take -> IW, eraseIdx_cons_succ -> JA, getElem_map -> JF, pairwise_lt_range -> JM, drop_eq_nil_of_le -> JN, length_set -> JP, foldl_cons -> JQ, length_replicate -> JX, dropLast_eq_take -> JY, countP_mono_left -> KA, length_filter_le -> KD, set_append_right -> KE, map_drop -> KJ, any_map -> KO
open PySem.Heap renaming get?_push_of_some -> AC, get?_push_size -> AJ, lt_size -> AM, size_push -> DF, get?_update_ne -> DR, get?_update_self -> DV, get?_update_other -> GR, size_update -> JE
open Nat renaming le_refl -> AI, ne_of_lt -> AT, lt_of_lt_of_le -> AX, le_trans -> CL, zero_le -> CS, ne_of_gt -> CU, lt_irrefl -> DN, lt_succ_of_lt -> DP, le_succ_of_le -> EC, le_succ -> EF, le_of_lt -> FD, lt_succ_self -> HD, le_add_right -> JD, sub_self -> JO
open Bool renaming false_eq_true -> AS, false_ne_true -> BA, and_eq_true -> BC, and_true -> FL, beq_eq_decide_eq -> FN, and_self -> GA, true_and -> GC, not_true -> HI, not_false -> IF, or_false -> KH
open PySem.W renaming mg_none_of -> BH, kia_one -> FJ, cellsFrom_some -> JJ
open Array renaming length_toList -> BJ, getElem?_toList -> CZ, getElem?_eq_getElem -> DB, getElem?_eq_none -> GU, perm_iff_toList_perm -> IB, toArray_toList -> KG
open Int renaming emod_nonneg -> BL, emod_lt_of_pos -> BM, toNat_natCast -> CI, le_refl -> GM, emod_eq_of_lt -> GW, fdiv_eq_ediv_of_nonneg -> HZ
open Option.some renaming injEq -> BN, inj -> CH
open Classical renaming byContradiction -> CG, not_not -> CQ
open PyProof.Rows renaming callWith_type1 -> CJ, slot_tuple_getitem -> CK, listItems_at -> DK, boot_sorted -> GB, callWith_builtin1 -> HB, listUpdate_at -> IU, boot_list -> JL, get?_update_seq -> JV, entry_list_sort -> JW, boot_min -> JZ
open PySem.F renaming called_set -> DL, slot_tuple_iterator_next -> EL, slot_enumerate_next -> FP, plainAttrs_list -> FS, args_tuple_add_2 -> Gt, entry_tuple_add -> GK, slot_tuple_add -> GQ, slot_dict_get -> GZ, slot_dict_valueiterator_iter -> HE, args_tuple_iterator_next_1 -> HR, slot_zip_next -> HS, entry_tuple_iterator_next -> HW, plain_extend_loop -> IH, slot_dict_values -> IT, args_dict_get_3 -> JB, plainAttrs_dict -> JC, plain_list_iadd -> JG, entry_dict_get -> JK, slot_list_pop -> JR, plain_set_new -> KB, slot_set_iter -> KC
open PySem.Calls renaming spliced_cons -> DW, spliced_nil -> EO, callWith_builtin -> FF, call_function_entry -> FY, Name_function_global -> HY, evalArgs_plain -> KF
open Option renaming isSome_iff_exists -> DZ, map_eq_some_iff -> ED, getD_some -> FA, bind_some -> FX, ne_none_iff_exists' -> IG, isSome_map -> IK, map_some -> JS
open PySem.Paired renaming length -> EE
open PySem.Around renaming under_plainId -> ES
open PySem.Heap.SameBut renaming update -> FZ
open PySem.AutoSeq1 renaming sub_tuple_tuple -> Go
open PyProof.Rows.F renaming plain_set_update_loop -> GN
open Prod.mk renaming injEq -> HG
open PySem.MeetsSeq renaming plain_remove_loop -> ID, entry_remove_loop -> IE
open PySem.MeetsSeq3 renaming plain_eq_loop -> JH, entry_eq_loop -> JI
open PySem.Moved renaming eq_with -> KI
open PySem.SeqAt.EqAt renaming int_str -> KL, str_int -> KM, int_int -> KN
set_option Elab.async false
set_option linter.all false
set_option maxRecDepth 100000
namespace L2
open PySem PySem.Spec PyProof.Rows
abbrev Key:=Sum Int Str
def Gs:Key->Value->Bool
 | .inl k,v=>Value.isInt k v
 | .inr x,v=>Value.isStrOf x v
def ab2 (w:World):Key->Int
 | .inl k=>hashInt k
 | .inr x=>hashStr w x
theorem fc:∀{k:Key} {v:Value},Gs k v=true->(∃i t,k=Sum.inl i/\v=Value.int i t)\/(∃x t,k=Sum.inr x/\v=Value.str x t)
 | .inl i,v,h=>by
  obtain⟨t,e⟩:=Value.isInt_shape (k:=i) (v:=v) h
  exact .inl ⟨i,t,rfl,e⟩
 | .inr x,v,h=>by
  obtain⟨t,e⟩:=Value.isStrOf_shape (x:=x) (v:=v) h
  exact .inr ⟨x,t,rfl,e⟩
theorem Im (i:Int) (t:Tok):Gs (.inl i) (.int i t)=true:=by simp[Gs,Value.isInt]
theorem Io (x:Str) (t:Tok):Gs (.inr x) (.str x t)=true:=by simp[Gs,Value.isStrOf]
theorem Vc (a b:Int):decide ((Sum.inl a:Key)=Sum.inl b)=(a==b):=by
 by_cases e:a=b
 ·subst e;simp
 ·have h:¬(Sum.inl a:Key)=Sum.inl b:=λq=>e (Sum.inl.inj q)
  rw[decide_eq_false h]
  exact(beq_eq_false_iff_ne.mpr e).symm
theorem Vd (a b:Str):decide ((Sum.inr a:Key)=Sum.inr b)=decide (a=b):=by
 by_cases e:a=b
 ·subst e;simp
 ·have h:¬(Sum.inr a:Key)=Sum.inr b:=λq=>e (Sum.inr.inj q)
  rw[decide_eq_false h,decide_eq_false e]
theorem Ve (a:Int) (b:Str):decide ((Sum.inl a:Key)=Sum.inr b)=false:=decide_eq_false (λq=>nomatch q)
theorem Vf (a:Str) (b:Int):decide ((Sum.inr a:Key)=Sum.inl b)=false:=decide_eq_false (λq=>nomatch q)
def dm (prog:Program) (w:World):PySem.KeyKind prog w Key where
 is:=Gs
 hash:=ab2 w
 inj:=λv a b ha hb=>by
  rcases fc ha with⟨i,t,rfl,rfl⟩ | ⟨x,t,rfl,rfl⟩
  ·rcases fc hb with⟨j,u,rfl,e⟩ | ⟨y,u,rfl,e⟩
   ·injection e with e1 _;rw[e1]
   ·exact nomatch e
  ·rcases fc hb with⟨j,u,rfl,e⟩ | ⟨y,u,rfl,e⟩
   ·exact nomatch e
   ·injection e with e1 _;rw[e1]
 byValue:=λk v h=>by
  rcases fc h with⟨i,t,rfl,rfl⟩ | ⟨x,t,rfl,rfl⟩<;>rfl
 pyHash:=λhv h=>by
  rcases fc hv with⟨i,t,rfl,rfl⟩ | ⟨x,t,rfl,rfl⟩
  ·exact wpAny_pyHash_int h
  ·exact wpAny_pyHash_str h
 eqBool:=λhu hv h=>by
  rcases fc hu with⟨i,t,rfl,rfl⟩ | ⟨x,t,rfl,rfl⟩
  ·rcases fc hv with⟨j,u,rfl,rfl⟩ | ⟨y,u,rfl,rfl⟩
   ·rw[Vc]at h;exact IX h
   ·rw[Ve]at h;exact KL i t y u _ _ _ _ h
  ·rcases fc hv with⟨j,u,rfl,rfl⟩ | ⟨y,u,rfl,rfl⟩
   ·rw[Vf]at h;exact KM x t j u _ _ _ _ h
   ·rw[Vd]at h;exact wpAny_eqBool_str h
 «strs»:=λk x t v h=>by
  rcases fc h with⟨i,u,rfl,e⟩ | ⟨y,u,rfl,e⟩
  ·exact nomatch e
  ·injection e with e1 _
   subst e1
   cases v<;>rfl
theorem Cz (prog:Program) (w:World) (i:Int) (t:Tok):(dm prog w).is (.inl i) (.int i t)=true:=Im i t
theorem C0 (prog:Program) (w:World) (x:Str) (t:Tok):(dm prog w).is (.inr x) (.str x t)=true:=Io x t
inductive V where
 | non | bl (b:Bool) | int (i:Int) | str (x:Str) | byt (b:Array UInt8) | flt (b:UInt64) | ref (a:Addr) | ty (n:String)
 deriving DecidableEq
def RelV:V->Value->Prop
 | .non,u=>u=Value.none
 | .bl b,u=>u=Value.bool b
 | .int i,u=>∃t,u=Value.int i t
 | .str x,u=>∃t,u=Value.str x t
 | .byt b,u=>∃t,u=Value.bytes b t
 | .flt b,u=>∃t,u=Value.float b t
 | .ref a,u=>u=Value.ref a
 | .ty n,u=>u=Value.type n
abbrev cz:List V->List Value->Prop:=Paired RelV
theorem cz.length {xs:List V} {us:List Value} (r:cz xs us):xs.length=us.length:=EE r
theorem cz.get:∀{xs:List V} {us:List Value} {i:Nat} {x:V},cz xs us->xs[i]? = some x->∃u,us[i]? = some u/\RelV x u
 | _,_,_,_,.nil,e=>by simp at e
 | _,_,0,_,.cons r _,e=>by simp at e;subst e;exact⟨_,rfl,r⟩
 | _,_,i+1,x,.cons _ t,e=>by
  obtain⟨u,h1,h2⟩:=cz.get (i:=i) (x:=x) t (by simpa using e)
  exact⟨u,by simpa using h1,h2⟩
theorem cz.set {x:V} {u:Value} (r:RelV x u):∀{xs:List V} {us:List Value} (i:Nat),cz xs us->cz (xs.set i x) (us.set i u)
 | _,_,_,.nil=>.nil
 | _,_,0,.cons _ t=>.cons r t
 | _,_,i+1,.cons q t=>.cons q (cz.set r i t)
theorem cz.append:∀{xs ys:List V} {us ws:List Value},cz xs us->cz ys ws->cz (xs++ys) (us++ws)
 | _,_,_,_,.nil,s=>s
 | _,_,_,_,.cons r t,s=>.cons r (cz.append t s)
theorem cz.take:∀{xs:List V} {us:List Value} (n:Nat),cz xs us->cz (xs.take n) (us.take n)
 | _,_,0,_=>.nil
 | _,_,_+1,.nil=>.nil
 | _,_,n+1,.cons r t=>.cons r (cz.take n t)
theorem cz.drop:∀{xs:List V} {us:List Value} (n:Nat),cz xs us->cz (xs.drop n) (us.drop n)
 | _,_,0,r=>r
 | _,_,_+1,.nil=>.nil
 | _,_,n+1,.cons _ t=>cz.drop n t
def Pq:Option V->Option Value->Prop
 | some v,some u=>RelV v u
 | none,none=>True
 | _,_=>False
def KV {κ:Type}:List (κ×V)->List (κ×Value)->Prop:=Paired fun(p:κ×V) (q:κ×Value)=>p.1=q.1/\RelV p.2 q.2
def kV:Key->V
 | .inl i=>.int i
 | .inr x=>.str x
inductive HO where
 /-- a list -/
 | lst (xs:List V)
 /-- a tuple (never changes) -/
 | tup (xs:List V)
 /-- a dict whose keys are ints and texts;one whose keys are tuples of ints and texts (the empty one is both) -/
 | dK (kvs:List (Key×V)) | dT (kvs:List (List Key×V))
 /-- a set of ints: its members,its size -/
 | set (S:Int->Bool) (n:Nat)
 /-- an instance of the class at C,its dict at dx,its attributes -/
 | ins (C dx:Addr) (fs:List (Str×V))
 /-- the dict of the instance at x -/
 | own (x:Addr)
 /-- the dict of an exception -/
 | xd (fs:List (Str×V))
 /-- a bound method,f of x -/
 | met (f x:Addr)
 /-- a range object lo,lo+1,.. below hi -/
 | rng (lo hi:Int)
 /-- a thing that is known to the object (the script;a dict while a loop walks it): read,never written while it is so -/
 | frz (o:Obj) (u:HO)
 /-- a code object's table -/
 | tbl (ps:Array Value)
 /-- any other thing,by what is true of its one object (a def of one's own: SetO a S n:=HO.ext λh=>..) -/
 | ext (φ:Heap->Prop)
abbrev Hp:=Addr->Option HO
def upd (H:Hp) (a:Addr) (o:HO):Hp:=λb=>if b=a then some o else H b
theorem bf {H:Hp} {a:Addr} {o:HO}:upd H a o a=some o:=by unfold upd;rw[if_pos rfl]
theorem a8 {H:Hp} {a b:Addr} {o:HO} (h:b≠a):upd H a o b=H b:=by unfold upd;rw[if_neg h]
theorem Ip {H:Hp} {a:Addr} {o u:HO}:upd (upd H a o) a u=upd H a u:=by
 funext b;unfold upd;split<;>rfl
theorem qw {H:Hp} {a b:Addr} {o u:HO} (h:H a=some o) (h':H b=some u) (d:o≠u):a≠b:=by
 intro e;subst e;rw[h]at h';exact d (CH h')
theorem de {H:Hp} {a b:Addr} {o:HO} (h:H a=some o) (h':H b=none):a≠b:=by
 intro e;subst e;rw[h]at h';cases h'
def uh (h:Heap) (a:Addr) (items:Array Value):Prop:=∃o,h.get? a=some o/\o.cls=.type "tuple"/\o.dict=none/\∃n,o.data=.seq items n
theorem uh.tup {h:Heap} {a:Addr} {items:Array Value} (x:uh h a items):IsTup h a items:=let ⟨o,e,c,_,d⟩:=x;⟨o,e,c,d⟩
theorem uh.new (h:Heap) (items:Array Value):uh (h.push {cls:=.type "tuple",data:=.seq items}) h.objs.size items:=⟨_,AJ _ rfl,rfl,rfl,_,rfl⟩
section
variable (P : Program) (w : World)
def ji (H:Hp) (h:Heap) (a:Addr):HO->Prop
 | .lst xs=>xs.length<=sizeLine/\∃(its:List Value) (n:Nat),cz xs its/\h.get? a=some {cls:=.type "list",data:=.seq its.toArray n}
 | .tup xs=>xs.length<=sizeLine/\∃its:List Value,cz xs its/\uh h a its.toArray
 | .dK kvs=>kvs.length<=sizeLine/\(a==sysModules)=false/\∃vs,KV kvs vs/\h.DictOf (dm P w) a vs
 | .dT kvs=>kvs.length<=sizeLine/\(a==sysModules)=false/\∃xs:List (List Key×Addr×Value),
   Paired (fun(p:List Key×V) (q:List Key×Addr×Value)=>p.1=q.1/\H q.2.1=some (.tup (p.1.map kV))/\RelV p.2 q.2.2) kvs xs /\
   ∃o es ep,h.get? a=some o/\o.ExactDict/\o.data=.dict es ep/\es.toList=xs.map (entryOfKey (tupleKind (dm P w)))/\(xs.map (·.1)).Nodup
 | .set S n=>h.SetOf (intKind P w) a S n
 | .ins C dx fs=>H dx=some (.own a)/\fs.length<=1000/\dx≠a/\h.get? a=some (PySem.W.instObj C dx) /\
   ∃mA,h.Ns1 dx mA/\(∀f,Pq (fs.lookup f) (mA f))/\PySem.Within mA (fs.map (·.1))
 | .own _=>∃o,h.get? a=some o
 | .xd fs=>∃mA,h.Ns1 a mA/\∀f,Pq (fs.lookup f) (mA f)
 | .rng lo hi=>∃t u v,h.get? a=some {cls:=.type "range",data:=.fields #[.int lo t,.int hi u,.int 1 v]}
 | .frz o u=>h.get? a=some o/\ji H h a u
 | .tbl ps=>h.get? a=some {cls:=.none,data:=.fields ps}
 | .met f x=>h.get? a=some (PySem.W.methodObj (.ref f) (.ref x))
 | .ext φ=>φ h/\(∃o,h.get? a=some o)/\∀h1 h2:Heap,φ h1->(∀o,h1.get? a=some o->h2.get? a=some o)->φ h2
def HOk (H:Hp) (h:Heap):Prop:=∀a o,H a=some o->ji P w H h a o
end
section
variable {P : Program} {w : World} {H H' : Hp} {h h' : Heap} {a : Addr} {o : HO}
theorem ji.lt (x:ji P w H h a o):a<h.objs.size:=by
 cases o with
 | lst xs=>obtain⟨_,_,_,_,e⟩:=x;exact AM e
 | tup xs=>obtain⟨_,_,_,p⟩:=x;exact p.tup.lt
 | dK kvs=>obtain⟨_,_,_,_,o,_,_,e,_⟩:=x;exact AM e
 | dT kvs=>obtain⟨_,_,_,_,o,_,_,e,_⟩:=x;exact AM e
 | set S n=>obtain⟨o,_,_,_,e,_⟩:=x;exact AM e
 | ins C dx fs=>obtain⟨_,_,_,e,_⟩:=x;exact AM e
 | own y=>obtain⟨_,e⟩:=x;exact AM e
 | xd fs=>obtain⟨_,⟨_,_,_,e,_⟩,_⟩:=x;exact AM e
 | rng lo hi=>obtain⟨_,_,_,e⟩:=x;exact AM e
 | frz ob u=>obtain⟨e,_⟩:=x;exact AM e
 | tbl ps=>exact AM (show h.get? a=some _ from x)
 | met f y=>exact AM (show h.get? a=some _ from x)
 | ext φ=>obtain⟨_,⟨_,e⟩,_⟩:=x;exact AM e
theorem Paired.mapP {α β:Type} {F G:α->β->Prop}:∀{l₁:List α} {l₂:List β},Paired F l₁ l₂->(∀a b,F a b->G a b)->Paired G l₁ l₂
 | _,_,.nil,_=>.nil
 | _,_,.cons r t,f=>.cons (f _ _ r) (Paired.mapP t f)
theorem ji.stay (x:ji P w H h a o) (k:∀b u,(b=a\/H b=some (.own a))->h.get? b=some u->h'.get? b=some u)
  (ho:∀b,H b=some (.own a)->H' b=some (.own a)) (ht:∀b xs,H b=some (.tup xs)->H' b=some (.tup xs)):ji P w H' h' a o:=by
 induction o with
 | lst xs=>obtain⟨z,its,n,r,e⟩:=x;exact⟨z,its,n,r,k _ _ (.inl rfl) e⟩
 | tup xs=>obtain⟨z,its,r,ob,e,c⟩:=x;exact⟨z,its,r,ob,k _ _ (.inl rfl) e,c⟩
 | dK kvs=>obtain⟨z,y,vs,r,ob,es,ep,e,c⟩:=x;exact⟨z,y,vs,r,ob,es,ep,k _ _ (.inl rfl) e,c⟩
 | dT kvs =>
  obtain⟨z,y,xs,r,ob,es,ep,e,c⟩:=x
  exact⟨z,y,xs,Paired.mapP r λp q z=>⟨z.1,ht _ _ z.2.1,z.2.2⟩,ob,es,ep,k _ _ (.inl rfl) e,c⟩
 | set S n=>obtain⟨ob,es,ep,t,e,c⟩:=x;exact⟨ob,es,ep,t,k _ _ (.inl rfl) e,c⟩
 | ins C dx fs =>
  obtain⟨d,z,ne,e,mA,⟨od,es,ep,e2,c⟩,r⟩:=x
  exact⟨ho _ d,z,ne,k _ _ (.inl rfl) e,mA,⟨od,es,ep,k _ _ (.inr d) e2,c⟩,r⟩
 | own y=>obtain⟨ob,e⟩:=x;exact⟨ob,k _ _ (.inl rfl) e⟩
 | xd fs=>obtain⟨mA,⟨od,es,ep,e,c⟩,r⟩:=x;exact⟨mA,⟨od,es,ep,k _ _ (.inl rfl) e,c⟩,r⟩
 | rng lo hi=>obtain⟨t,u,v,e⟩:=x;exact⟨t,u,v,k _ _ (.inl rfl) e⟩
 | frz ob u ih=>obtain⟨e,q⟩:=x;exact⟨k _ _ (.inl rfl) e,ih q⟩
 | tbl ps =>
  have e:h.get? a=some {cls:=.none,data:=.fields ps}:=x
  show h'.get? a=some {cls:=.none,data:=.fields ps}
  exact k a _ (.inl rfl) e
 | met f y =>
  have e:h.get? a=some (PySem.W.methodObj (.ref f) (.ref y)):=x
  show h'.get? a=some (PySem.W.methodObj (.ref f) (.ref y))
  exact k a _ (.inl rfl) e
 | ext φ=>obtain⟨p,⟨o,e⟩,st⟩:=x;exact⟨st _ _ p λo q=>k _ _ (.inl rfl) q,⟨o,k _ _ (.inl rfl) e⟩,st⟩
theorem HOk.lt (x:HOk P w H h) (e:H a=some o):a<h.objs.size:=(x a o e).lt
theorem HOk.fresh (x:HOk P w H h) (e:h.objs.size<=a):H a=none:=by
 cases q:H a with
 | none=>rfl
 | some u=>exact absurd (AX (x.lt q) e) (DN _)
theorem HOk.kept (x:HOk P w H h) (k:∀b u,h.get? b=some u->h'.get? b=some u):HOk P w H h':=λa o e =>
 (x a o e).stay (λb u _ q=>k b u q) (λ_ q=>q) λ_ _ q=>q
theorem HOk.laid (x:HOk P w H h) (k:∀b u,h.get? b=some u->h'.get? b=some u) (hp:h.objs.size<=a) (new:ji P w (upd H a o) h' a o):HOk P w (upd H a o) h':=λb u e=>by
 have hn:=x.fresh hp
 by_cases hb:b=a
 ·subst hb;rw[bf]at e;cases e;exact new
 ·rw[a8 hb]at e
  exact(x b u e).stay (λc v _ q=>k c v q) (λc q=>by rw[a8 (de q hn)];exact q) λc xs q=>by rw[a8 (de q hn)];exact q
end
def Rd (H:Hp) (a:Addr) (u:HO):Prop:=H a=some u\/∃o,H a=some (.frz o u)
theorem Rd.ok {P:Program} {w:World} {H:Hp} {h:Heap} {a:Addr} {u:HO} (r:Rd H a u) (x:HOk P w H h):ji P w H h a u:=by
 rcases r with r | ⟨o,r⟩
 ·exact x a u r
 ·obtain⟨_,q⟩:=x a _ r
  exact q
def Mut:Option HO->Prop
 | some (.lst _)=>True
 | some (.dK _)=>True
 | some (.dT _)=>True
 | some (.set _ _)=>True
 | some (.ins _ _ _)=>True
 | some (.ext _)=>True
 | _=>False
section
variable {P : Program} {w : World} {H : Hp} {h h' : Heap} {x e : Addr} {o' : HO}
theorem HOk.write (ok:HOk P w H h) (mu:Mut (H x)) (he:e=x\/H e=some (.own x)) (k:∀b u,b≠e->h.get? b=some u->h'.get? b=some u) (heo:∃u,h'.get? e=some u)
  (new:ji P w (upd H x o') h' x o'):HOk P w (upd H x o') h':=λb u q=>by
 have nown:∀c y,H c=some (.own y)->c≠x:=λc y r z=>by subst z;rw[r]at mu;exact mu
 have ntup:∀c xs,H c=some (.tup xs)->c≠x:=λc xs r z=>by subst z;rw[r]at mu;exact mu
 by_cases hb:b=x
 ·subst hb;rw[bf]at q;cases q;exact new
 ·rw[a8 hb]at q
  by_cases hbe:b=e
  ·have q':H b=some (.own x):=by
    rcases he with z | z
    ·exact absurd (hbe.trans z) hb
    ·rw[hbe];exact z
   rw[q]at q';cases q'
   obtain⟨v,hv⟩:=heo
   exact⟨v,by rw[hbe];exact hv⟩
  ·refine(ok b u q).stay (λc v hc r=>k c v ?_ r) (λc r=>by rw[a8 (nown c b r)];exact r) λc xs r=>by rw[a8 (ntup c xs r)];exact r
   rcases hc with rfl | hc
   ·exact hbe
   ·rintro rfl
    rcases he with z | z
    ·exact nown c b hc z
    ·rw[hc]at z;cases z;exact hb rfl
end
structure Un (fs ex:List Addr) (H H':Hp) (h h':Heap):Prop where
 keep:∀b o,h.get? b=some o->H b=none->b∉fs->b∉ex->h'.get? b=some o
 slot:∀b o,h.get? b=some o->H b=none->b∈fs->b∉ex->∃sl,h'.get? b=some {o with slots:=sl}
 free:∀b o,h.get? b=some o->H b=none->b∉ex->H' b=none
 there:∀b o,h.get? b=some o->b∉ex->∃o',h'.get? b=some o'
 tups:∀b xs,H b=some (.tup xs)->H' b=some (.tup xs)
 frzs:∀b o u,H b=some (.frz o u)->H' b=some (.frz o u)
 tbls:∀b ps,H b=some (.tbl ps)->∃more,H' b=some (.tbl (ps++more))
section
variable {fs fs' ex ex' : List Addr} {H H1 H2 : Hp} {h h1 h2 h' : Heap} {a x e : Addr} {o : HO}
theorem Un.any (u:Un fs ex H H1 h h1) {b:Addr} {ob:Obj} (q:h.get? b=some ob) (n:H b=none) (hx:b∉ex):∃sl,h1.get? b=some {ob with slots:=sl}:=by
 by_cases hb:b∈fs
 ·exact u.slot b ob q n hb hx
 ·exact⟨ob.slots,u.keep b ob q n hb hx⟩
theorem Un.kept (k:∀b u,h.get? b=some u->h'.get? b=some u):Un fs ex H H h h' :=
 ⟨λb ob q _ _ _=>k b ob q,λb ob q _ _ _=>⟨ob.slots,k b ob q⟩,λ_ _ _ n _=>n,λb ob q _=>⟨ob,k b ob q⟩,λ_ _ q=>q,λ_ _ _ q=>q,λ_ ps q=>⟨#[],by rw[q];simp⟩⟩
theorem Un.refl:Un fs ex H H h h:=Un.kept λ_ _ q=>q
theorem Un.laid (k:∀b u,h.get? b=some u->h'.get? b=some u) (hp:h.objs.size<=a) (hn:H a=none):Un fs ex H (upd H a o) h h' where
 keep:=λb u q _ _ _=>k b u q
 slot:=λb u q _ _ _=>⟨u.slots,k b u q⟩
 free:=λb u q n _=>by rw[a8 (AT (AX (AM q) hp))];exact n
 there:=λb u q _=>⟨u,k b u q⟩
 tups:=λb xs q=>by rw[a8 (de q hn)];exact q
 frzs:=λb u xs q=>by rw[a8 (de q hn)];exact q
 tbls:=λb ps q=>⟨#[],by rw[a8 (de q hn),q];simp⟩
theorem Un.write (mu:Mut (H x)) (he:e=x\/H e=some (.own x)) (k:∀b u,b≠e->h.get? b=some u->h'.get? b=some u) (heo:∃u,h'.get? e=some u):Un fs ex H (upd H x o) h h':=by
 have hx:∀b,H b=none->b≠x:=λb n z=>by subst z;rw[n]at mu;exact mu
 have hb:∀b,H b=none->b≠e:=λb n z=>by
  subst z
  rcases he with r | r
  ·exact hx b n r
  ·rw[n]at r;cases r
 have hm:∀b u,H b=some u->¬Mut (some u)->b≠x:=λb u q nm z=>by subst z;rw[q]at mu;exact nm mu
 refine⟨λb u q n _ _=>k b u (hb b n) q,λb u q n _ _=>⟨u.slots,k b u (hb b n) q⟩,λb u q n _=>by rw[a8 (hx b n)];exact n,λb u q _=>?_,
  λb xs q=>by rw[a8 (hm b _ q λz=>z)];exact q,λb u xs q=>by rw[a8 (hm b _ q λz=>z)];exact q,λb ps q=>⟨#[],by rw[a8 (hm b _ q λz=>z),q];simp⟩⟩
 by_cases hbe:b=e
 ·subst hbe;exact heo
 ·exact⟨u,k b u hbe q⟩
end
def trk (h:Heap) (H:Hp):List Addr:=(List.range h.objs.size).filter λa=>(H a).isSome
def M9 (h:Heap) (H:Hp):Heap:=PySem.W.hideAll h (trk h H)
theorem Iq (h:Heap) (H:Hp):(M9 h H).objs.size=h.objs.size:=PySem.W.hideAll_size _ _
theorem Na {h:Heap} {H:Hp} {b:Addr} {o:Obj} (e:h.get? b=some o) (n:H b=none):(M9 h H).get? b=some o :=
 PySem.W.hideAll_get _ e λhm=>by
  have q:(H b).isSome=true:=(GD.mp hm).2
  rw[n]at q;simp at q
theorem Rz {h:Heap} {H:Hp} {b:Addr} {o:Obj} (e:(M9 h H).get? b=some o):h.get? b=some o/\H b=none:=by
 have e':h.get? b=some o:=PySem.W.of_hideAll (trk h H) e
 refine⟨e',?_⟩
 cases q:H b with
 | none=>rfl
 | some x =>
  have hm:b∈trk h H:=GD.mpr ⟨CO.mpr (AM e'),by simp[q]⟩
  have z:(M9 h H).get? b=none:=PySem.W.hideAll_none (trk h H) hm
  rw[z]at e;cases e
def R0 (g h:Heap) (L:Addr):List (Addr×Obj):=(List.range h.objs.size).filterMap λa=>if a=L\/(g.get? a).isSome=true then none else(h.get? a).map λo=>(a,o)
def rest (g h:Heap) (L d:Addr):List (Addr×Obj):=(R0 g h L).filter λp=>decide (p.1≠d)
structure Mod (K:PySem.W.Frag) (mg:Str->Option Value) (base:Heap):Prop where
 kin:K.In base
 glob:base.Ns mainGlobals mg
 blt:∃mb,base.Ns builtinsNs mb/\∀x:Str,x≠"__name__"->mb x=bootBuiltins x
 nolimit:base.NoLimit
structure Cx where
 prog:Program
 w:World
 K:PySem.W.Frag
 mg:Str->Option Value
 base:Heap
 A:Around
 N:List Str
 s₀:Shared
 H₀:Hp
 env:Env
 outer:List Env
 stack:List Env
 ex:List Addr
 fn:Str->Bool
 calm:Bool
 pn:List (Addr×Obj)
 xe:Value->Shared->Prop
def frs (l:List Env):List Addr:=l.filterMap (·.frame)
abbrev Cx.fs (X:Cx):List Addr:=frs X.outer
def Vis (sc:Scope) (x:Str):Prop:=sc.names.lookup x=some .local\/sc.names.lookup x=some .cell\/sc.names.lookup x=some .free
def Loc (sc:Scope) (x:Str):Prop:=sc.names.lookup x=some .local\/sc.names.lookup x=some .cell
def Look (env:Env) (h:Heap) (m:Str->Option Value) (x:Str) (u:Value):Prop :=
 (env.kindOf x=some .local/\m x=some u)\/((env.kindOf x=some .cell\/env.kindOf x=some .free)/\∃c,env.cells.lookup x=some c/\h.IsCell c (some u))
structure Cx.Ok (X:Cx):Prop where
 mod:Mod X.K X.mg X.base
 kind:X.env.scope.kind=.function
 glob:X.env.globals=mainGlobals
 blt:X.env.builtins=builtinsNs
 above:X.s₀.heap.objs.size<=X.env.locals
 inj:∀x y c,X.env.cells.lookup x=some c->X.env.cells.lookup y=some c->x=y
 has:∀x,(X.env.kindOf x=some .cell\/X.env.kindOf x=some .free)->∃c,X.env.cells.lookup x=some c
 cab:∀x c,X.fn x=true->X.env.cells.lookup x=some c->X.s₀.heap.objs.size<=c
 hd:X.calm=true->X.A.handled=none
 frames:X.A.frames=some X.stack
 stk:X.stack=X.outer\/(X.stack=X.env::X.outer/\X.env.frame=some X.env.locals)
 exf:∀b∈X.ex,b≠X.env.locals/\∀x c,X.env.cells.lookup x=some c->c≠b
 bs:∀b o,X.base.get? b=some o->X.s₀.heap.get? b=some o/\X.H₀ b=none
 bsz:X.base.objs.size<=X.s₀.heap.objs.size
 noex:∀b o,X.base.get? b=some o->b∉X.ex
 exfs:∀b∈X.ex,b∉X.fs
 funs:X.s₀.heap.FunFrames X.base X.outer
 frf:∀b∈X.fs,X.H₀ b=none
structure Inv (X:Cx) (pins:List (Addr×Obj)) (σ:List (Option V)) (H:Hp) (s:Shared):Prop where
 ok:X.Ok
 os:s.os=X.s₀.os
 bare:AllBare s.gens
 base:Un X.fs X.ex X.H₀ H X.s₀.heap s.heap
 loc:∃m,s.heap.Ns X.env.locals m/\∀(i:Nat) (x:Str) (v:V),X.N[i]? = some x->σ[i]? = some (some v)->Vis X.env.scope x->∃u,RelV v u/\Look X.env s.heap m x u
 cell:∀x c,X.env.cells.lookup x=some c->∃v,s.heap.IsCell c v
 free:H X.env.locals=none
 freeC:∀x c,X.env.cells.lookup x=some c->H c=none
 pin:∀p∈X.pn++pins,s.heap.get? p.1=some p.2/\H p.1=none/\p.1≠X.env.locals/\p.1∉X.fs/\∀v,p.2.data≠.cell v
 hok:HOk X.prog X.w H s.heap
 len:σ.length=X.N.length
section
variable {X : Cx} {pins : List (Addr × Obj)} {σ : List (Option V)} {H H' : Hp} {s : Shared} {h' : Heap}
theorem Cx.Ok.nofr (ok:X.Ok) {b:Addr} {o:Obj} (e:X.base.get? b=some o):b∉X.fs:=λhb=>by
 have:=(ok.funs.mem hb).1
 rw[e]at this;cases this
theorem Inv.bs (I:Inv X pins σ H s):∀b o,X.base.get? b=some o->s.heap.get? b=some o/\H b=none:=λb o e =>
 ⟨I.base.keep b o (I.ok.bs b o e).1 (I.ok.bs b o e).2 (I.ok.nofr e) (I.ok.noex b o e),I.base.free b o (I.ok.bs b o e).1 (I.ok.bs b o e).2 (I.ok.noex b o e)⟩
theorem Inv.bk (I:Inv X pins σ H s):∀b o,X.base.get? b=some o->s.heap.get? b=some o:=λb o e=>(I.bs b o e).1
theorem Inv.mod (I:Inv X pins σ H s):Mod X.K X.mg X.base:=I.ok.mod
theorem Inv.kIn (I:Inv X pins σ H s):X.K.In s.heap:=I.ok.mod.kin.keeps I.bk
theorem Inv.fr (I:Inv X pins σ H s):∃m,Fr X.base X.env.locals s.heap m :=
 let ⟨m,hn,_⟩:=I.loc
 ⟨m,hn,I.bk,CL I.ok.bsz I.ok.above⟩
theorem Inv.lt (I:Inv X pins σ H s):X.env.locals<s.heap.objs.size:=let ⟨_,hn,_⟩:=I.loc;hn.lt
theorem Inv.sz (I:Inv X pins σ H s):X.s₀.heap.objs.size<=s.heap.objs.size:=CL I.ok.above (FD I.lt)
theorem Inv.nofs (I:Inv X pins σ H s) {a:Addr} (h:s.heap.objs.size<=a):a∉X.fs:=λhb=>by
 obtain⟨_,o,ho,_⟩:=I.ok.funs.mem hb
 exact absurd (AX (AM ho) (CL I.sz h)) (DN _)
theorem Inv.cne (I:Inv X pins σ H s):∀x c,X.env.cells.lookup x=some c->c≠X.env.locals:=λx c e z=>by
 obtain⟨v,o,ho,hd⟩:=I.cell x c e
 obtain⟨m,⟨o',es,ep,ho',hd',_⟩,_⟩:=I.loc
 rw[z,ho']at ho;cases ho;rw[hd']at hd;cases hd
theorem Inv.funs (I:Inv X pins σ H s):s.heap.FunFrames X.base X.outer:=by
 have all:∀(l:List Env),(∀b∈frs l,b∈X.fs)->X.s₀.heap.FunFrames X.base l->s.heap.FunFrames X.base l:=by
  intro l
  induction l with
  | nil=>intro _ _;trivial
  | cons env r ih =>
   intro hs hl
   obtain⟨hk,⟨L,o,hf,hn,ho,hd⟩,hr⟩:=hl
   have hL:L∈X.fs:=hs L (by unfold frs;rw[HU,hf];exact AQ)
   obtain⟨sl,e⟩:=I.base.slot L o ho (I.ok.frf L hL) hL λz=>I.ok.exfs L z hL
   exact⟨hk,⟨L,_,hf,hn,e,hd⟩,ih (λb hb=>hs b (by unfold frs;rw[HU,hf];exact AH _ hb)) hr⟩
 exact all X.outer (λ_ hb=>hb) I.ok.funs
theorem Inv.stack (I:Inv X pins σ H s):s.heap.FunFrames X.base X.stack:=by
 rcases I.ok.stk with e | ⟨e,hf⟩
 ·rw[e];exact I.funs
 ·rw[e]
  obtain⟨m,hn,_⟩:=I.loc
  refine .cons (by rw[I.ok.kind];decide) hf hn ?_ I.funs
  exact Heap.get?_none_of_le (CL I.ok.bsz I.ok.above)
theorem Inv.stkSub (I:Inv X pins σ H s):∀b∈frs X.stack,b∈X.env.locals::X.fs:=λb hb=>by
 rcases I.ok.stk with e | ⟨e,hf⟩
 ·rw[e]at hb;exact AH _ hb
 ·rw[e]at hb
  unfold frs at hb
  rw[HU,hf]at hb
  exact hb
theorem Inv.stkFree (I:Inv X pins σ H s):∀b∈frs X.stack,H b=none:=λb hb=>by
 rcases AL.mp (I.stkSub b hb)with e | hb
 ·rw[e];exact I.free
 ·obtain⟨_,o,ho,_⟩:=I.ok.funs.mem hb
  exact I.base.free b o ho (I.ok.frf b hb) λz=>I.ok.exfs b z hb
theorem Inv.step {g':Array GenState} {t':Nat} {d':Drawn} {ch:List Addr} (I:Inv X pins σ H s)
  (hch:∀b∈ch,(b∈X.ex\/X.s₀.heap.objs.size<=b)/\b≠X.env.locals/\(∀x c,X.env.cells.lookup x=some c->c≠b)/\∀p∈X.pn++pins,p.1≠b)
  (keep:∀b o,b≠X.env.locals->b∉X.fs->b∉ch->s.heap.get? b=some o->H b=none->h'.get? b=some o)
  (slot:∀b o,b≠X.env.locals->b∈X.fs->b∉ch->s.heap.get? b=some o->H b=none->∃sl,h'.get? b=some {o with slots:=sl}) (free:∀b o,b∉ch->s.heap.get? b=some o->H b=none->H' b=none)
  (there:∀b o,b∉ch->s.heap.get? b=some o->∃o',h'.get? b=some o')
  (tups:∀b xs,H b=some (.tup xs)->H' b=some (.tup xs)) (frzs:∀b o u,H b=some (.frz o u)->H' b=some (.frz o u)) (tbls:∀b ps,H b=some (.tbl ps)->∃more,H' b=some (.tbl (ps++more)))
  (ns:∀m,s.heap.Ns X.env.locals m->h'.Ns X.env.locals m) (hok:HOk X.prog X.w H' h') (hg:AllBare g') :
  Inv X pins σ H' {s with heap:=h',gens:=g',drawn:=d',toks:=t'}:=by
 have neL:∀b o,X.s₀.heap.get? b=some o->b≠X.env.locals:=λb o e=>AT (AX (AM e) I.ok.above)
 have neC:∀b o,X.s₀.heap.get? b=some o->b∉X.ex->b∉ch:=λb o e hx hb=>by
  rcases(hch b hb).1 with z | z
  ·exact hx z
  ·exact absurd (AX (AM e) z) (DN _)
 have cellK:∀x c,X.env.cells.lookup x=some c->∀v,s.heap.IsCell c v->h'.IsCell c v:=λx c e v ⟨o,ho,hd⟩=>by
  have nch:c∉ch:=λz=>(hch c z).2.2.1 x c e rfl
  by_cases hc:c∈X.fs
  ·obtain⟨sl,q⟩:=slot c o (I.cne x c e) hc nch ho (I.freeC x c e)
   exact⟨_,q,hd⟩
  ·exact⟨o,keep c o (I.cne x c e) hc nch ho (I.freeC x c e),hd⟩
 refine⟨I.ok,I.os,hg,⟨λb o e n hb hx=>?_,λb o e n hb hx=>?_,λb o e n hx=>?_,λb o e hx=>?_,λb xs e=>tups b xs (I.base.tups b xs e),λb o xs e=>frzs b o xs (I.base.frzs b o xs e),λb ps e=>?_⟩,?_,λx c e=>?_,?_,λx c e=>?_,λp hp=>?_,hok,I.len⟩
 ·exact keep b o (neL b o e) hb (neC b o e hx) (I.base.keep b o e n hb hx) (I.base.free b o e n hx)
 ·obtain⟨sl,e1⟩:=I.base.slot b o e n hb hx
  obtain⟨sl',e2⟩:=slot b _ (neL b o e) hb (neC b o e hx) e1 (I.base.free b o e n hx)
  exact⟨sl',e2⟩
 ·obtain⟨o',e1⟩:=I.base.there b o e hx
  exact free b o' (neC b o e hx) e1 (I.base.free b o e n hx)
 ·obtain⟨o',e1⟩:=I.base.there b o e hx
  exact there b o' (neC b o e hx) e1
 ·obtain⟨m1,e1⟩:=I.base.tbls b ps e
  obtain⟨m2,e2⟩:=tbls b _ e1
  exact⟨m1++m2,by rw[e2,Array.append_assoc]⟩
 ·obtain⟨m,hn,hl⟩:=I.loc
  refine⟨m,ns m hn,λi x v e1 e2 e3=>?_⟩
  obtain⟨u,r,l⟩:=hl i x v e1 e2 e3
  refine⟨u,r,?_⟩
  rcases l with l | ⟨k,c,e,z⟩
  ·exact .inl l
  ·exact .inr ⟨k,c,e,cellK x c e _ z⟩
 ·obtain⟨v,z⟩:=I.cell x c e
  exact⟨v,cellK x c e v z⟩
 ·obtain⟨m,⟨o,_,_,ho,_⟩,_⟩:=I.loc
  exact free _ o (λz=>(hch _ z).2.1 rfl) ho I.free
 ·obtain⟨v,o,ho,hd⟩:=I.cell x c e
  exact free c o (λz=>(hch c z).2.2.1 x c e rfl) ho (I.freeC x c e)
 ·obtain⟨e,n,ne,nf,d⟩:=I.pin p hp
  have nch:p.1∉ch:=λz=>(hch p.1 z).2.2.2 p hp rfl
  exact⟨keep p.1 p.2 ne nf nch e n,free p.1 p.2 nch e n,ne,nf,d⟩
theorem Inv.un {t':Nat} (I:Inv X pins σ H s) (u:Un X.fs [] H H' s.heap h') (hok:HOk X.prog X.w H' h'):Inv X pins σ H' {s with heap:=h',toks:=t'}:=by
 obtain⟨m,⟨o,es,ep,ho,r⟩,_⟩:=id I.loc
 obtain⟨sl,hL⟩:=u.any ho I.free (by simp)
 exact I.step (g':=s.gens) (d':=s.drawn) (ch:=[]) (λ_ z=>nomatch z) (λb o _ hb _ e n=>u.keep b o e n hb (by simp)) (λb o _ hb _ e n=>u.slot b o e n hb (by simp)) (λb o _ e n=>u.free b o e n (by simp)) (λb o _ e=>u.there b o e (by simp)) u.tups u.frzs u.tbls (λm' hm=>by
  obtain⟨o',es',ep',ho',r'⟩:=hm
  rw[ho]at ho';cases ho'
  exact⟨_,es',ep',hL,r'⟩) hok I.bare
theorem Inv.call {g':Array GenState} {t':Nat} {d':Drawn} {ch:List Addr} (I:Inv X pins σ H s) (u:Un (frs X.stack) ch H H' s.heap h') (hok:HOk X.prog X.w H' h') (hg:AllBare g')
  (hch:∀b∈ch,(b∈X.ex\/X.s₀.heap.objs.size<=b)/\b≠X.env.locals/\(∀x c,X.env.cells.lookup x=some c->c≠b)/\∀p∈X.pn++pins,p.1≠b) :
  Inv X pins σ H' {s with heap:=h',gens:=g',drawn:=d',toks:=t'}:=by
 obtain⟨m,⟨o,es,ep,ho,r⟩,_⟩:=id I.loc
 obtain⟨sl,hL⟩:=u.any ho I.free λz=>(hch _ z).2.1 rfl
 exact I.step (ch:=ch) hch (λb o hL hb hc e n=>u.keep b o e n (λz=>(AL.mp (I.stkSub b z)).elim hL hb) hc) (λb o _ _ hc e n=>u.any e n hc) (λb o hc e n=>u.free b o e n hc) (λb o hc e=>u.there b o e hc) u.tups u.frzs u.tbls (λm' hm=>by
  obtain⟨o',es',ep',ho',r'⟩:=hm
  rw[ho]at ho';cases ho'
  exact⟨_,es',ep',hL,r'⟩) hok hg
theorem Inv.turned {t':Nat} {it:Addr} (I:Inv X pins σ H s) (k:∀b o,b≠it->s.heap.get? b=some o->h'.get? b=some o) (hn:H it=none) (hL:it≠X.env.locals)
  (h1:it∈X.ex\/X.s₀.heap.objs.size<=it) (h2:∀x c,X.env.cells.lookup x=some c->c≠it) (h3:∀p∈X.pn++pins,p.1≠it):Inv X pins σ H {s with heap:=h',toks:=t'}:=by
 have nit:∀b u,H b=some u->b≠it:=λb u e z=>by rw[z,hn]at e;cases e
 refine I.step (g':=s.gens) (d':=s.drawn) (ch:=[it]) (λb hb=>?_) (λb o _ _ hc e _=>k b o (λz=>hc (by simp[z])) e) (λb o _ _ hc e _=>⟨o.slots,k b o (λz=>hc (by simp[z])) e⟩) (λ_ _ _ _ n=>n)
  (λb o hc e=>⟨o,k b o (λz=>hc (by simp[z])) e⟩) (λ_ _ e=>e) (λ_ _ _ e=>e) (λb ps e=>⟨#[],by rw[e];simp⟩) (λm hm=>?_) (λb u e=>?_) I.bare
 ·have e:b=it:=by simpa using hb
  subst e
  exact⟨h1,hL,h2,h3⟩
 ·obtain⟨o,es,ep,ho,r⟩:=hm
  exact⟨o,es,ep,k _ o (Ne.symm hL) ho,r⟩
 ·refine(I.hok b u e).stay (λc v hc q=>k c v ?_ q) (λ_ q=>q) λ_ _ q=>q
  rcases hc with z | z
  ·rw[z];exact nit b u e
  ·exact nit c _ z
theorem Inv.tok (I:Inv X pins σ H s) (t:Nat):Inv X pins σ H {s with toks:=t}:=I.un (h':=s.heap) (t':=t) Un.refl I.hok
theorem Inv.kept {t':Nat} (I:Inv X pins σ H s) (k:∀b u,s.heap.get? b=some u->h'.get? b=some u):Inv X pins σ H {s with heap:=h',toks:=t'}:=I.un (Un.kept k) (I.hok.kept k)
theorem Inv.laid {a:Addr} {o:HO} {t':Nat} (I:Inv X pins σ H s) (k:∀b u,s.heap.get? b=some u->h'.get? b=some u) (hp:s.heap.objs.size<=a) (new:ji X.prog X.w (upd H a o) h' a o) :
  Inv X pins σ (upd H a o) {s with heap:=h',toks:=t'}:=I.un (Un.laid k hp (I.hok.fresh hp)) (I.hok.laid k hp new)
theorem Inv.write {x e:Addr} {o:HO} {t':Nat} (I:Inv X pins σ H s) (mu:Mut (H x)) (he:e=x\/H e=some (.own x)) (k:∀b u,b≠e->s.heap.get? b=some u->h'.get? b=some u) (heo:∃u,h'.get? e=some u)
  (new:ji X.prog X.w (upd H x o) h' x o):Inv X pins σ (upd H x o) {s with heap:=h',toks:=t'}:=I.un (Un.write mu he k heo) (I.hok.write mu he k heo new)
theorem Inv.weak {σ':List (Option V)} (I:Inv X pins σ H s) (hl:σ'.length=σ.length) (w:∀(i:Nat) v,σ'[i]? = some (some v)->σ[i]? = some (some v)):Inv X pins σ' H s :=
 ⟨I.ok,I.os,I.bare,I.base,let ⟨m,hn,hl'⟩:=I.loc;⟨m,hn,λi x v e1 e2 e3=>hl' i x v e1 (w i v e2) e3⟩,I.cell,I.free,I.freeC,I.pin,I.hok,hl.trans I.len⟩
theorem Inv.pins_of {pins':List (Addr×Obj)} (I:Inv X pins σ H s) (h:∀p∈pins',s.heap.get? p.1=some p.2/\H p.1=none/\p.1≠X.env.locals/\p.1∉X.fs/\∀v,p.2.data≠.cell v):Inv X pins' σ H s :=
 ⟨I.ok,I.os,I.bare,I.base,I.loc,I.cell,I.free,I.freeC,λp hp=>(CM.mp hp).elim (λz=>I.pin p (HJ _ z)) (h p),I.hok,I.len⟩
theorem Er {N:List Str} (hN:N.Nodup) {i j:Nat} {x:Str} (a:N[i]? = some x) (b:N[j]? = some x):i=j:=by
 obtain⟨h1,e1⟩:=AF.mp a
 obtain⟨h2,e2⟩:=AF.mp b
 exact(List.getElem_inj hN).mp (e1.trans e2.symm)
theorem A1 {M:Model} {A:Around} {E:Value->Shared->Prop} {i:Nat} {x:Str} {v:V} {u:Value} {Q:Unit->Shared->Prop} (I:Inv X pins σ H s) (hN:X.N.Nodup) (hi:X.N[i]? = some x) (hx:Loc X.env.scope x) (r:RelV v u)
  (h:∀s',Inv X pins (σ.set i (some v)) H s'->(∃a,Heap.SameBut a s.heap s'.heap/\(a=X.env.locals\/X.env.cells.lookup x=some a))->Q () s') (hf:X.fn x=true\/X.env.scope.names.lookup x=some .local:=by first | exact .inl rfl | exact .inr rfl | assumption):wpAny M A (storeName X.env x u) Q E s:=by
 obtain⟨m,hn,hl⟩:=id I.loc
 have hcls:(X.env.scope.kind==.class || (X.env.scope.kind==.module&&X.env.locals != X.env.globals))=false:=by rw[I.ok.kind];rfl
 have hiσ:i<σ.length:=by rw[I.len];exact(AF.mp hi).1
 have cne:=I.cne
 have tracked:∀{a:Addr} {h':Heap},(∃o,s.heap.get? a=some o/\H a=none)->Heap.SameBut a s.heap h'->HOk X.prog X.w H h':=λ{a h'} ha hs b ob e=>by
  obtain⟨_,_,hfree⟩:=ha
  refine(I.hok b ob e).stay (λc w' hc q=>(hs.2 c ?_).trans q) (λ_ q=>q) λ_ _ q=>q
  rintro rfl
  rcases hc with rfl | hc
  ·rw[hfree]at e;cases e
  ·rw[hfree]at hc;cases hc
 rcases hx with hk | hk
 ·refine wpAny_storeName_local hk hn (λh' hn' hs=>?_) hcls
  obtain⟨oL,_,_,hoL,_⟩:=id hn
  refine h _ ⟨I.ok,I.os,I.bare,⟨λb o e n hb hx=>?_,λb o e n hb hx=>?_,I.base.free,λb o e hx=>?_,I.base.tups,I.base.frzs,I.base.tbls⟩,⟨_,hn',λj y v' e1 e2 e3=>?_⟩,λy c e=>?_,I.free,I.freeC,λp hp=>?_,tracked ⟨oL,hoL,I.free⟩ hs,by simpa using I.len⟩ ⟨_,hs,.inl rfl⟩
  ·exact(hs.2 b (AT (AX (AM e) I.ok.above))).trans (I.base.keep b o e n hb hx)
  ·obtain⟨sl,e1⟩:=I.base.slot b o e n hb hx
   exact⟨sl,(hs.2 b (AT (AX (AM e) I.ok.above))).trans e1⟩
  ·obtain⟨o',e1⟩:=I.base.there b o e hx
   exact⟨o',(hs.2 b (AT (AX (AM e) I.ok.above))).trans e1⟩
  ·by_cases hj:j=i
   ·subst hj
    rw[hi]at e1;cases e1
    rw[CT hiσ]at e2
    cases e2
    exact⟨u,r,.inl ⟨hk,by simp⟩⟩
   ·rw[BR (Ne.symm hj)]at e2
    obtain⟨u',r',q⟩:=hl j y v' e1 e2 e3
    refine⟨u',r',?_⟩
    rcases q with⟨k,e⟩ | ⟨k,c,e,z⟩
    ·refine .inl ⟨k,?_⟩
     have:y≠x:=λe=>hj (Er hN e1 (e ▸ hi))
     simp[this,e]
    ·exact .inr ⟨k,c,e,z.sameBut hs (cne y c e)⟩
  ·obtain⟨w',z⟩:=I.cell y c e
   exact⟨w',z.sameBut hs (cne y c e)⟩
  ·obtain⟨e,n,ne,nf,d⟩:=I.pin p hp
   exact⟨(hs.2 p.1 ne).trans e,n,ne,nf,d⟩
 ·have hfn:X.fn x=true:=by
   rcases hf with z | z
   ·exact z
   ·rw[z]at hk;cases hk
  obtain⟨c,hc⟩:=I.ok.has x (.inl hk)
  obtain⟨w',z⟩:=I.cell x c hc
  refine wpAny_storeName_cell I.ok.kind hk hc z (λh' hc' hs=>?_)
  obtain⟨oc,hoc,hocd⟩:=id z
  refine h {s with heap:=h'} ⟨I.ok,I.os,I.bare,⟨λb o e n hb hx=>?_,λb o e n hb hx=>?_,I.base.free,λb o e hx=>?_,I.base.tups,I.base.frzs,I.base.tbls⟩,⟨m,hn.sameBut hs (Ne.symm (cne x c hc)),λj y v' e1 e2 e3=>?_⟩,λy c' e=>?_,I.free,I.freeC,λp hp=>?_,tracked ⟨oc,hoc,I.freeC x c hc⟩ hs,by simpa using I.len⟩ ⟨c,hs,.inr hc⟩
  ·exact(hs.2 b (AT (AX (AM e) (I.ok.cab x c hfn hc)))).trans (I.base.keep b o e n hb hx)
  ·obtain⟨sl,e1⟩:=I.base.slot b o e n hb hx
   exact⟨sl,(hs.2 b (AT (AX (AM e) (I.ok.cab x c hfn hc)))).trans e1⟩
  ·obtain⟨o',e1⟩:=I.base.there b o e hx
   exact⟨o',(hs.2 b (AT (AX (AM e) (I.ok.cab x c hfn hc)))).trans e1⟩
  ·by_cases hj:j=i
   ·subst hj
    rw[hi]at e1;cases e1
    rw[CT hiσ]at e2
    cases e2
    exact⟨u,r,.inr ⟨.inl hk,c,hc,hc'⟩⟩
   ·rw[BR (Ne.symm hj)]at e2
    obtain⟨u',r',q⟩:=hl j y v' e1 e2 e3
    refine⟨u',r',?_⟩
    rcases q with q | ⟨k,c',e,z'⟩
    ·exact .inl q
    ·refine .inr ⟨k,c',e,z'.sameBut hs ?_⟩
     rintro rfl
     exact hj (Er hN e1 (I.ok.inj _ _ _ e hc ▸ hi))
  ·by_cases hcc:c'=c
   ·subst hcc;exact⟨_,hc'⟩
   ·obtain⟨w2,z2⟩:=I.cell y c' e
    exact⟨w2,z2.sameBut hs hcc⟩
  ·obtain⟨e,n,ne,nf,d⟩:=I.pin p hp
   refine⟨(hs.2 p.1 ?_).trans e,n,ne,nf,d⟩
   intro q
   rw[q,hoc]at e
   have q':oc=p.2:=CH e
   exact d w' (by rw[<-q'];exact hocd)
theorem Es {M:Model} {A:Around} {E:Value->Shared->Prop} {i:Nat} {x:Str} {v:V} {u:Value} {Q:Unit->Shared->Prop} (I:Inv X pins σ H s) (hN:X.N.Nodup) (hi:X.N[i]? = some x) (hx:Loc X.env.scope x) (r:RelV v u)
  (h:∀s',Inv X pins (σ.set i (some v)) H s'->Q () s') (hf:X.fn x=true\/X.env.scope.names.lookup x=some .local:=by first | exact .inl rfl | exact .inr rfl | assumption):wpAny M A (storeName X.env x u) Q E s :=
 A1 I hN hi hx r (λs' I' _=>h s' I') hf
theorem Inv.call' {s':Shared} {ch:List Addr} (I:Inv X pins σ H s) (ho:s'.os=s.os) (u:Un (frs X.stack) ch H H' s.heap s'.heap) (hok:HOk X.prog X.w H' s'.heap) (hg:AllBare s'.gens)
  (hch:∀b∈ch,(b∈X.ex\/X.s₀.heap.objs.size<=b)/\b≠X.env.locals/\(∀x c,X.env.cells.lookup x=some c->c≠b)/\∀p∈X.pn++pins,p.1≠b):Inv X pins σ H' s':=by
 obtain⟨h',g',d',t',o'⟩:=s'
 have e:o'=s.os:=ho
 subst e
 exact I.call (g':=g') (t':=t') (d':=d') u hok hg hch
end
abbrev XK:=Value->Option Addr->Hp->Prop
abbrev St:=List (Option V)
abbrev VK:=V->Hp->Prop
abbrev TE:=St->Hp->VK->Prop
abbrev TT:=St->Hp->(Bool->Hp->Prop)->Prop
abbrev TA:=St->Hp->(List V->Hp->Prop)->Prop
structure Ends where
 nx:St->Hp->Prop
 rt:VK
 bk:St->Hp->Prop:=λ_ _=>False
 ct:St->Hp->Prop:=λ_ _=>False
abbrev TS:=Ends->St->Hp->Prop
def EP (X:Cx) (pins:List (Addr×Obj)) (σ:St) (Q:VK) (u:Value) (s':Shared):Prop:=∃v H',Inv X pins σ H' s'/\RelV v u/\Q v H'
def TP (X:Cx) (pins:List (Addr×Obj)) (σ:St) (Q:Bool->Hp->Prop) (b:Bool) (s':Shared):Prop:=∃H',Inv X pins σ H' s'/\Q b H'
def AP (X:Cx) (pins:List (Addr×Obj)) (σ:St) (Q:List V->Hp->Prop) (us:List Value) (s':Shared):Prop:=∃vs H',Inv X pins σ H' s'/\cz vs us/\Q vs H'
def SP (X:Cx) (pins:List (Addr×Obj)) (D:Ends) (f:Flow) (s':Shared):Prop :=
 match f with
 | .next=>∃σ' H',Inv X pins σ' H' s'/\D.nx σ' H'
 | .brk=>∃σ' H',Inv X pins σ' H' s'/\D.bk σ' H'
 | .cont=>∃σ' H',Inv X pins σ' H' s'/\D.ct σ' H'
 | .ret u=>∃v σ' H',Inv X pins σ' H' s'/\RelV v u/\D.rt v H'
def PE (X:Cx) (e:Expr) (t:TE):Prop :=
 ∀(pins:List (Addr×Obj)) (s:Shared) (σ:St) (H:Hp) (Q:VK),Inv X pins σ H s->t σ H Q->wpAny (model X.prog X.w) X.A (eval e X.env) (EP X pins σ Q) X.xe s
def PT (X:Cx) (e:Expr) (t:TT):Prop :=
 ∀(pins:List (Addr×Obj)) (s:Shared) (σ:St) (H:Hp) (Q:Bool->Hp->Prop),Inv X pins σ H s->t σ H Q->wpAny (model X.prog X.w) X.A (isTrue e X.env (eval e X.env)) (TP X pins σ Q) X.xe s
def PW (X:Cx) (e:Expr) (t:TT):Prop :=
 ∀(whole:Sem Value) (pins:List (Addr×Obj)) (s:Shared) (σ:St) (H:Hp) (Q:Bool->Hp->Prop),Inv X pins σ H s->t σ H Q->wpAny (model X.prog X.w) X.A (isTrue e X.env whole) (TP X pins σ Q) X.xe s
theorem PW.pt {X:Cx} {e:Expr} {t:TT} (h:PW X e t):PT X e t:=h _
def PA (X:Cx) (es:List Expr) (t:TA):Prop :=
 ∀(pos:Pos) (pins:List (Addr×Obj)) (s:Shared) (σ:St) (H:Hp) (Q:List V->Hp->Prop),Inv X pins σ H s->t σ H Q->wpAny (model X.prog X.w) X.A (spliced (backTo pos (starEach es X.env))) (AP X pins σ Q) X.xe s
def PS (X:Cx) (st:Stmt) (t:TS):Prop :=
 ∀(pins:List (Addr×Obj)) (s:Shared) (σ:St) (H:Hp) (D:Ends),Inv X pins σ H s->t D σ H->wpAny (model X.prog X.w) X.A (exec st X.env) (SP X pins D) X.xe s
def PSs (X:Cx) (st:List Stmt) (t:TS):Prop :=
 ∀(pins:List (Addr×Obj)) (s:Shared) (σ:St) (H:Hp) (D:Ends),Inv X pins σ H s->t D σ H->wpAny (model X.prog X.w) X.A (execs st X.env) (SP X pins D) X.xe s
theorem thn {α:Type} {t:Sem α} {Q Q':α->Shared->Prop} {M:Model} {A:Around} {E:Value->Shared->Prop} {s:Shared} (h:wpAny M A t Q E s) (hQ:∀a s,Q a s->Q' a s):wpAny M A t Q' E s:=EJ h hQ λ_ _ x=>x
section
variable {X : Cx}
theorem bin {a b:Expr} {ta tb:TE} (ha:PE X a ta) (hb:PE X b tb) {pins:List (Addr×Obj)} {s:Shared} {σ:St} {H:Hp} {R:V->V->Hp->Prop} (I:Inv X pins σ H s) (h:ta σ H λx H1=>tb σ H1 λy H2=>R x y H2)
  {α:Type} {Q:α->Shared->Prop} {f:Value->Value->Sem α}
  (hf:∀v u s2 x y H2,Inv X pins σ H2 s2->RelV x v->RelV y u->R x y H2->wpAny (model X.prog X.w) X.A (f v u) Q X.xe s2) :
  wpAny (model X.prog X.w) X.A (eval a X.env) (λv s₁=>wpAny (model X.prog X.w) X.A (eval b X.env) (λu s₂=>wpAny (model X.prog X.w) X.A (f v u) Q X.xe s₂) X.xe s₁) X.xe s:=by
 refine thn (ha pins s σ H _ I h) λv s1 ⟨x,H1,I1,r1,q1⟩=>?_
 refine thn (hb pins s1 σ H1 _ I1 q1) λu s2 ⟨y,H2,I2,r2,q2⟩=>?_
 exact hf v u s2 x y H2 I2 r1 r2 q2
def aay (i:Nat):TE:=λσ H Q=>∃v,σ[i]? = some (some v)/\Q v H
def tC (v:V):TE:=λ_ H Q=>Q v H
theorem yd {i:Nat} {x:Str} {pos:Pos} (hN:X.N[i]? = some x) (hv:Vis X.env.scope x) (hd:(x==("__debug__":Str))=false:=by decide) (hcd:(x==("__classdict__":Str))=false:=by decide):PE X (.Name x pos) (aay i):=by
 intro pins s σ H Q I h
 obtain⟨v,e,h⟩:=h
 obtain⟨m,hn,hl⟩:=I.loc
 obtain⟨u,r,l⟩:=hl i x v hN e hv
 have fin:EP X pins σ Q u s:=⟨v,H,I,r,h⟩
 rcases l with⟨hk,hm⟩ | ⟨hk,c,hc,hcell⟩
 ·exact wpAny_Name (wpAny_loadName_local I.ok.kind hk hn hm fin) hd
 ·rcases hk with hk | hk
  ·exact wpAny_Name (wpAny_loadName_cell I.ok.kind hk hc hcell fin) hd
  ·exact wpAny_Name (wpAny_loadName_free I.ok.kind hk hc hcell fin hcd) hd
theorem Pr {i j pos}:PE X (.Constant (.int i) j pos) (tC (.int i)):=λ_ _ _ H _ I h=>wpAny_Constant_int ⟨.int i,H,I.tok _,⟨_,rfl⟩,h⟩
theorem Y2 {b j pos}:PE X (.Constant (.bool b) j pos) (tC (.bl b)):=λ_ _ _ H _ I h=>Constant_bool ⟨.bl b,H,I,rfl,h⟩
theorem Vg {j pos}:PE X (.Constant .none j pos) (tC .non):=λ_ _ _ H _ I h=>Constant_none ⟨.non,H,I,rfl,h⟩
theorem Vh {x j pos}:PE X (.Constant (.str x) j pos) (tC (.str x)):=λ_ _ _ H _ I h=>Calls.Constant_str ⟨.str x,H,I.tok _,⟨_,rfl⟩,h⟩
def Gl (X:Cx) (x:Str):Prop:=X.env.kindOf x=some .globalImplicit
theorem R1 {E:Value->Shared->Prop} {pins:List (Addr×Obj)} {s:Shared} {σ:St} {H:Hp} {x:Str} {u:Value} {pos:Pos} {Q:Value->Shared->Prop} (I:Inv X pins σ H s) (hg:Gl X x) (hm:X.mg x=some u) (h:Q u s)
  (hd:(x==("__debug__":Str))=false:=by decide):wpAny (model X.prog X.w) X.A (eval (.Name x pos) X.env) Q E s :=
 HY I.ok.kind hg (Calls.loadGlobal_global (by rw[I.ok.glob];exact I.mod.glob.keeps I.bk) hm h) hd
theorem qk {E:Value->Shared->Prop} {pins:List (Addr×Obj)} {s:Shared} {σ:St} {H:Hp} {x:Str} {u:Value} {pos:Pos} {Q:Value->Shared->Prop} (I:Inv X pins σ H s) (hg:Gl X x) (hm:X.mg x=none) (hv:bootBuiltins x=some u) (h:Q u s)
  (hn:x≠"__name__":=by decide) (hd:(x==("__debug__":Str))=false:=by decide):wpAny (model X.prog X.w) X.A (eval (.Name x pos) X.env) Q E s:=by
 obtain⟨mb,h1,h2⟩:=I.mod.blt
 exact HY I.ok.kind hg (Calls.loadGlobal_builtin (by rw[I.ok.glob];exact I.mod.glob.keeps I.bk) hm (by rw[I.ok.blt];exact h1.keeps I.bk) ((h2 x hn).trans hv) h) hd
theorem R4 {x:Str} {v:V} {u:Value} {pos:Pos} (hg:Gl X x) (hm:X.mg x=none) (hv:bootBuiltins x=some u) (r:RelV v u) (hn:x≠"__name__":=by decide) (hd:(x==("__debug__":Str))=false:=by decide):PE X (.Name x pos) (tC v) :=
 λ_ _ _ H _ I h=>qk I hg hm hv ⟨v,H,I,r,h⟩ hn hd
variable {a b : Expr} {ta tb : TE} {pos : Pos}
variable {tA tB' : TT} {rest : List Expr}
def ab3 (t u:TT):TT:=λσ H Q=>t σ H λc H1=>if c=true then u σ H1 Q else Q false H1
def tOr (t u:TT):TT:=λσ H Q=>t σ H λc H1=>if c=true then Q true H1 else u σ H1 Q
def ab4 (t:TT):TT:=λσ H Q=>t σ H λc H1=>Q (!c) H1
theorem R5 (ha:PT X a tA):PW X (.BoolOp .And [a] pos) tA:=by
 intro wh pins s σ H Q I h
 refine isTrue_and (thn (ha pins s σ H Q I h) λc s1 e=>?_)
 cases c with
 | true=>exact isTrue_and_nil e
 | false=>exact e
theorem Vi (ha:PT X a tA):PW X (.BoolOp .Or [a] pos) tA:=by
 intro wh pins s σ H Q I h
 refine isTrue_or (thn (ha pins s σ H Q I h) λc s1 e=>?_)
 cases c with
 | false=>exact isTrue_or_nil e
 | true=>exact e
theorem Vj (ha:PT X a tA) (hb:PW X (.BoolOp .And (b::rest) pos) tB'):PW X (.BoolOp .And (a::b::rest) pos) (ab3 tA tB'):=by
 intro wh pins s σ H Q I h
 refine isTrue_and (thn (ha pins s σ H _ I h) λc s1 ⟨H1,I1,q1⟩=>?_)
 cases c with
 | true=>exact hb wh pins s1 σ H1 Q I1 q1
 | false=>exact⟨H1,I1,q1⟩
theorem Y3 (ha:PT X a tA) (hb:PW X (.BoolOp .Or (b::rest) pos) tB'):PW X (.BoolOp .Or (a::b::rest) pos) (tOr tA tB'):=by
 intro wh pins s σ H Q I h
 refine isTrue_or (thn (ha pins s σ H _ I h) λc s1 ⟨H1,I1,q1⟩=>?_)
 cases c with
 | true=>exact⟨H1,I1,q1⟩
 | false=>exact hb wh pins s1 σ H1 Q I1 q1
theorem Vk (ha:PT X a tA):PT X (.UnaryOp .Not a pos) (ab4 tA):=by
 intro pins s σ H Q I h
 exact isTrue_not (ha pins s σ H (λc H1=>Q (!c) H1) I h)
def Y4 (ta tb:TE):TE:=λσ H Q=>ta σ H λx H1=>∃c,x=.bl c/\if c=true then tb σ H1 Q else Q (.bl false) H1
def ab5 (ta tb:TE):TE:=λσ H Q=>ta σ H λx H1=>∃c,x=.bl c/\if c=true then Q (.bl true) H1 else tb σ H1 Q
def Y5 (ta:TE):TE:=λσ H Q=>ta σ H λx H1=>∃c,x=.bl c/\Q (.bl (!c)) H1
theorem Pt {op} {t:TE} (h:PE X a t):PE X (.BoolOp op [a] pos) t:=λpins s σ H Q I hw=>BoolOp_one (h pins s σ H Q I hw)
theorem Vl (ha:PE X a ta) (hb:PE X (.BoolOp .And (b::rest) pos) tb):PE X (.BoolOp .And (a::b::rest) pos) (Y4 ta tb):=by
 intro pins s σ H Q I h
 refine BoolOp_and (thn (ha pins s σ H _ I h) λv s1 ⟨x,H1,I1,r1,q1⟩=>?_)
 obtain⟨c,rfl,q1⟩:=q1
 cases r1
 refine DO ?_
 cases c with
 | true=>exact hb pins s1 σ H1 Q I1 q1
 | false=>exact⟨.bl false,H1,I1,rfl,q1⟩
theorem Y6 (ha:PE X a ta) (hb:PE X (.BoolOp .Or (b::rest) pos) tb):PE X (.BoolOp .Or (a::b::rest) pos) (ab5 ta tb):=by
 intro pins s σ H Q I h
 refine BoolOp_or (thn (ha pins s σ H _ I h) λv s1 ⟨x,H1,I1,r1,q1⟩=>?_)
 obtain⟨c,rfl,q1⟩:=q1
 cases r1
 refine DO ?_
 cases c with
 | false=>exact hb pins s1 σ H1 Q I1 q1
 | true=>exact⟨.bl true,H1,I1,rfl,q1⟩
theorem Vm (ha:PE X a ta):PE X (.UnaryOp .Not a pos) (Y5 ta):=by
 intro pins s σ H Q I h
 refine UnaryOp_ (thn (ha pins s σ H _ I h) λv s1 ⟨x,H1,I1,r1,q1⟩=>?_)
 obtain⟨c,rfl,q1⟩:=q1
 cases r1
 exact not_of (DO ⟨.bl (!c),H1,I1,rfl,q1⟩)
end
def SqL (K:PySem.W.Frag) (H:Hp) (a:Addr) (xs:List V):Prop :=
 Rd H a (.lst xs) \/
  ∃(o:Obj) (its:Array Value) (n:Nat),K.lookup a=some o/\o.cls=.type "list"/\o.dict=none/\o.data=.seq its n/\its.size<=sizeLine/\cz xs its.toList
def SqT (K:PySem.W.Frag) (H:Hp) (a:Addr) (xs:List V):Prop :=
 Rd H a (.tup xs) \/
  ∃(o:Obj) (its:Array Value) (n:Nat),K.lookup a=some o/\o.cls=.type "tuple"/\o.data=.seq its n/\its.size<=sizeLine/\cz xs its.toList/\o.dict=none
def ab6:Value->Option V
 | .none=>some .non
 | .bool b=>some (.bl b)
 | .int i _=>some (.int i)
 | .str x _=>some (.str x)
 | .bytes b _=>some (.byt b)
 | .float b _=>some (.flt b)
 | .ref a=>some (.ref a)
 | .type n=>some (.ty n)
 | _=>none
theorem RelV.abs {x:V} {u:Value} (r:RelV x u):ab6 u=some x:=by
 cases x with
 | non=>cases r;rfl
 | bl _=>cases r;rfl
 | int _=>obtain⟨t,rfl⟩:=r;rfl
 | str _=>obtain⟨t,rfl⟩:=r;rfl
 | byt _=>obtain⟨t,rfl⟩:=r;rfl
 | flt _=>obtain⟨t,rfl⟩:=r;rfl
 | ref _=>cases r;rfl
 | ty _=>cases r;rfl
theorem RelV.inj {x y:V} {u:Value} (r:RelV x u) (q:RelV y u):x=y:=CH (r.abs.symm.trans q.abs)
theorem cz.inj:∀{xs ys:List V} {us:List Value},cz xs us->cz ys us->xs=ys
 | _,_,_,.nil,.nil=>rfl
 | _,_,_,.cons r t,.cons r' t'=>by rw[r.inj r',cz.inj t t']
section
variable {X : Cx} {pins : List (Addr × Obj)} {σ : St} {H : Hp} {s : Shared} {a : Addr} {xs ys : List V}
theorem SqL.of {K:PySem.W.Frag} (h:H a=some (.lst xs)):SqL K H a xs:=.inl (.inl h)
theorem SqT.of {K:PySem.W.Frag} (h:H a=some (.tup xs)):SqT K H a xs:=.inl (.inl h)
theorem Inv.list (I:Inv X pins σ H s) (h:SqL X.K H a xs):∃its:List Value,cz xs its/\PlainL s.heap a its.toArray/\xs.length<=sizeLine:=by
 rcases h with h | ⟨o,its,n,hk,hc,hd,hs,hz,r⟩
 ·obtain⟨z,its,n,r,e⟩:=h.ok I.hok
  exact⟨its,r,⟨_,n,e,rfl,rfl,rfl⟩,z⟩
 ·refine⟨its.toList,r,⟨o,n,I.kIn a o hk,hc,hd,by simpa using hs⟩,?_⟩
  have e:=r.length
  simp![BJ]at e
  lia
theorem Inv.tuple (I:Inv X pins σ H s) (h:SqT X.K H a xs):∃its:List Value,cz xs its/\IsTup s.heap a its.toArray/\xs.length<=sizeLine:=by
 rcases h with h | ⟨o,its,n,hk,hc,hs,hz,r,_⟩
 ·obtain⟨z,its,r,p⟩:=h.ok I.hok
  exact⟨its,r,p.tup,z⟩
 ·refine⟨its.toList,r,⟨o,I.kIn a o hk,hc,n,by simpa using hs⟩,?_⟩
  have e:=r.length
  simp![BJ]at e
  lia
theorem Inv.list_inj (I:Inv X pins σ H s) (h:SqL X.K H a xs) (h':SqL X.K H a ys):xs=ys:=by
 obtain⟨its,r,⟨o,n,e,_,_,d⟩,_⟩:=I.list h
 obtain⟨its',r',⟨o',n',e',_,_,d'⟩,_⟩:=I.list h'
 rw[e]at e';cases e'
 rw[d]at d'
 injection d' with d1 _
 have:its=its':=by simpa using congrArg Array.toList d1
 subst this
 exact r.inj r'
theorem Inv.tuple_inj (I:Inv X pins σ H s) (h:SqT X.K H a xs) (h':SqT X.K H a ys):xs=ys:=by
 obtain⟨its,r,⟨o,e,_,n,d⟩,_⟩:=I.tuple h
 obtain⟨its',r',⟨o',e',_,n',d'⟩,_⟩:=I.tuple h'
 rw[e]at e';cases e'
 rw[d]at d'
 injection d' with d1 _
 have:its=its':=by simpa using congrArg Array.toList d1
 subst this
 exact r.inj r'
end
abbrev Cx.wish (X:Cx) (E:Value->Shared->Prop):Cx:={X with xe:=E}
abbrev Cx.nox (X:Cx):Cx:=X.wish λ_ _=>False
theorem Cx.Ok.wish {X:Cx} (ok:X.Ok) (E:Value->Shared->Prop):(X.wish E).Ok :=
 ⟨ok.mod,ok.kind,ok.glob,ok.blt,ok.above,ok.inj,ok.has,ok.cab,ok.hd,ok.frames,ok.stk,ok.exf,ok.bs,ok.bsz,ok.noex,ok.exfs,ok.funs,ok.frf⟩
theorem Cx.Ok.unwish {X:Cx} {E:Value->Shared->Prop} (ok:(X.wish E).Ok):X.Ok :=
 ⟨ok.mod,ok.kind,ok.glob,ok.blt,ok.above,ok.inj,ok.has,ok.cab,ok.hd,ok.frames,ok.stk,ok.exf,ok.bs,ok.bsz,ok.noex,ok.exfs,ok.funs,ok.frf⟩
section
variable {X : Cx} {pins : List (Addr × Obj)} {σ : St} {H : Hp} {s : Shared} {E : Value -> Shared -> Prop}
theorem Inv.wish (I:Inv X pins σ H s) (E:Value->Shared->Prop):Inv (X.wish E) pins σ H s:=⟨I.ok.wish E,I.os,I.bare,I.base,I.loc,I.cell,I.free,I.freeC,I.pin,I.hok,I.len⟩
theorem Inv.unwish (I:Inv (X.wish E) pins σ H s):Inv X pins σ H s:=⟨I.ok.unwish,I.os,I.bare,I.base,I.loc,I.cell,I.free,I.freeC,I.pin,I.hok,I.len⟩
theorem SP.unwish {D:Ends} {f:Flow} {s':Shared} (h:SP (X.wish E) pins D f s'):SP X pins D f s':=by
 cases f with
 | next=>obtain⟨σ',H',I,q⟩:=h;exact⟨σ',H',I.unwish,q⟩
 | brk=>obtain⟨σ',H',I,q⟩:=h;exact⟨σ',H',I.unwish,q⟩
 | cont=>obtain⟨σ',H',I,q⟩:=h;exact⟨σ',H',I.unwish,q⟩
 | ret u=>obtain⟨v,σ',H',I,r,q⟩:=h;exact⟨v,σ',H',I.unwish,r,q⟩
theorem PSs.nox {st:List Stmt} {t:TS} (h:PSs X.nox st t):PSs X st t:=λpins s σ H D I hw =>
 EJ (h pins s σ H D (I.wish _) hw) (λ_ _ q=>q.unwish) λ_ _ z=>False.elim z
end
section
variable {X : Cx} {st : Stmt} {rest : List Stmt} {t u : TS} {e : Expr} {te : TE} {pos : Pos}
def tNext:TS:=λD σ H=>D.nx σ H
def ab7 (t u:TS):TS:=λD σ H=>t {D with nx:=u D} σ H
theorem R6:PSs X [] tNext:=λ_ _ σ H _ I h=>wpAny_execs_nil ⟨σ,H,I,h⟩
theorem Nc (h1:PS X st t) (h2:PSs X rest u):PSs X (st::rest) (ab7 t u):=by
 intro pins s σ H D I h
 refine wpAny_execs_cons (thn (h1 pins s σ H {D with nx:=u D} I h) λf s1 q=>?_)
 cases f with
 | next =>
  obtain⟨σ',H',I',q⟩:=q
  exact h2 pins s1 σ' H' D I' q
 | ret v=>exact q
 | brk=>exact q
 | cont=>exact q
theorem Inv.quiet {pins:List (Addr×Obj)} {σ:St} {H:Hp} {s:Shared} (I:Inv X pins σ H s):interactive X.env=false:=by simp[interactive,I.ok.kind]
def Y7 (te:TE):TS:=λD σ H=>te σ H λ_ H1=>D.nx σ H1
theorem R7 (he:PE X e te) (hs:swapsWith e none pos.line X.env=pure false:=by rfl):PS X (.Expr e pos) (Y7 te):=by
 intro pins s σ H D I h
 exact wpAny_Expr_any (thn (he pins s σ H _ I h) λv s1 ⟨x,H1,I1,r1,q1⟩=>⟨σ,H1,I1,q1⟩) I.quiet hs
def ab8 (te:TE):TS:=λD σ H=>te σ H D.rt
theorem Vn (he:PE X e te):PS X (.Return (some e) pos) (ab8 te):=by
 intro pins s σ H D I h
 exact wpAny_Return_some (thn (he pins s σ H _ I h) λv s1 ⟨x,H1,I1,r1,q1⟩=>⟨x,σ,H1,I1,r1,q1⟩)
def ab9 (c:TT) (t u:TS):TS:=λD σ H=>c σ H λb H1=>if b=true then t D σ H1 else u D σ H1
theorem Y8 {c:Expr} {a b:List Stmt} {tc:TT} (hc:PT X c tc) (ha:PSs X a t) (hb:PSs X b u):PS X (.If c a b pos) (ab9 tc t u):=by
 intro pins s σ H D I h
 refine wpAny_If (thn (hc pins s σ H _ I h) λd s1 ⟨H1,I1,q1⟩=>?_)
 cases d with
 | true=>exact ha pins s1 σ H1 D I1 q1
 | false=>exact hb pins s1 σ H1 D I1 q1
end
abbrev TG:=V->St->Hp->(St->Hp->Prop)->Prop
abbrev TGs:=List V->St->Hp->(St->Hp->Prop)->Prop
def PG (X:Cx) (target:Expr) (t:TG):Prop :=
 ∀(pins:List (Addr×Obj)) (s:Shared) (σ:St) (H:Hp) (v:V) (u:Value) (Q:St->Hp->Prop),Inv X pins σ H s->RelV v u->t v σ H Q ->
  wpAny (model X.prog X.w) X.A (assign target X.env u) (λ_ s'=>∃σ' H',Inv X pins σ' H' s'/\Q σ' H') X.xe s
def PGs (X:Cx) (ts:List Expr) (t:TGs):Prop :=
 ∀(pins:List (Addr×Obj)) (s:Shared) (σ:St) (H:Hp) (vs:List V) (us:List Value) (Q:St->Hp->Prop),Inv X pins σ H s->cz vs us->t vs σ H Q ->
  wpAny (model X.prog X.w) X.A (assignInOrder ((assignEach ts X.env).map (·.2)) us) (λ_ s'=>∃σ' H',Inv X pins σ' H' s'/\Q σ' H') X.xe s
abbrev TSet:=V->V->V->Hp->(Hp->Prop)->Prop
def Yu (X:Cx) (t:TSet):Prop :=
 ∀(pins:List (Addr×Obj)) (s:Shared) (σ:St) (H:Hp) (o i v:V) (ov iv u:Value) (Q:Hp->Prop),Inv X pins σ H s->RelV o ov->RelV i iv->RelV v u->t o i v H Q ->
  wpAny (model X.prog X.w) X.A (setItem ov iv u) (λ_ s'=>∃H',Inv X pins σ H' s'/\Q H') X.xe s
section
variable {X : Cx} {pos : Pos}
def R8 (i:Nat):TG:=λv σ H Q=>Q (σ.set i (some v)) H
theorem Ir {i:Nat} {x:Str} (hN:X.N.Nodup) (hi:X.N[i]? = some x) (hx:Loc X.env.scope x) (hf:X.fn x=true\/X.env.scope.names.lookup x=some .local:=by first | exact .inl rfl | exact .inr rfl | assumption):PG X (.Name x pos) (R8 i):=by
 intro pins s σ H v u Q I r h
 exact wpAny_assign_Name (Es I hN hi hx r (λs' I'=>⟨_,H,I',h⟩) hf)
def gNil:TGs:=λvs σ H Q=>vs=[]/\Q σ H
def Y9 (t:TG) (u:TGs):TGs:=λvs σ H Q=>∃v r,vs=v::r/\t v σ H λσ' H'=>u r σ' H' Q
theorem R9:PGs X [] gNil:=by
 intro pins s σ H vs us Q I r h
 obtain⟨e,h⟩:=h
 subst e
 cases r
 exact assignInOrder_nil ⟨σ,H,I,h⟩
theorem Nd {e:Expr} {es:List Expr} {t:TG} {u:TGs} (h1:PG X e t) (h2:PGs X es u)
  (hs:(assignEach (e::es) X.env).map (·.2)=assign e X.env::(assignEach es X.env).map (·.2):=by rfl):PGs X (e::es) (Y9 t u):=by
 intro pins s σ H vs us Q I r h
 obtain⟨v,vr,e1,h⟩:=h
 subst e1
 cases r with
 | cons r rr =>
  rw[hs]
  refine assignInOrder_cons (thn (h1 pins s σ H _ _ _ I r h) λ_ s1 ⟨σ1,H1,I1,q1⟩=>?_)
  exact h2 pins s1 σ1 H1 _ _ Q I1 rr q1
def aca (K:PySem.W.Frag) (n:Nat) (t:TGs):TG:=λv σ H Q=>∃a xs,v=.ref a/\SqT K H a xs/\xs.length=n/\t xs σ H Q
theorem Vo {es:List Expr} {k:Nat} {t:TGs} {n:Nat} (hc:X.calm=true) (h:PGs X es t)
  (hn:(assignEach es X.env).length=n:=by rfl) (hst:(assignEach es X.env).findIdx? (·.1)=none:=by rfl):PG X (.Tuple es k pos) (aca X.K n t):=by
 intro pins s σ H v u Q I r hw
 obtain⟨a,xs,e1,hq,hl,hw⟩:=hw
 subst e1
 cases r
 obtain⟨its,rv,ht,hz⟩:=I.tuple hq
 refine assign_Tuple_tuple (I.ok.hd hc) ht (by simp[hn,<-hl,rv.length]) hst λh' hx=>?_
 have I1:Inv X pins σ H {s with heap:=h'}:=I.kept (t':=s.toks) λb o e=>hx b o (AT (AM e)) e
 exact h pins _ σ H xs _ Q I1 (by simpa using rv) hw
def acb (to ti:TE) (t:TSet):TG:=λv σ H Q=>to σ H λo H1=>ti σ H1 λi H2=>t o i v H2 λH3=>Q σ H3
theorem Vp {o i:Expr} {to ti:TE} {t:TSet} (ho:PE X o to) (hi:PE X i ti) (hs:Yu X t)
  (ha:∀v,assign (.Subscript o i pos) X.env v=(do
   let ov <-holding [v] (eval o X.env)
   let iv <-holding [v,ov] (eval i X.env)
   standAt pos
   holding [v,ov,iv] (setItem ov iv v)
   release [v,ov,iv] []):=by intro _;rfl):PG X (.Subscript o i pos) (acb to ti t):=by
 intro pins s σ H v u Q I r h
 rw[ha]
 refine AA (CP (thn (ho pins s σ H _ I h) λov s1 ⟨x,H1,I1,r1,q1⟩=>?_))
 refine AA (CP (thn (hi pins s1 σ H1 _ I1 q1) λiv s2 ⟨y,H2,I2,r2,q2⟩=>?_))
 refine AA (wpAny_standAt (AA (CP (thn (hs pins s2 σ H2 x y v ov iv u _ I2 r1 r2 r q2) λ_ s3 ⟨H3,I3,q3⟩=>?_))))
 exact wpAny_release ⟨σ,H3,I3,q3⟩
def aaz (te:TE) (g:TG):TS:=λD σ H=>te σ H λx H1=>g x σ H1 D.nx
theorem Pu {tg e:Expr} {te:TE} {g:TG} (he:PE X e te) (hg:PG X tg g) (hs:swapsWithSole [tg] e pos.line X.env=pure false:=by rfl) (hw:swappedStores [tg] e X.env=pure none:=by rfl)
  (h1:(assignEach [tg] X.env).map (·.2)=[assign tg X.env]:=by rfl):PS X (.Assign [tg] e pos) (aaz te g):=by
 intro pins s σ H D I h
 refine wpAny_Assign_stores (thn (he pins s σ H _ I h) λv s1 ⟨x,H1,I1,r1,q1⟩=>?_) hs hw
 rw[h1]
 exact thn (hg pins s1 σ H1 x v _ I1 r1 q1) λ_ s2 q=>q
theorem Vq {i:Nat} {x:Str} {e:Expr} {te:TE} {pos':Pos} (hN:X.N.Nodup) (hi:X.N[i]? = some x) (hx:Loc X.env.scope x) (he:PE X e te) (hs:swapsWith e (some (.Name x pos')) pos.line X.env=pure false:=by rfl) (hf:X.fn x=true\/X.env.scope.names.lookup x=some .local:=by first | exact .inl rfl | exact .inr rfl | assumption) :
  PS X (.Assign [.Name x pos'] e pos) (aaz te (R8 i)):=by
 intro pins s σ H D I h
 refine wpAny_Assign_Name (thn (he pins s σ H _ I h) λv s1 ⟨y,H1,I1,r1,q1⟩=>?_) hs
 exact Es I1 hN hi hx r1 (λs2 I2=>⟨_,H1,I2,q1⟩) hf
end
structure It where
 go:Nat->Hp->Prop
 yld:Nat->Hp->V->Hp->Prop
 stop:Nat->Hp->Prop
def Gu (X:Cx) (pins:List (Addr×Obj)) (H:Hp) (b:Addr):Prop :=
 H b=none/\b≠X.env.locals/\b∉X.fs/\(b∈X.ex\/X.s₀.heap.objs.size<=b)/\(∀x c,X.env.cells.lookup x=some c->c≠b)/\∀p∈X.pn++pins,p.1≠b
theorem Inv.fpOk {X:Cx} {pins:List (Addr×Obj)} {σ:St} {H H':Hp} {s:Shared} {b:Addr} (I:Inv X pins σ H s) (hb:s.heap.objs.size<=b) (hn:H' b=none):Gu X pins H' b:=by
 refine⟨hn,CU (AX I.lt hb),I.nofs hb,.inr (CL I.sz hb),λx c e z=>?_,λp hp z=>?_⟩
 ·obtain⟨v,q⟩:=I.cell x c e
  exact absurd (AX q.lt (by rw[z];exact hb)) (DN _)
 ·exact absurd (AX (AM (I.pin p hp).1) (by rw[z];exact hb)) (DN _)
structure Turn (P:Program) (w:World) (K:PySem.W.Frag) (tg:Expr) (J:It) (fp:List Addr) (it:Addr) (tn:Nat->Heap->Prop):Prop where
 mem:it∈fp
 obj:∀i h,tn i h->∀b∈fp,∃o,h.get? b=some o/\∀v,o.data≠.cell v
 keep:∀i h h',tn i h->(∀b∈fp,∀o,h.get? b=some o->h'.get? b=some o)->tn i h'
 item:∀(X:Cx),X.prog=P->X.w=w->X.K=K->X.calm=true->∀(i:Nat) (pins:List (Addr×Obj)) (s:Shared) (σ:St) (H:Hp) (E:Value->Shared->Prop),Inv X pins σ H s->(∀b∈fp,Gu X pins H b)->tn i s.heap->J.go i H ->
  wpAny (model P w) X.A (pyNext (.ref it)) (λr s1=>∃u,r=some u /\
   wpAny (model P w) X.A (letOwnedTupleGo tg (.ref it) u) (λ_ s2=>∃x H',Inv X pins σ H' s2/\RelV x u/\J.yld i H x H'/\tn (i+1) s2.heap/\∀b∈fp,H' b=none) E s1) E s
 done:∀(X:Cx),X.prog=P->X.w=w->X.K=K->X.calm=true->∀(i:Nat) (pins:List (Addr×Obj)) (s:Shared) (σ:St) (H:Hp) (E:Value->Shared->Prop),Inv X pins σ H s->(∀b∈fp,Gu X pins H b)->tn i s.heap->J.stop i H ->
  wpAny (model P w) X.A (pyNext (.ref it)) (λr s1=>r=none/\Inv X pins σ H s1) E s
 self:∀(A:Around) (i:Nat) (s:Shared) (Q:Value->Shared->Prop) (E:Value->Shared->Prop),tn i s.heap->Q (.ref it) s->wpAny (model P w) A (pyIter (.ref it)) Q E s
abbrev TI:=St->Hp->(It->Hp->Prop)->Prop
def PIE (X:Cx) (pins:List (Addr×Obj)) (σ:St) (tg:Expr) (R:It->Hp->Prop) (itv:Value) (s2:Shared):Prop :=
 ∃(it:Addr) (fp:List Addr) (tn:Nat->Heap->Prop) (J:It) (H':Hp),itv=.ref it/\Inv X pins σ H' s2/\Turn X.prog X.w X.K tg J fp it tn/\tn 0 s2.heap/\(∀b∈fp,Gu X pins H' b)/\R J H'
def PI (X:Cx) (tg iter:Expr) (wi:TI):Prop :=
 ∀(pins:List (Addr×Obj)) (s:Shared) (σ:St) (H:Hp) (R:It->Hp->Prop),Inv X pins σ H s->wi σ H R ->
  wpAny (model X.prog X.w) X.A (eval iter X.env) (λv s1=>wpAny (model X.prog X.w) X.A (pyIter v) (PIE X pins σ tg R) X.xe s1) X.xe s
theorem Nf {M:Model} {A:Around} {E:Value->Shared->Prop} {s:Shared} {tg:Expr} {it:Addr} {u:Value} {o:Obj} {n:String} {vs:Array Value} {Q:Unit->Shared->Prop} (ho:s.heap.get? it=some o) (hc:o.cls=.type n) (hd:o.data=.fields vs)
  (hn:["enumerate","zip","dict_itemiterator","dict_reverseitemiterator","odict_iterator","itertools.zip_longest","itertools.pairwise"].contains n=false) (hQ:Q () s):wpAny M A (letOwnedTupleGo tg (.ref it) u) Q E s:=by
 unfold letOwnedTupleGo
 cases tg<;>first
  | exact AE hQ
  | (cases u<;>first
    | exact AE hQ
    | (
     refine AA (wpAny_load ho ?_)
     rw[hc,hd]
     show wpAny M A (if(["enumerate","zip","dict_itemiterator","dict_reverseitemiterator","odict_iterator","itertools.zip_longest","itertools.pairwise"].contains n&&vs[0]?==some (rawInt _))=true then _ else _) Q E s
     rw[if_neg (by intro h;rw[hn,Bool.false_and]at h;cases h)]
     exact AE hQ))
def Itl (K:PySem.W.Frag) (a:Addr):It :=
 ⟨λi H=>∃xs x,SqL K H a xs/\xs[i]? = some x,λi H x H'=>H'=H/\∀xs,SqL K H a xs->xs[i]? = some x,λi H=>∃xs,SqL K H a xs/\xs.length<=i⟩
def Itt (K:PySem.W.Frag) (a:Addr):It :=
 ⟨λi H=>∃xs x,SqT K H a xs/\xs[i]? = some x,λi H x H'=>H'=H/\∀xs,SqT K H a xs->xs[i]? = some x,λi H=>∃xs,SqT K H a xs/\xs.length<=i⟩
def Itr (lo:Int) (n:Nat):It:=⟨λi _=>i<n,λi H x H'=>H'=H/\x=.int (lo+i),λi _=>n<=i⟩
theorem Iu {P:Program} {w:World} {K:PySem.W.Frag} {tg:Expr} (a it:Addr):Turn P w K tg (Itl K a) [it] it (λi h=>h.IsListIter it a i) where
 mem:=by simp
 obj:=λi h st b hb=>by
  have e:b=it:=by simpa using hb
  subst e
  obtain⟨o,e,c,d⟩:=st
  exact⟨o,e,λv z=>by rw[d]at z;cases z⟩
 keep:=λi h h' st k=>st.at λo e=>k it (by simp) o e
 item:=by
  intro X hP hw hK hc i pins s σ H E I hf st hg
  subst hP hw hK
  obtain⟨xs,x,hq,hx⟩:=hg
  obtain⟨its,rv,p,hz⟩:=I.list hq
  obtain⟨u,hu,ru⟩:=rv.get hx
  obtain⟨f0,f1,f2,f3,f4,f5⟩:=hf it (by simp)
  refine wpAny_pyNext_list_item st p.isList (x:=u) (by simpa using hu) λh' st' sb=>?_
  have I1:Inv X pins σ H {s with heap:=h'}:=I.turned (t':=s.toks) (λb o hb e=>(sb.2 b hb).trans e) f0 f1 f3 f4 f5
  obtain⟨o,e,c,d⟩:=id st'
  exact⟨u,rfl,Nf (s:={s with heap:=h'}) e c d (by decide) ⟨x,H,I1,ru,⟨rfl,λys hy=>by rw[I.list_inj hy hq];exact hx⟩,st',λb hb=>(hf b hb).1⟩⟩
 done:=by
  intro X hP hw hK hc i pins s σ H E I hf st hg
  subst hP hw hK
  obtain⟨xs,hq,hx⟩:=hg
  obtain⟨its,rv,p,hz⟩:=I.list hq
  obtain⟨f0,f1,f2,f3,f4,f5⟩:=hf it (by simp)
  have hl:=rv.length
  exact wpAny_pyNext_list_end (I.ok.hd hc) st p.isList (by simp;lia) λh' eb=>⟨rfl,I.turned (t':=s.toks) (λb o hb e=>eb b o hb e) f0 f1 f3 f4 f5⟩
 self:=λ_ _ _ _ _ st h=>wpAny_pyIter_listiter st h
theorem Gv {P:Program} {w:World} {K:PySem.W.Frag} {tg:Expr} (a it:Addr):Turn P w K tg (Itt K a) [it] it (λi h=>h.IsTupleIter it a i) where
 mem:=by simp
 obj:=λi h st b hb=>by
  have e:b=it:=by simpa using hb
  subst e
  obtain⟨o,e,c,d⟩:=st
  exact⟨o,e,λv z=>by rw[d]at z;cases z⟩
 keep:=λi h h' st k=>st.at λo e=>k it (by simp) o e
 item:=by
  intro X hP hw hK hc i pins s σ H E I hf st hg
  subst hP hw hK
  obtain⟨xs,x,hq,hx⟩:=hg
  obtain⟨its,rv,p,hz⟩:=I.tuple hq
  obtain⟨u,hu,ru⟩:=rv.get hx
  obtain⟨f0,f1,f2,f3,f4,f5⟩:=hf it (by simp)
  refine wpAny_pyNext_tuple_item st (show s.heap.IsTuple a its.toArray from p) (x:=u) (by simpa using hu) λh' st' sb=>?_
  have I1:Inv X pins σ H {s with heap:=h'}:=I.turned (t':=s.toks) (λb o hb e=>(sb.2 b hb).trans e) f0 f1 f3 f4 f5
  obtain⟨o,e,c,d⟩:=id st'
  exact⟨u,rfl,Nf (s:={s with heap:=h'}) e c d (by decide) ⟨x,H,I1,ru,⟨rfl,λys hy=>by rw[I.tuple_inj hy hq];exact hx⟩,st',λb hb=>(hf b hb).1⟩⟩
 done:=by
  intro X hP hw hK hc i pins s σ H E I hf st hg
  subst hP hw hK
  obtain⟨xs,hq,hx⟩:=hg
  obtain⟨its,rv,p,hz⟩:=I.tuple hq
  obtain⟨f0,f1,f2,f3,f4,f5⟩:=hf it (by simp)
  have hl:=rv.length
  exact wpAny_pyNext_tuple_end (I.ok.hd hc) st (show s.heap.IsTuple a its.toArray from p) (by simp;lia) λh' eb=>⟨rfl,I.turned (t':=s.toks) (λb o hb e=>eb b o hb e) f0 f1 f3 f4 f5⟩
 self:=λ_ _ _ _ _ st h=>wpAny_pyIter_tupleiter st h
theorem Gw {P:Program} {w:World} {K:PySem.W.Frag} {tg:Expr} (it:Addr) (lo:Int) (n:Nat):Turn P w K tg (Itr lo n) [it] it (λi h=>IsRangeIter h it (lo+(i:Nat)*1) ((n:Int)-(i:Nat)) 1) where
 mem:=by simp
 obj:=λi h st b hb=>by
  have e:b=it:=by simpa using hb
  subst e
  exact⟨_,st,λv z=>by
   have z':Data.fields _=Data.cell v:=z
   cases z'⟩
 keep:=λi h h' st k=>k it (by simp) _ st
 item:=by
  intro X hP hw hK hc i pins s σ H E I hf st hg
  subst hP hw hK
  obtain⟨f0,f1,f2,f3,f4,f5⟩:=hf it (by simp)
  have W:=Walks.range (prog:=X.prog) (w:=X.w) (I.ok.hd hc) it lo 1 n
  refine W.item i s _ _ hg st λv h' tk hv st' kk=>?_
  obtain⟨t,rfl⟩:=hv
  have I1:Inv X pins σ H {s with heap:=h',toks:=tk}:=I.turned (λb o hb e=>kk b o (by simpa using hb) e) f0 f1 f3 f4 f5
  refine⟨_,rfl,Nf (s:={s with heap:=h',toks:=tk}) (n:="range_iterator") st' rfl rfl (by decide) ⟨.int (lo+i),H,I1,⟨t,?_⟩,⟨rfl,rfl⟩,st',λb hb=>(hf b hb).1⟩⟩
  rw[Int.mul_one]
 done:=by
  intro X hP hw hK hc i pins s σ H E I hf st hg
  subst hP hw hK
  obtain⟨f0,f1,f2,f3,f4,f5⟩:=hf it (by simp)
  exact wpAny_pyNext_range_end (I.ok.hd hc) st (by have:n<=i:=hg;lia) λh' eb=>⟨rfl,I.turned (t':=s.toks) (λb o hb e=>eb b o hb e) f0 f1 f3 f4 f5⟩
 self:=λ_ _ _ _ _ st h=>wpAny_pyIter_rangeiter st h
section
variable {X : Cx} {tg : Expr}
theorem Ng {pins:List (Addr×Obj)} {σ:St} {H:Hp} {s:Shared} {R:It->Hp->Prop} {E:Value->Shared->Prop} {lo hi:Int} {t u v:Tok} {tk:Nat} (I:Inv X pins σ H s) (h1:-(2 ^ 62)<=lo) (h2:lo<2 ^ 62) (h3:-(2 ^ 62)<=hi) (h4:hi<2 ^ 62)
  (q:R (Itr lo (hi-lo).toNat) H):wpAny (model X.prog X.w) X.A (pyIter (.ref s.heap.objs.size)) (PIE X pins σ tg R) E {s with heap:=s.heap.push {cls:=.type "range",data:=.fields #[.int lo t,.int hi u,.int 1 v]},toks:=tk}:=by
 refine wpAny_pyIter_range (IsRange.new ..) (small_one h1 h2 h3 h4) ?_
 have I1:Inv X pins σ H {s with heap:=s.heap.push {cls:=.type "range",data:=.fields #[.int lo t,.int hi u,.int 1 v]},toks:=tk}:=I.kept λb o e=>AC _ e
 refine⟨(s.heap.push {cls:=.type "range",data:=.fields #[.int lo t,.int hi u,.int 1 v]}).objs.size,[(s.heap.push {cls:=.type "range",data:=.fields #[.int lo t,.int hi u,.int 1 v]}).objs.size],_,_,H,rfl,
  I1.kept (t':=tk) λb o e=>AC _ e,Gw _ lo (hi-lo).toNat,?_,λb hb=>?_,q⟩
 ·have e1:lo+((0:Nat):Int)*1=lo:=by simp
  have e2:(((hi-lo).toNat:Nat):Int)-((0:Nat):Int)=Builtin.Range.rangeSize lo hi 1:=by rw[rangeSize_one];split<;>lia
  show IsRangeIter _ _ (lo+((0:Nat):Int)*1) ((((hi-lo).toNat:Nat):Int)-((0:Nat):Int)) 1
  rw[e1,e2]
  exact AJ _ rfl
 ·have e:b=(s.heap.push {cls:=.type "range",data:=.fields #[.int lo t,.int hi u,.int 1 v]}).objs.size:=by simpa using hb
  subst e
  exact I1.fpOk (AI _) (I1.hok.fresh (AI _))
def Za (ta:TA):TI:=λσ H R=>ta σ H λvs H1=>∃j:Int,vs=[.int j] /\ -(2 ^ 62)<=j/\j<2 ^ 62/\R (Itr 0 j.toNat) H1
theorem Iv {a:Expr} {ta:TA} {p pos:Pos} (hg:Gl X "range") (hm:X.mg "range"=none) (ha:PA X [a] ta) (hs:starEach [a] X.env=[(false,eval a X.env)]:=by rfl):PI X tg (.Call (.Name "range" p) [a] [] pos) (Za ta):=by
 intro pins s σ H R I h
 refine Call_ (qk I hg hm boot_range (CJ (thn (ha pos pins s σ H _ I h) λus s1 ⟨vs,H1,I1,r1,q1⟩=>?_) hs rfl))
 obtain⟨j,e,q1,q2,q⟩:=q1
 subst e
 cases r1 with
 | cons r rr =>
  cases rr
  obtain⟨t,rfl⟩:=r
  exact call_range_1 (Ng I1 (by lia) (by lia) q1 q2 (by simpa using q))
def acd (wi:TI) (g:TG) (tb:TS):TS:=λD σ H=>wi σ H λJ H1=>∃W:Nat->Nat->St->Hp->Prop,(∃m,W 0 m σ H1)/\∀i m σ H,W i m σ H ->
 (J.stop i H/\D.nx σ H)\/(J.go i H/\∃N:St->Hp->Prop,(∀σ' H',N σ' H'->∃m',m'<m/\W (i+1) m' σ' H')/\∀x H',J.yld i H x H'->g x σ H' λσ2 H2=>tb {D with nx:=N,ct:=N,bk:=D.nx} σ2 H2)
def A2 (fp:List Addr) (h:Heap):List (Addr×Obj):=fp.filterMap λb=>(h.get? b).map λo=>(b,o)
theorem p8 {fp:List Addr} {h:Heap} {b:Addr} {o:Obj} (hb:b∈fp) (e:h.get? b=some o):(b,o)∈A2 fp h:=List.mem_filterMap.mpr ⟨b,hb,by rw[e];rfl⟩
theorem Iw {fp:List Addr} {h:Heap} {p:Addr×Obj} (hp:p∈A2 fp h):p.1∈fp/\h.get? p.1=some p.2:=by
 obtain⟨b,hb,e⟩:=List.mem_filterMap.mp hp
 cases q:h.get? b with
 | none=>rw[q]at e;cases e
 | some o =>
  rw[q]at e
  have e':(b,o)=p:=CH e
  subst e'
  exact⟨hb,q⟩
theorem Inv.pinned {pins:List (Addr×Obj)} {σ:St} {H:Hp} {s:Shared} {fp:List Addr} (I:Inv X pins σ H s) (hf:∀b∈fp,Gu X pins H b) (ho:∀b∈fp,∃o,s.heap.get? b=some o/\∀v,o.data≠.cell v):Inv X (pins++A2 fp s.heap) σ H s :=
 I.pins_of λp hp=>(CM.mp hp).elim (λz=>I.pin p (CC _ z)) λz=>by
  obtain⟨hb,e⟩:=Iw z
  obtain⟨f0,f1,f2,_⟩:=hf p.1 hb
  obtain⟨o,e',d⟩:=ho p.1 hb
  rw[e]at e';cases e'
  exact⟨e,f0,f1,f2,d⟩
theorem Inv.unpinned {pins pl:List (Addr×Obj)} {σ:St} {H:Hp} {s:Shared} (I:Inv X (pins++pl) σ H s):Inv X pins σ H s:=I.pins_of λp hp=>I.pin p (CC _ (HJ _ hp))
theorem Vr {iter:Expr} {body:List Stmt} {wi:TI} {g:TG} {tb:TS} {pos:Pos} (hp:PassesOwn (model X.prog X.w) X.A X.env X.xe) (hc:X.calm=true) (hi:PI X tg iter wi) (hg:PG X tg g) (hb:PSs X body tb)
  (hs:∀x,foldedSetIterable iter X.env x=pure x:=by intro _;rfl):PS X (.For tg iter body [] pos) (acd wi g tb):=by
 intro pins s σ H D I h
 refine wpAny_For (thn (hi pins s σ H _ I h) λv s1 h1=>thn h1 λitv s2 h2=>?_) hs
 obtain⟨it,fp,tn,J,H2,e,I2,T,st2,f2,W,⟨m0,w0⟩,turn⟩:=h2
 subst e
 -- what stays true of the iterator's objects through the loop
 have stat:∀{H':Hp},(∀b∈fp,H' b=none)->∀b∈fp,Gu X pins H' b:=λhn b hb=>⟨hn b hb,(f2 b hb).2⟩
 refine codeAny_forLoop_any (λn s'=>∃i σ' H',Inv X pins σ' H' s'/\tn i s'.heap/\(∀b∈fp,H' b=none)/\W i n σ' H') ?_ m0 ⟨0,σ,H2,I2,st2,λb hb=>(f2 b hb).1,w0⟩
 rintro n s3 ⟨i,σ3,H3,I3,st3,fr3,w3⟩
 rcases turn i n σ3 H3 w3 with⟨stop,qn⟩ | ⟨go,N,hN,step⟩
 ·refine GF hp (thn (T.done X rfl rfl rfl hc i pins s3 σ3 H3 X.xe I3 (stat fr3) st3 stop) λr s4 ⟨hr,I4⟩=>?_)
  subst hr
  exact wpAny_execs_nil ⟨σ3,H3,I4,qn⟩
 ·refine GF hp (thn (T.item X rfl rfl rfl hc i pins s3 σ3 H3 X.xe I3 (stat fr3) st3 go) λr s4 ⟨u,hr,h4⟩=>?_)
  subst hr
  refine GF hp (thn h4 λ_ s5 ⟨x,H5,I5,r5,y5,st5,fr5⟩=>?_)
  have I5':=I5.pinned (stat fr5) (T.obj _ _ st5)
  refine GF hp (thn (hg _ s5 σ3 H5 x u _ I5' r5 (step x H5 y5)) λ_ s6 ⟨σ6,H6,I6,q6⟩=>?_)
  refine GF hp (thn (hb _ s6 σ6 H6 _ I6 q6) λf s7 q7=>?_)
  have again:∀{σ7:St} {H7:Hp},Inv X (pins++A2 fp s5.heap) σ7 H7 s7->N σ7 H7->∃m,m<n/\∃i σ' H',Inv X pins σ' H' s7/\tn i s7.heap/\(∀b∈fp,H' b=none)/\W i m σ' H':=λ{σ7 H7} I7 n7=>by
   obtain⟨m',hm,w7⟩:=hN σ7 H7 n7
   refine⟨m',hm,i+1,σ7,H7,I7.unpinned,T.keep _ _ _ st5 λb hb o e=>(I7.pin (b,o) (CC _ (CC _ (p8 hb e)))).1,λb hb=>?_,w7⟩
   obtain⟨o,e,d⟩:=T.obj _ _ st5 b hb
   exact(I7.pin (b,o) (CC _ (CC _ (p8 hb e)))).2.1
  cases f with
  | next=>obtain⟨σ7,H7,I7,n7⟩:=q7;exact again I7 n7
  | cont=>obtain⟨σ7,H7,I7,n7⟩:=q7;exact again I7 n7
  | brk=>obtain⟨σ7,H7,I7,q7⟩:=q7;exact⟨σ7,H7,I7.unpinned,q7⟩
  | ret v=>obtain⟨x7,σ7,H7,I7,r7,q7⟩:=q7;exact⟨x7,σ7,H7,I7.unpinned,r7,q7⟩
end
abbrev R2:=V->V->Hp->VK->Prop
def OpR (X:Cx) (f:Value->Value->Sem Value) (r:R2):Prop :=
 ∀(pins:List (Addr×Obj)) (s:Shared) (σ:St) (H:Hp) (x y:V) (v u:Value) (Q:VK),Inv X pins σ H s->RelV x v->RelV y u->r x y H Q ->
  wpAny (model X.prog X.w) X.A (f v u) (EP X pins σ Q) X.xe s
def UnR (X:Cx) (f:Value->Sem Value) (r:V->Hp->VK->Prop):Prop :=
 ∀(pins:List (Addr×Obj)) (s:Shared) (σ:St) (H:Hp) (x:V) (v:Value) (Q:VK),Inv X pins σ H s->RelV x v->r x H Q ->
  wpAny (model X.prog X.w) X.A (f v) (EP X pins σ Q) X.xe s
def gr (X:Cx) (f:Value) (r:List V->Hp->VK->Prop):Prop :=
 ∀(pins:List (Addr×Obj)) (s:Shared) (σ:St) (H:Hp) (xs:List V) (us:List Value) (Q:VK),Inv X pins σ H s->cz xs us->r xs H Q ->
  wpAny (model X.prog X.w) X.A (call f us) (EP X pins σ Q) X.xe s
def ace (X:Cx) (r:V->Hp->(Bool->Hp->Prop)->Prop):Prop :=
 ∀(pins:List (Addr×Obj)) (s:Shared) (σ:St) (H:Hp) (x:V) (v:Value) (Q:Bool->Hp->Prop),Inv X pins σ H s->RelV x v->r x H Q ->
  wpAny (model X.prog X.w) X.A (truthy v) (TP X pins σ Q) X.xe s
def tOp (r:R2) (ta tb:TE):TE:=λσ H Q=>ta σ H λx H1=>tb σ H1 λy H2=>r x y H2 Q
def tUn (r:V->Hp->VK->Prop) (ta:TE):TE:=λσ H Q=>ta σ H λx H1=>r x H1 Q
def rI (C:Int->Int->Prop) (g:Int->Int->V):R2:=λx y H Q=>∃i j,x=.int i/\y=.int j/\C i j/\Q (g i j) H
def rI0 (g:Int->Int->V):R2:=λx y H Q=>∃i j,x=.int i/\y=.int j/\Q (g i j) H
def rU (g:Int->V):V->Hp->VK->Prop:=λx H Q=>∃i,x=.int i/\Q (g i) H
section
variable {X : Cx} {a b c : Expr} {ta tb tc : TE} {pos : Pos}
theorem aa0 (ha:PE X a ta) (hb:PE X b tb) {pins:List (Addr×Obj)} {s:Shared} {σ:St} {H:Hp} {R:V->V->Hp->Prop} (I:Inv X pins σ H s)
  (h:ta σ H λx H1=>tb σ H1 λy H2=>R x y H2) {Q:Value->Shared->Prop} {f:Value->Value->Sem Value}
  (hf:∀v u s2 x y H2,Inv X pins σ H2 s2->RelV x v->RelV y u->R x y H2->wpAny (model X.prog X.w) X.A (f v u) Q X.xe s2) :
  wpAny (model X.prog X.w) X.A (eval a X.env) (λv s₁=>wpAny (model X.prog X.w) X.A (eval b X.env) (λu s₂=>wpAny (model X.prog X.w) X.A (f v u) Q X.xe s₂) X.xe s₁) X.xe s:=by
 refine thn (ha pins s σ H _ I h) λv s1 ⟨x,H1,I1,r1,q1⟩=>?_
 refine thn (hb pins s1 σ H1 _ I1 q1) λu s2 ⟨y,H2,I2,r2,q2⟩=>?_
 exact hf v u s2 x y H2 I2 r1 r2 q2
theorem Zb {op:Operator} {r:R2} (ho:OpR X (binaryOp op) r) (ha:PE X a ta) (hb:PE X b tb):PE X (.BinOp a op b pos) (tOp r ta tb):=by
 intro pins s σ H Q I h
 exact wpAny_BinOp (aa0 ha hb I h λv u s2 x y H2 I2 rx ry q=>ho pins s2 σ H2 x y v u Q I2 rx ry q)
theorem Vs {op:UnaryOp} {r:V->Hp->VK->Prop} (ho:UnR X (unaryOp op) r) (ha:PE X a ta):PE X (.UnaryOp op a pos) (tUn r ta):=by
 intro pins s σ H Q I h
 exact UnaryOp_ (thn (ha pins s σ H _ I h) λv s1 ⟨x,H1,I1,r1,q1⟩=>ho pins s1 σ H1 x v Q I1 r1 q1)
theorem opI {f:Value->Value->Sem Value} {C:Int->Int->Prop} {g:Int->Int->Int}
  (rule:∀(i j:Int) (t u:Tok) (s:Shared) (Q:Value->Shared->Prop) (E:Value->Shared->Prop),C i j->Q (.int (g i j) s.toks) {s with toks:=s.toks+1}->wpAny (model X.prog X.w) X.A (f (.int i t) (.int j u)) Q E s) :
  OpR X f (rI C λi j=>.int (g i j)):=by
 intro pins s σ H x y v u Q I rx ry h
 obtain⟨i,j,rfl,rfl,hc,q⟩:=h
 obtain⟨t,rfl⟩:=rx
 obtain⟨t',rfl⟩:=ry
 exact rule i j t t' s _ _ hc ⟨.int (g i j),H,I.tok _,⟨_,rfl⟩,q⟩
theorem aa1 {f:Value->Value->Sem Value} {g:Int->Int->Int}
  (rule:∀(i j:Int) (t u:Tok) (s:Shared) (Q:Value->Shared->Prop) (E:Value->Shared->Prop),Q (.int (g i j) s.toks) {s with toks:=s.toks+1}->wpAny (model X.prog X.w) X.A (f (.int i t) (.int j u)) Q E s) :
  OpR X f (rI0 λi j=>.int (g i j)):=by
 intro pins s σ H x y v u Q I rx ry h
 obtain⟨i,j,rfl,rfl,q⟩:=h
 obtain⟨t,rfl⟩:=rx
 obtain⟨t',rfl⟩:=ry
 exact rule i j t t' s _ _ ⟨.int (g i j),H,I.tok _,⟨_,rfl⟩,q⟩
theorem Yv {f:Value->Value->Sem Value} {g:Int->Int->Bool}
  (rule:∀(i j:Int) (t u:Tok) (s:Shared) (Q:Value->Shared->Prop) (E:Value->Shared->Prop),Q (.bool (g i j)) s->wpAny (model X.prog X.w) X.A (f (.int i t) (.int j u)) Q E s) :
  OpR X f (rI0 λi j=>.bl (g i j)):=by
 intro pins s σ H x y v u Q I rx ry h
 obtain⟨i,j,rfl,rfl,q⟩:=h
 obtain⟨t,rfl⟩:=rx
 obtain⟨t',rfl⟩:=ry
 exact rule i j t t' s _ _ ⟨.bl (g i j),H,I,rfl,q⟩
def acf (i j:Int):Prop:=0<j/\j<1073741824
def acg (i j:Int):Prop:=0<=j/\j<=1000000/\i.natAbs<2 ^ 64
def CMul (i j:Int):Prop:=(-(2 ^ 64)<i/\i<2 ^ 64)\/(-(2 ^ 64)<j/\j<2 ^ 64)
theorem CMul.ok {i j:Int} (h:CMul i j):IntMulOk i j:=by
 rcases h with⟨h1,h2⟩ | ⟨h1,h2⟩
 ·exact .of_left (intBits_le_64 h1 h2)
 ·exact .of_right (intBits_le_64 h1 h2)
theorem Gx (k:Nat):(0:Int)<=2 ^ k:=by
 rw[two_pow_cast]
 exact Int.natCast_nonneg _
theorem op_add:OpR X (binaryOp .Add) (rI0 λi j=>.int (i+j)):=aa1 λ_ _ _ _ _ _ _ q=>add_int q
theorem op_sub:OpR X (binaryOp .Sub) (rI0 λi j=>.int (i-j)):=aa1 λ_ _ _ _ _ _ _ q=>sub_int q
theorem op_mul:OpR X (binaryOp .Mult) (rI CMul λi j=>.int (i*j)):=opI λ_ _ _ _ _ _ _ hc q=>mul_int q hc.ok
theorem Sa:OpR X (binaryOp .FloorDiv) (rI acf λi j=>.int (i / j)):=opI λi j _ _ _ _ _ hc q=>by
 have h1:(0:Int)<j:=hc.1
 have h2:j<1073741824:=hc.2
 exact floordiv_int (by lia) (by rw[HZ i (by lia)];exact q) (.inl (PyProof.noPylong_small (by lia)))
theorem op_mod:OpR X (binaryOp .Mod) (rI (λ_ j=>0<j) λi j=>.int (i % j)):=opI λi j _ _ _ _ _ hc q=>by
 have h1:(0:Int)<j:=hc
 exact mod_int' (by lia) (by rw[Int.fmod_eq_emod_of_nonneg i (by lia)];exact q)
theorem op_pow:OpR X (binaryOp .Pow) (rI acg λi j=>.int (i ^ j.toNat)):=opI λ_ _ _ _ _ _ _ hc q=>pow_int_small hc.1 hc.2.1 hc.2.2 q
theorem op_shr:OpR X (binaryOp .RShift) (rI (λ_ j=>0<=j) λi j=>.int (i / 2 ^ j.toNat)):=opI λi j _ _ _ _ _ hc q =>
 rshift_int hc (by rw[HZ i (Gx _)];exact q)
theorem unI {f:Value->Sem Value} {g:Int->Int}
  (rule:∀(i:Int) (t:Tok) (s:Shared) (Q:Value->Shared->Prop) (E:Value->Shared->Prop),Q (.int (g i) s.toks) {s with toks:=s.toks+1}->wpAny (model X.prog X.w) X.A (f (.int i t)) Q E s) :
  UnR X f (rU λi=>.int (g i)):=by
 intro pins s σ H x v Q I rx h
 obtain⟨i,rfl,q⟩:=h
 obtain⟨t,rfl⟩:=rx
 exact rule i t s _ _ ⟨.int (g i),H,I.tok _,⟨_,rfl⟩,q⟩
theorem Pw:UnR X (unaryOp .USub) (rU λi=>.int (-i)):=unI λ_ _ _ _ _ q=>neg_int q
theorem Px {pins:List (Addr×Obj)} {σ:St} {H:Hp} {s:Shared} {Q:VK} {k k':Bool} (I:Inv X pins σ H s) (q:Q (.bl k) H) (e:k=k'):EP X pins σ Q (.bool k') s:=by
 subst e
 exact⟨.bl k,H,I,rfl,q⟩
theorem Zc:OpR X (compareOp .Lt) (rI0 λi j=>.bl (decide (i<j))):=Yv λ_ _ _ _ _ _ _ q=>lt_int q
theorem Zd:OpR X (compareOp .LtE) (rI0 λi j=>.bl (decide (i<=j))):=Yv λ_ _ _ _ _ _ _ q=>le_int q
theorem Ze:OpR X (compareOp .Gt) (rI0 λi j=>.bl (decide (j<i))):=Yv λ_ _ _ _ _ _ _ q=>gt_int q
theorem Zf:OpR X (compareOp .GtE) (rI0 λi j=>.bl (decide (j<=i))):=Yv λ_ _ _ _ _ _ _ q=>ge_int q
theorem Vt:OpR X (compareOp .Is) (λx y H Q=>y=.non/\Q (.bl (decide (x=.non))) H):=by
 intro pins s σ H x y v u Q I rx ry h
 obtain⟨rfl,q⟩:=h
 cases ry
 refine is_none_gen (Px I q ?_)
 cases x<;>first
  | (cases rx;rfl)
  | (obtain⟨t,rfl⟩:=rx;rfl)
theorem Sb:OpR X (compareOp .IsNot) (λx y H Q=>y=.non/\Q (.bl (!decide (x=.non))) H):=by
 intro pins s σ H x y v u Q I rx ry h
 obtain⟨rfl,q⟩:=h
 cases ry
 refine isnot_none_gen (Px I q ?_)
 cases x<;>first
  | (cases rx;rfl)
  | (obtain⟨t,rfl⟩:=rx;rfl)
def aa2 (K:PySem.W.Frag) (x:V) (H:Hp) (k:Bool):Prop :=
 match x with
 | .non=>k=false
 | .bl b=>k=b
 | .int i=>k=(i != 0)
 | .str y=>y.length<=sizeLine/\k=((y.length:Int) != 0)
 | .byt y=>y.size<=sizeLine/\k=((y.size:Int) != 0)
 | .ref p=>(∃xs,SqL K H p xs/\k=!xs.isEmpty)\/(∃xs,SqT K H p xs/\k=!xs.isEmpty)\/∃kvs,H p=some (.dK kvs)/\k=!kvs.isEmpty
 | _=>False
theorem Gy {κ:Type} {kvs:List (κ×V)} {vs:List (κ×Value)} (r:KV kvs vs):(!vs.isEmpty)=!kvs.isEmpty:=by
 cases r<;>rfl
theorem ye {xs:List V} {its:List Value} (r:cz xs its):(!its.toArray.isEmpty)=!xs.isEmpty:=by
 cases r<;>simp
theorem yf:(sizeLine:Nat)<2 ^ 63:=by rw[Db];decide
theorem Vu:ace X (λx H Q=>∃k,aa2 X.K x H k/\Q k H):=by
 intro pins s σ H x v Q I rx h
 obtain⟨k,e,q⟩:=h
 have hl:=yf
 have hs:sizeLine=16777216:=Db
 cases x with
 | non =>
  cases rx
  have e':k=false:=e
  subst e'
  exact truthy_none ⟨H,I,q⟩
 | bl b =>
  cases rx
  have e':k=b:=e
  subst e'
  exact DO ⟨H,I,q⟩
 | int i =>
  obtain⟨t,rfl⟩:=rx
  have e':k=(i != 0):=e
  subst e'
  exact PySem.P.truthy_int ⟨H,I,q⟩
 | str y =>
  obtain⟨t,rfl⟩:=rx
  obtain⟨hy,e'⟩:y.length<=sizeLine/\k=((y.length:Int) != 0):=e
  subst e'
  exact PySem.P.truthy_str (by lia) ⟨H,I.tok _,q⟩
 | byt y =>
  obtain⟨t,rfl⟩:=rx
  obtain⟨hy,e'⟩:y.size<=sizeLine/\k=((y.size:Int) != 0):=e
  subst e'
  exact PySem.W.truthy_bytes (by lia) ⟨H,I.tok _,q⟩
 | ref p =>
  cases rx
  have e':(∃xs,SqL X.K H p xs/\k=!xs.isEmpty)\/(∃xs,SqT X.K H p xs/\k=!xs.isEmpty)\/∃kvs,H p=some (.dK kvs)/\k=!kvs.isEmpty:=e
  rcases e' with⟨xs,hx,e'⟩ | ⟨xs,hx,e'⟩ | ⟨kvs,hx,e'⟩
  ·subst e'
   obtain⟨its,r,pl,hz⟩:=I.list hx
   have hlen:=r.length
   exact wpAny_truthy_list pl.isList (by simp![AG];lia) ⟨H,I.tok _,by rw[ye r];exact q⟩
  ·subst e'
   obtain⟨its,r,pl,hz⟩:=I.tuple hx
   have hlen:=r.length
   exact truthy_tuple pl (by simp![AG];lia) ⟨H,I.tok _,by rw[ye r];exact q⟩
  ·subst e'
   obtain⟨hz,hS,vs,r,m⟩:kvs.length<=sizeLine/\(p==sysModules)=false/\∃vs,KV kvs vs/\s.heap.DictOf (dm X.prog X.w) p vs:=I.hok p _ hx
   have hlen:kvs.length=vs.length:=EE r
   exact wpAny_truthy_dict hS m (by lia) ⟨H,I.tok _,by rw[Gy r];exact q⟩
 | _=>exact(show False from e).elim
theorem Nh (ha:PE X a ta) (he:∀whole,isTrue a X.env whole=(do let v <-whole;standAt a.pos;holding [v] (truthy v))) :
  PT X a (λσ H Q=>ta σ H λx H'=>∃k,aa2 X.K x H' k/\Q k H'):=by
 intro pins s σ H Q I h
 exact isTrue_plain (thn (ha pins s σ H _ I h) λv s1 ⟨x,H1,I1,r1,q1⟩=>Vu pins s1 σ H1 x v Q I1 r1 q1) (he _)
theorem vals1 {x:V} {us:List Value} (r:cz [x] us):∃u,us=[u]/\RelV x u:=by
 cases r with
 | cons r1 r2=>cases r2;exact⟨_,rfl,r1⟩
theorem vals2 {x y:V} {us:List Value} (r:cz [x,y] us):∃u w',us=[u,w']/\RelV x u/\RelV y w':=by
 cases r with
 | cons r1 r2 =>
  cases r2 with
  | cons r3 r4=>cases r4;exact⟨_,_,rfl,r1,r3⟩
theorem Iy (hc:X.calm=true):gr X (.builtin "max") (λxs H Q=>∃i j,xs=[.int i,.int j]/\Q (.int (if j > i then j else i)) H):=by
 intro pins s σ H xs us Q I r h
 obtain⟨i,j,rfl,q⟩:=h
 obtain⟨u,w',rfl,⟨t,rfl⟩,⟨t',rfl⟩⟩:=vals2 r
 refine max_two_ints (I.ok.hd hc) λh' tk k=>⟨_,H,I.kept k,?_,q⟩
 by_cases hj:j > i
 ·rw[if_pos hj,if_pos hj];exact⟨_,rfl⟩
 ·rw[if_neg hj,if_neg hj];exact⟨_,rfl⟩
theorem Iz (hc:X.calm=true):gr X (.builtin "min") (λxs H Q=>∃i j,xs=[.int i,.int j]/\Q (.int (if j<i then j else i)) H):=by
 intro pins s σ H xs us Q I r h
 obtain⟨i,j,rfl,q⟩:=h
 obtain⟨u,w',rfl,⟨t,rfl⟩,⟨t',rfl⟩⟩:=vals2 r
 refine min_two_ints (I.ok.hd hc) λh' tk k=>⟨_,H,I.kept k,?_,q⟩
 by_cases hj:j<i
 ·rw[if_pos hj,if_pos hj];exact⟨_,rfl⟩
 ·rw[if_neg hj,if_neg hj];exact⟨_,rfl⟩
end
structure Room (k:Nat) (A:Around):Prop where
 hd:A.handled=none
 dp:A.depth+3*k+5<recursionLimit
 un:A.units+16*k+200<cLine
theorem Room.deeper {k:Nat} {A:Around} (r:Room (k+1) A) (env:Env):Room k (A.deeper env) :=
 ⟨r.hd,by have:=r.dp;show A.depth+1+3*k+5<_;lia,by have:=r.un;show A.units+3+16*k+200<_;lia⟩
theorem Room.depth {k:Nat} {A:Around} (r:Room k A):A.depth<recursionLimit:=by have:=r.dp;lia
theorem Room.units {k:Nat} {A:Around} (r:Room k A):A.units+64<cLine:=by have:=r.un;lia
def tNil:TA:=λ_ H Q=>Q [] H
def Zg (ta:TE) (tr:TA):TA:=λσ H Q=>ta σ H λx H1=>tr σ H1 λxs H2=>Q (x::xs) H2
section
variable {X : Cx} {e : Expr} {es : List Expr} {te : TE} {t : TA} {pos : Pos}
theorem Py:PA X [] tNil:=λ_ _ _ _ H Q I h=>EO ⟨[],H,I,.nil,h⟩
theorem C1 (ha:PE X e te) (hr:PA X es t) (hs:starEach (e::es) X.env=(false,eval e X.env)::starEach es X.env:=by rfl):PA X (e::es) (Zg te t):=by
 intro pos pins s σ H Q I h
 rw[hs]
 show wpAny _ _ (spliced ((false,eval e X.env)::backTo pos (starEach es X.env))) _ _ s
 refine DW (thn (ha pins s σ H _ I h) λu s1 ⟨x,H1,I1,r1,q1⟩=>?_)
 exact thn (hr pos pins s1 σ H1 _ I1 q1) λus s2 ⟨xs,H2,I2,r2,q2⟩=>⟨x::xs,H2,I2,.cons r1 r2,q2⟩
def ach (t:TA):TE:=λσ H Q=>t σ H λxs H1=>xs.length<=sizeLine/\∀p,H1 p=none->Q (.ref p) (upd H1 p (.tup xs))
def aci (t:TA):TE:=λσ H Q=>t σ H λxs H1=>xs.length<=sizeLine/\∀p,H1 p=none->Q (.ref p) (upd H1 p (.lst xs))
theorem Vv {x1} (h:PA X es t):PE X (.Tuple es x1 pos) (ach t):=by
 intro pins s σ H Q I hq
 refine wpAny_Tuple_spliced (thn (h pos pins s σ H _ I hq) λus s1 ⟨xs,H1,I1,r,z,q⟩=>⟨by rw[<-r.length];exact z,?_⟩)
 have hf:H1 s1.heap.objs.size=none:=I1.hok.fresh (AI _)
 refine⟨.ref s1.heap.objs.size,upd H1 s1.heap.objs.size (.tup xs),I1.laid (t':=s1.toks) (λb u e=>AC _ e) (AI _) ?_,rfl,q _ hf⟩
 exact⟨z,us,r,⟨_,AJ _ rfl,rfl,rfl,_,rfl⟩⟩
theorem Vw (h:PA X es t):PE X (.List es pos) (aci t):=by
 intro pins s σ H Q I hq
 refine wpAny_List_spliced (thn (h pos pins s σ H _ I hq) λus s1 ⟨xs,H1,I1,r,z,q⟩=>⟨by rw[<-r.length];exact z,?_⟩)
 have hf:H1 s1.heap.objs.size=none:=I1.hok.fresh (AI _)
 refine⟨.ref s1.heap.objs.size,upd H1 s1.heap.objs.size (.lst xs),I1.laid (t':=s1.toks) (λb u e=>AC _ e) (AI _) ?_,rfl,q _ hf⟩
 exact⟨z,us,0,r,AJ _ rfl⟩
end
abbrev Sp:=List V->Hp->VK->XK->Prop
abbrev CXT:=List Env->Hp->Shared->XK->Value->Shared->Prop
structure Env0 (P:Program) (w:World) (K:PySem.W.Frag) (mg:Str->Option Value) (base:Heap) (A:Around) (outer:List Env) (s:Shared) (H:Hp):Prop where
 frames:A.frames=some outer
 mod:Mod K mg base
 bs:∀b o,base.get? b=some o->s.heap.get? b=some o/\H b=none
 bsz:base.objs.size<=s.heap.objs.size
 funs:s.heap.FunFrames base outer
 frf:∀b∈frs outer,H b=none
 hok:HOk P w H s.heap
 bare:AllBare s.gens
def CE (outer:List Env) (P:Program) (w:World) (H:Hp) (s:Shared) (Q:VK) (u:Value) (s':Shared):Prop :=
 ∃v H',s'.os=s.os/\AllBare s'.gens/\Un (frs outer) [] H H' s.heap s'.heap/\HOk P w H' s'.heap/\RelV v u/\Q v H'
def CR (CX:CXT) (outer:List Env) (P:Program) (w:World) (H:Hp) (s:Shared) (Q:VK) (E:XK) (r:Result) (s':Shared):Prop :=
 match r with
 | .ok (.ret u)=>CE outer P w H s Q u s'
 | .ok _=>False
 | .error e=>CX outer H s E e s'
structure FnOk (P:Program) (w:World) (K:PySem.W.Frag) (mg:Str->Option Value) (base:Heap) (CX:CXT) (k:Nat) (f:Addr) (fd:FuncData) (ps:List Str) (sp:Sp):Prop where
 len:∀vs H Q E,sp vs H Q E->vs.length=ps.length
 run:∀(A:Around) (outer:List Env) (s:Shared) (H:Hp) (args:Args) (us:List Value) (vs:List V) (Q:VK) (E:XK),Room k A->Env0 P w K mg base A outer s H->BindsTo s fd args (ps.zip us)->cz vs us->sp vs H Q E ->
  codeAny (model P w) A (.call (.ref f) args) (CR CX outer P w H s Q E) s
theorem FnOk.imp {P:Program} {w:World} {K:PySem.W.Frag} {mg:Str->Option Value} {base:Heap} {CX:CXT} {k:Nat} {f:Addr} {fd:FuncData} {ps:List Str} {sp sp':Sp} (F:FnOk P w K mg base CX k f fd ps sp)
  (h:∀vs H Q E,sp' vs H Q E->sp vs H Q E):FnOk P w K mg base CX k f fd ps sp' :=
 ⟨λvs H Q E q=>F.len vs H Q E (h _ _ _ _ q),λA outer s H args us vs Q E hr he hb hv hs=>F.run A outer s H args us vs Q E hr he hb hv (h _ _ _ _ hs)⟩
section
variable {X : Cx} {pins : List (Addr × Obj)} {σ : St} {H : Hp} {s s' : Shared}
theorem Inv.env0 (I:Inv X pins σ H s):Env0 X.prog X.w X.K X.mg X.base X.A X.stack s H :=
 ⟨I.ok.frames,I.ok.mod,I.bs,CL I.ok.bsz I.sz,I.stack,I.stkFree,I.hok,I.bare⟩
theorem Inv.after {Q:VK} {u:Value} (I:Inv X pins σ H s) (h:CE X.stack X.prog X.w H s Q u s'):EP X pins σ Q u s':=by
 obtain⟨v,H',os,bare,un,hok,r,q⟩:=h
 obtain⟨hh,g,d,t,os'⟩:=s'
 obtain rfl:os'=s.os:=os
 exact⟨v,H',I.call (h':=hh) (g':=g) (d':=d) (t':=t) (ch:=[]) un hok bare (λb z=>absurd z (by simp)),r,q⟩
end
def Zh (sp:Sp) (dvs:List V) (E:XK) (t:TA):TE:=λσ H Q=>t σ H λvs H1=>sp (vs++dvs) H1 Q E
def Binds (K:PySem.W.Frag) (fd:FuncData) (ps:List Str) (ds:List Value):Prop :=
 ∀(s:Shared) (us:List Value),K.In s.heap->(us++ds).length=ps.length->BindsTo s fd ⟨us,[]⟩ (ps.zip (us++ds))
theorem Binds.all {K:PySem.W.Frag} {fd:FuncData} {ps:List Str} (h:∀us:List Value,us.length=ps.length->bindArgs fd ⟨us,[]⟩=pure (ps.zip us)):Binds K fd ps []:=λs us _ hl=>by
 rw[GG]at hl ⊢
 exact .of_eq (h us hl)
def I0 (CX:CXT) (X:Cx) (E:XK):Prop:=∀(pins:List (Addr×Obj)) (σ:St) (H:Hp) (s:Shared) (e:Value) (s':Shared),Inv X pins σ H s->CX X.stack H s E e s'->X.xe e s'
section
variable {X : Cx} {CX : CXT} {k : Nat} {f C : Addr} {fd : FuncData} {ps : List Str} {sp : Sp} {dvs : List V} {ds : List Value} {E : XK} {x m : Str} {p pos apos : Pos} {e o : Expr} {es : List Expr} {ta : TE} {t : TA}
theorem Vx {pins:List (Addr×Obj)} {σ:St} {H:Hp} {s:Shared} {Q:VK} {us:List Value} {vs:List V} (F:FnOk X.prog X.w X.K X.mg X.base CX k f fd ps sp) (hr:Room k X.A) (hb:Binds X.K fd ps ds) (hd:cz dvs ds) (hx:I0 CX X E)
  (I:Inv X pins σ H s) (r:cz vs us) (h:sp (vs++dvs) H Q E):wpAny (model X.prog X.w) X.A (call (.ref f) us) (EP X pins σ Q) X.xe s:=by
 have r2:cz (vs++dvs) (us++ds):=r.append hd
 have hl:(us++ds).length=ps.length:=by rw[<-r2.length];exact F.len _ _ _ _ h
 refine wpAny_call (GO (F.run X.A X.stack s H ⟨us,[]⟩ (us++ds) (vs++dvs) Q E hr I.env0 (hb s us I.kIn hl) r2 h) λr s' hq=>?_)
 cases r with
 | error e=>exact hx pins σ H s e s' I hq
 | ok fl =>
  cases fl with
  | ret u=>exact I.after hq
  | next=>exact False.elim hq
  | brk=>exact False.elim hq
  | cont=>exact False.elim hq
theorem Sd (F:FnOk X.prog X.w X.K X.mg X.base CX k f fd ps sp) (hr:Room k X.A) (hg:Gl X x) (hm:X.mg x=some (.ref f)) (hk:PySem.W.keepIn X.K (.ref f)=true) (hb:Binds X.K fd ps ds) (hd:cz dvs ds) (hx:I0 CX X E)
  (ha:PA X (e::es) t) (hdb:(x==("__debug__":Str))=false:=by decide) (he:starEach (e::es) X.env=(false,eval e X.env)::starEach es X.env:=by rfl) (hpl:(backTo pos (starEach es X.env)).any (·.1)=false:=by rfl) :
  PE X (.Call (.Name x p) (e::es) [] pos) (Zh sp dvs E t):=by
 intro pins s σ H Q I h
 refine DX (R1 I hg hm ?_ hdb)
 refine PySem.W.callWith_K (h₀:=X.base) I.ok.mod.kin hk (thn (ha pos pins s σ H _ I h) λus s1 ⟨vs,H1,I1,r,q⟩=>⟨I1.kIn,?_⟩) he hpl
 exact Vx F hr hb hd hx I1 r q
structure Mk (K:PySem.W.Frag) (C f:Addr):Prop where
 makes:PySem.W.makesIn K C=true
 init:PySem.W.findIn K (.ref C) "__init__"=some (some (.ref f))
 fn:PySem.W.isFn K (.ref f)=true
 kp:PySem.W.keepIn K (.ref C)=true
end
structure FnScope (N P:List Str) (sc:Scope):Prop where
 kind:sc.kind=.function
 co:sc.isCoroutine=false
 gen:sc.isGenerator=false
 nd:N.Nodup
 pre:N.take P.length=P
 par:∀x∈P,sc.names.lookup x=some .local\/sc.names.lookup x=some .cell
 nofree:∀y∈sc.names,y.2≠.free
theorem A3 {kindOf:Str->Option NameKind} {x:Str}:∀{binds:List (Str×Value)} {m:Str->Option Value},(∀v,(x,v)∉binds)->bindL kindOf binds m x=m x
 | [],_,_=>rfl
 | (n,v)::r,m,h=>by
  unfold bindL
  rw[A3 λw hw=>h w (AH _ hw)]
  split
  ·have:x≠n:=by rintro rfl;exact h v AQ
   simp[this]
  ·rfl
theorem A4 {kindOf:Str->Option NameKind} {x:Str}:∀{binds:List (Str×Value)} {m:Str->Option Value},(∀v,(x,v)∉binds)->bindC kindOf binds m x=m x
 | [],_,_=>rfl
 | (n,v)::r,m,h=>by
  unfold bindC
  rw[A4 λw hw=>h w (AH _ hw)]
  split
  ·rfl
  ·have:x≠n:=by rintro rfl;exact h v AQ
   simp[this]
theorem A5 {kindOf:Str->Option NameKind} {x:Str} {v:Value}:∀{P:List Str} {vs:List Value} {i:Nat} {m:Str->Option Value},P.Nodup->P[i]? = some x->vs[i]? = some v->kindOf x=some .local ->
  bindL kindOf (P.zip vs) m x=some v
 | [],_,_,_,_,h,_,_=>by simp at h
 | _::_,[],_,_,_,_,h,_=>by simp at h
 | p::P,w::vs,0,m,nd,h1,h2,hk=>by
  simp at h1 h2;subst h1;subst h2
  show bindL kindOf ((p,w)::P.zip vs) m p=_
  unfold bindL
  rw[A3 λv hv=>(DS.mp nd).1 (HN hv).1,if_pos hk]
  simp
 | p::P,w::vs,i+1,m,nd,h1,h2,hk=>by
  show bindL kindOf ((p,w)::P.zip vs) m x=_
  unfold bindL
  exact A5 (i:=i) (DS.mp nd).2 (by simpa using h1) (by simpa using h2) hk
theorem A6 {kindOf:Str->Option NameKind} {x:Str} {v:Value}:∀{P:List Str} {vs:List Value} {i:Nat} {m:Str->Option Value},P.Nodup->P[i]? = some x->vs[i]? = some v->kindOf x≠some .local ->
  bindC kindOf (P.zip vs) m x=some v
 | [],_,_,_,_,h,_,_=>by simp at h
 | _::_,[],_,_,_,_,h,_=>by simp at h
 | p::P,w::vs,0,m,nd,h1,h2,hk=>by
  simp at h1 h2;subst h1;subst h2
  show bindC kindOf ((p,w)::P.zip vs) m p=_
  unfold bindC
  rw[A4 λv hv=>(DS.mp nd).1 (HN hv).1,if_neg hk]
  simp
 | p::P,w::vs,i+1,m,nd,h1,h2,hk=>by
  show bindC kindOf ((p,w)::P.zip vs) m x=_
  unfold bindC
  exact A6 (i:=i) (DS.mp nd).2 (by simpa using h1) (by simpa using h2) hk
def start (N:List Str) (vs:List V):St:=vs.map some++List.replicate (N.length-vs.length) none
def Ni (CX:CXT) (P:Program) (w:World) (K:PySem.W.Frag) (mg:Str->Option Value) (base:Heap) (N:List Str) (qual:Str) (scope:Scope) (f:Addr) (cd:Value) (A:Around) (outer:List Env) (s:Shared) (H:Hp) (E:XK):Cx where
 prog:=P
 w:=w
 K:=K
 mg:=mg
 base:=base
 A:=A.deeper (envOfC qual scope s.heap.objs.size f cd)
 N:=N
 s₀:=s
 H₀:=H
 env:=envOfC qual scope s.heap.objs.size f cd
 outer:=outer
 stack:=envOfC qual scope s.heap.objs.size f cd::outer
 ex:=[]
 calm:=true
 fn:=λ_=>true
 pn:=[]
 xe:=λe s'=>wpAny (model P w) (A.deeper (envOfC qual scope s.heap.objs.size f cd)) (leaving (envOfC qual scope s.heap.objs.size f cd) e) (λ_ s''=>CX outer H s E e s'') (λe' s''=>CX outer H s E e' s'') s'
theorem Et {sc:Scope} {n:Nat} {x:Str} (h:sc.names.lookup x=some .cell):∃c,(cellsFrom n sc.names []).lookup x=some c:=by
 have q:=JJ sc.names n [] (.inl h)
 exact DZ.mp q
theorem Ja {CX:CXT} {P:Program} {w:World} {K:PySem.W.Frag} {mg:Str->Option Value} {base:Heap} {N ps:List Str} {qual:Str} {scope:Scope} {f:Addr} {cd:Value} {A:Around} {outer:List Env} {s s1:Shared} {H:Hp} {E:XK} {us:List Value} {vs:List V}
  (S:FnScope N ps scope) (hd:A.handled=none) (e0:Env0 P w K mg base A outer s H) (hl:vs.length=ps.length) (r:cz vs us)
  (x:InCallC s s.heap.objs.size (bindL (envOfC qual scope s.heap.objs.size f cd).kindOf (ps.zip us) λ_=>none) (cellsFrom (s.heap.objs.size+1) scope.names []) (bindC (envOfC qual scope s.heap.objs.size f cd).kindOf (ps.zip us) λ_=>none) s1) :
  Inv (Ni CX P w K mg base N qual scope f cd A outer s H E) [] (start N vs) H s1:=by
 have hpl:ps.length<=N.length:=by have:=congrArg List.length S.pre;rw[EX]at this;lia
 obtain⟨h1,tk,rfl,hk⟩:=x.done
 have noA:∀b:Addr,b∉(Ni CX P w K mg base N qual scope f cd A outer s H E).ex:=λb z=>absurd (show b∈([]:List Addr)from z) (by simp)
 refine⟨⟨e0.mod,S.kind,rfl,rfl,AI _,λy z c h1 h2=>?_,λy hy=>?_,λy c _ h=>?_,λ_=>hd,Around.frames_deeper e0.frames,.inr ⟨rfl,rfl⟩,λb z=>absurd z (noA b),e0.bs,e0.bsz,λb _ _=>noA b,λb z=>absurd z (noA b),e0.funs,e0.frf⟩,
  rfl,e0.bare,Un.kept hk,⟨_,x.toInCall.ns,λi y v h1 h2 h3=>?_⟩,λy c h=>⟨_,x.cell y c h⟩,e0.hok.fresh (AI _),λy c h=>?_,λp hp=>absurd (show p∈([]:List (Addr×Obj))from hp) (by simp),e0.hok.kept hk,?_⟩
 ·exact name_of_addr x.apart (EV h1) (EV h2)
 ·have hy:scope.names.lookup y=some .cell\/scope.names.lookup y=some .free:=hy
  rcases hy with hy | hy
  ·exact Et hy
  ·exact absurd rfl (S.nofree _ (EV hy))
 ·exact FD (x.above y c (EV h))
 ·have hi:i<vs.length:=by
   unfold start at h2
   by_cases hi:i<vs.length
   ·exact hi
   ·rw[BQ (by simpa using hi)]at h2
    rw[EA]at h2
    split at h2<;>cases h2
  have ha:vs[i]? = some v:=by
   unfold start at h2
   rw[AV (by simpa using hi),AW]at h2
   cases e:vs[i]? with
   | none=>rw[e]at h2;cases h2
   | some a=>rw[e]at h2;cases h2;rfl
  obtain⟨u,hu,rv⟩:=r.get ha
  have hp:ps[i]? = some y:=by
   rw[<-S.pre,IR (by lia)];exact h1
  have ndP:ps.Nodup:=by rw[<-S.pre];exact S.nd.sublist (List.take_sublist _ _)
  refine⟨u,rv,?_⟩
  rcases S.par y (BD hp)with k | k
  ·exact .inl ⟨k,A5 ndP hp hu k⟩
  ·obtain⟨c,e⟩:=Et (n:=s.heap.objs.size+1) k
   refine .inr ⟨.inl k,c,e,?_⟩
   have q:=x.cell y c e
   rw[A6 ndP hp hu (by show scope.names.lookup y≠_;rw[k];decide)]at q
   exact q
 ·exact e0.hok.fresh (FD (x.above y c (EV h)))
 ·unfold start
  show _=N.length
  rw[BU,AD,JX]
  lia
theorem Zi {CX:CXT} {P:Program} {w:World} {K:PySem.W.Frag} {mg:Str->Option Value} {base:Heap} {k:Nat} {f:Addr} {name qual:Str} {params:Arguments} {body:List Stmt} {scope:Scope} {dV kV doc pm cdv ct oc:Value} {an od:Option Addr}
  {osl:Array (Option Value)} {N ps:List Str} {sp:Sp} (lk:K.lookup f=some ⟨oc,od,.func (PySem.W.fnOf name qual params body scope dV kV doc pm an cdv ct),osl⟩) (hcd:PySem.W.codeIn K cdv qual=true) (S:FnScope N ps scope)
  (len:∀vs H Q E,sp vs H Q E->vs.length=ps.length)
  (hbody:∀(A:Around) (outer:List Env) (s:Shared) (H:Hp) (vs:List V) (Q:VK) (E:XK),Room k (A.deeper (envOfC qual scope s.heap.objs.size f cdv))->sp vs H Q E ->
   ∃t,PSs (Ni CX P w K mg base N qual scope f cdv A outer s H E) body t/\t {nx:=λ_ H'=>Q .non H',rt:=Q} (start N vs) H) :
  FnOk P w K mg base CX (k+1) f (PySem.W.fnOf name qual params body scope dV kV doc pm an cdv ct) ps sp:=by
 refine⟨len,λA outer s H args us vs Q E hr e0 hb r hsp=>?_⟩
 have hl:=len _ _ _ _ hsp
 have KX:K.In s.heap:=e0.mod.kin.keeps λb o e=>(e0.bs b o e).1
 have lim:s.heap.NoLimit:=e0.mod.nolimit.keeps λb o e=>(e0.bs b o e).1
 have hkind:∀y∈ps.zip us,scope.names.lookup y.1=some .local\/(scope.names.lookup y.1=some .cell/\((cellsFrom (s.heap.objs.size+1) scope.names []).lookup y.1).isSome=true):=fun⟨n,v⟩ hy=>by
  rcases S.par n (HN hy).1 with q | q
  ·exact .inl q
  ·exact .inr ⟨q,JJ _ _ _ (.inl q)⟩
 refine codeAny_call_function hr.depth (KX _ _ lk) rfl S.co S.gen rfl (PySem.W.codeRec_of KX hcd) (hb _ _ _ _ ?_)
 refine wpAny_newFunctionEnv_cells S.kind hkind λenv he s1 x=>?_
 subst he
 refine⟨lim.keeps x.toInCall.keep,codeAny_func ?_⟩
 obtain⟨t,ht,hq⟩:=hbody A outer s H vs Q E (hr.deeper _) hsp
 have I:Inv (Ni CX P w K mg base N qual scope f cdv A outer s H E) [] (start N vs) H s1:=Ja S hr.hd e0 hl r x
 refine EJ (ht [] s1 (start N vs) H _ I hq) (λfl s' hs=>?_) λe s' hs=>hs
 have fin:∀{σ':St} {H':Hp} {v:V} {u:Value},Inv (Ni CX P w K mg base N qual scope f cdv A outer s H E) [] σ' H' s'->RelV v u->Q v H'->CE outer P w H s Q u s' :=
  λ{σ' H' v u} J rv q=>⟨v,H',J.os,J.bare,J.base,J.hok,rv,q⟩
 cases fl with
 | ret u =>
  obtain⟨v,σ',H',J,rv,q⟩:=hs
  exact fin J rv q
 | next =>
  obtain⟨σ',H',J,q⟩:=hs
  exact fin (v:=V.non) (u:=Value.none) J rfl q
 | brk =>
  obtain⟨_,_,_,q⟩:=hs
  exact False.elim q
 | cont =>
  obtain⟨_,_,_,q⟩:=hs
  exact False.elim q
section
variable {X : Cx} {x : Str} {p pos : Pos} {e : Expr} {es : List Expr} {t : TA} {id T : String} {r : List V -> Hp -> VK -> Prop}
def tCB (r:List V->Hp->VK->Prop) (t:TA):TE:=λσ H Q=>t σ H λvs H1=>r vs H1 Q
theorem i9 (hc:gr X (.builtin id) r) (hg:Gl X x) (hm:X.mg x=none) (hv:bootBuiltins x=some (.builtin id)) (ha:PA X (e::es) t) (hn:x≠"__name__":=by decide) (hdb:(x==("__debug__":Str))=false:=by decide)
  (he:starEach (e::es) X.env=(false,eval e X.env)::starEach es X.env:=by rfl) (hpl:(backTo pos (starEach es X.env)).any (·.1)=false:=by rfl):PE X (.Call (.Name x p) (e::es) [] pos) (tCB r t):=by
 intro pins s σ H Q I h
 refine DX (qk I hg hm hv ?_ hn hdb)
 exact HB (thn (ha pos pins s σ H _ I h) λus s1 ⟨vs,H1,I1,r1,q1⟩=>hc pins s1 σ H1 vs us Q I1 r1 q1) he hpl
theorem A7 (hc:gr X (.type T) r) (hg:Gl X x) (hm:X.mg x=none) (hv:bootBuiltins x=some (.type T)) (ha:PA X (e::es) t) (hn:x≠"__name__":=by decide) (hdb:(x==("__debug__":Str))=false:=by decide)
  (he:starEach (e::es) X.env=(false,eval e X.env)::starEach es X.env:=by rfl) (hpl:(backTo pos (starEach es X.env)).any (·.1)=false:=by rfl):PE X (.Call (.Name x p) (e::es) [] pos) (tCB r t):=by
 intro pins s σ H Q I h
 refine DX (qk I hg hm hv ?_ hn hdb)
 exact CJ (thn (ha pos pins s σ H _ I h) λus s1 ⟨vs,H1,I1,r1,q1⟩=>hc pins s1 σ H1 vs us Q I1 r1 q1) he hpl
end
end L2
namespace HT
open PySem PyProof.Rows
def lexLt:List Int->List Int->Bool
 | [],[]=>false
 | [],_::_=>true
 | _::_,[]=>false
 | x::xs,y::ys=>if x=y then lexLt xs ys else decide (x<y)
theorem ka (x y:Int) (xs ys:List Int):lexLt (x::xs) (y::ys)=if x=y then lexLt xs ys else decide (x<y):=rfl
theorem nu:lexLt [] []=false:=rfl
theorem mh (y:Int) (ys:List Int):lexLt [] (y::ys)=true:=rfl
theorem mj (x:Int) (xs:List Int):lexLt (x::xs) []=false:=rfl
theorem zf (A:Around) (s:Shared) (a:Int) (t:Tok) (c:Int) (u:Tok):∃e,SeqAt.EqAt A s (.int a t) (.int c u) e/\(e=true↔a=c) :=
 ⟨(a==c),KN a t c u,by simp⟩
theorem Nj (A:Around) (s:Shared) (a:Int) (t:Tok) (c:Int) (u:Tok) (prog:Program) (w:World) (E:Value->Shared->Prop) (Q:Value->Shared->Prop) (h:Q (.bool (decide (a<c))) s) :
  wpAny (model prog w) A (richCompare .Lt (.int a t) (.int c u)) Q E s :=
 (PyProof.Rows.lt_int h:wpAny (model prog w) A (compareOp .Lt (.int a t) (.int c u)) Q E s)
section
open PySem.SeqAt
open PySem.AutoSeq1 (wpAny_loadPart')
open PySem.MeetsSeq PySem.MeetsSeq2 PySem.MeetsSeq3
theorem zg (l b:Addr) (items items2:Array Value) (n n2:Nat) (dd dd2:Option Addr) (sl sl2:Array (Option Value)) (ns ms:List Int) (hi:IntsAre items.toList ns) (hj:IntsAre items2.toList ms) :
  Meets (Builtin.«tuple.__lt__» ⟨[.ref l,.ref b],[]⟩)
   (λ_ R s=>s.heap.get? l=some {cls:=.type "tuple",dict:=dd,data:=.seq items n,slots:=sl}/\s.heap.get? b=some {cls:=.type "tuple",dict:=dd2,data:=.seq items2 n2,slots:=sl2} /\
    R (.ok (.ret (.bool (lexLt ns ms)))) s) :=
 .of_wp λprog w A R s h=>by
  obtain⟨hp,g,d,tk,os⟩:=s;obtain⟨hl,hb,h⟩:=h
  have f2:=Go
  have z1:items.size=ns.length:=by rw[<-hi.length];simp
  have z2:items2.size=ms.length:=by rw[<-hj.length];simp
  wp_walk using DI hl,DI hb,IY _ (λrest b s'=>b.1=none/\s'=⟨hp,g,d,tk,os⟩/\∃(vs ws:List Value) (ns' ms':List Int),rest=vs.zip ws /\
   IntsAre vs ns'/\IntsAre ws ms'/\ns'.length+items2.size=ms'.length+items.size/\R (.ok (.ret (.bool (lexLt ns' ms')))) ⟨hp,g,d,tk,os⟩) _
  case turn =>
   rintro⟨y,x⟩ rest b s' ⟨hb',rfl,vs,ws,ns',ms',hz,hvi,hwi,hlen,hR⟩
   cases hvi with
   | nil=>rw[II]at hz;cases hz
   | cons a t hvi' =>
    cases hwi with
    | nil=>rw[GI]at hz;cases hz
    | cons c u hwi' =>
     rw[DY]at hz
     injection hz with hyx hrest
     injection hyx with hy hx
     subst hy hx
     rw[ka]at hR
     simp![BV]at hlen
     obtain⟨e,he,hiff⟩:=zf A.in1 ⟨hp,g,d,tk,os⟩ a t c u
     refine AA (he prog w _ _ ?_)
     cases e with
     | true =>
      rw[if_pos (hiff.mp rfl)]at hR
      wp_walk
      exact⟨rfl,rfl,_,_,_,_,hrest,hvi',hwi',by lia,hR⟩
     | false =>
      rw[if_neg (λq=>absurd (hiff.mpr q) BA)]at hR
      have hri:=Nj A.in1 ⟨hp,g,d,tk,os⟩ a t c u prog w
      wp_walk using hri
      exact⟨_,rfl,by simpa using hR⟩
  case fin =>
   rintro⟨b1,b2⟩ s' ⟨hb',rfl,vs,ws,ns',ms',hz,hvi,hwi,hlen,hR⟩
   simp only at hb'
   subst hb'
   have hv:lexLt ns' ms'=decide (items.size<items2.size):=by
    cases hvi with
    | nil =>
     cases hwi with
     | nil =>
      simp![CW]at hlen
      rw[nu]
      exact(decide_eq_false (by lia)).symm
     | cons c u hw =>
      simp![CW,BV]at hlen
      rw[mh]
      exact(decide_eq_true (by lia)).symm
    | cons a t hv =>
     cases hwi with
     | nil =>
      simp![CW,BV]at hlen
      rw[mj]
      exact(decide_eq_false (by lia)).symm
     | cons c u hw =>
      rw[DY]at hz
      cases hz
   rw[hv]at hR
   wp_walk
   exact⟨_,rfl,by simpa[Builtin.Tuple.tupleCompareSizes]using hR⟩
  case h =>
   exact⟨rfl,rfl,items.toList,items2.toList,ns,ms,rfl,hi,hj,by lia,h⟩
end
section
variable {prog : Program} {w : World} {A : Around} {E : Value -> Shared -> Prop} {s : Shared}
theorem Gz {l b:Addr} {items items2:Array Value} {ns ms:List Int} {Q:Value->Shared->Prop} (hl:IsTup s.heap l items) (hb:IsTup s.heap b items2) (hi:IntsAre items.toList ns) (hj:IntsAre items2.toList ms)
  (hu:A.units<cLine) (h:Q (.bool (lexLt ns ms)) s):wpAny (model prog w) A (compareOp .Lt (.ref l) (.ref b)) Q E s:=by
 obtain⟨⟨cls,dd,data,sl⟩,ho,hc,n,hd⟩:=id hl
 obtain⟨⟨cls2,dd2,data2,sl2⟩,ho2,hc2,n2,hd2⟩:=id hb
 simp only at hc hd hc2 hd2
 subst hc hd hc2 hd2
 exact GP (op:=.Lt) ⟨_,ho,rfl⟩ ⟨_,ho2,rfl⟩ PySem.F.slot_tuple_lt PySem.F.entry_tuple_lt (PySem.F.args_tuple_lt_2 _ _) (zg l b items items2 n n2 dd dd2 sl sl2 ns ms hi hj)
  ⟨ho,ho2,show Value.bool (lexLt ns ms)≠Value.notImplemented/\Q (.bool (lexLt ns ms)) s from⟨(λx=>nomatch x),h⟩⟩ hu
theorem Se {t b:Addr} {vs ws:List Value} {Q:Value->Shared->Prop} (ht:IsTup s.heap t vs.toArray) (hb:IsTup s.heap b ws.toArray) (hv:vs≠[])
  (h1:ws=[]->Q (.ref t) s) (h2:ws≠[]->Q (.ref s.heap.objs.size) {s with heap:=s.heap.push {cls:=.type "tuple",data:=.seq (vs++ws).toArray}})
  (hsz:vs.length+ws.length<=sizeLine):wpAny (model prog w) A (binaryOp .Add (.ref t) (.ref b)) Q E s:=by
 obtain⟨⟨cls,dd,data,sl⟩,ho,hc,n,hd⟩:=id ht
 obtain⟨⟨cls2,dd2,data2,sl2⟩,ho2,hc2,n2,hd2⟩:=id hb
 simp only at hc hd hc2 hd2
 subst hc hd hc2 hd2
 have e:vs.toArray++ws.toArray=(vs++ws).toArray:=by simp
 by_cases hw:ws=[]
 ·exact concat_meets ⟨_,ho,rfl⟩ ⟨_,ho2,rfl⟩ IZ seq_tuple_add GQ GK (Gt _ _)
   (tuple_addW1 t b vs.toArray ws.toArray n n2 dd dd2 sl sl2 (by simpa using hv) (by simp[hw])) ⟨ho,ho2,h1 hw⟩
 ·refine concat_meets ⟨_,ho,rfl⟩ ⟨_,ho2,rfl⟩ IZ seq_tuple_add GQ GK (Gt _ _)
   (tuple_addW2 t b vs.toArray ws.toArray n n2 dd dd2 sl sl2 (by simpa using hv) (by simpa using hw) (by rw[AG,AG];exact hsz)) ⟨ho,ho2,?_⟩
  rw[e]
  exact h2 hw
def sIx (n d:Nat):Option Int->Nat
 | none=>d
 | some v=>if v<0 then(v+(n:Int)).toNat else min v.toNat n
theorem Vy (n d:Nat) (hd:d<=n) (o:Option Int):sIx n d o<=n:=by
 cases o with
 | none=>exact hd
 | some v =>
  show(if v<0 then(v+(n:Int)).toNat else min v.toNat n)<=n
  by_cases hv:v<0
  ·rw[if_pos hv];lia
  ·rw[if_neg hv];exact Nat.min_le_right _ _
theorem Jb (v:Int) (n d:Nat):(if v<0 then max (v+(n:Int)) 0 else min v (n:Int))=((sIx n d (some v):Nat):Int):=by
 show(if v<0 then max (v+(n:Int)) 0 else min v (n:Int))=(((if v<0 then(v+(n:Int)).toNat else min v.toNat n):Nat):Int)
 by_cases hv:v<0
 ·simp![if_pos hv];lia
 ·simp![if_neg hv];lia
theorem G0 (lo hi:Option Int) (n:Nat):Builtin.Slice.sliceAdjust lo hi 1 (n:Int)=(((sIx n 0 lo:Nat):Int),((sIx n n hi:Nat):Int)):=by
 have h1:¬((1:Int)<0):=by lia
 unfold Builtin.Slice.sliceAdjust
 simp![h1,if_false]
 refine Prod.ext ?_ ?_
 ·cases lo with
  | none=>rfl
  | some v=>exact Jb v n 0
 ·cases hi with
  | none=>rfl
  | some v=>exact Jb v n n
theorem G1 (i j:Nat):Builtin.Slice.slicePlaces (i:Int) (j:Int) 1=j-i:=by
 unfold Builtin.Slice.slicePlaces
 have h1:(1:Int) > 0:=by lia
 simp![h1,if_true,Int.ediv_one]
 split<;>lia
theorem yg {v:Value} {o:Option Int} {Q:Option Int->Shared->Prop} (p:IsPart v o) (h:Q o s):wpAny (model prog w) A (Builtin.Slice.slicePartIndex v) Q E s:=by
 cases p with
 | none=>exact slicePart_none h
 | int i t=>exact slicePart_int h
theorem oq {sl:Addr} {vl vu:Value} {lo hi:Option Int} {n:Nat} {Q:Int×Int×Nat->Shared->Prop} (hs:s.heap.IsSliceOf sl vl vu .none) (pl:IsPart vl lo) (pu:IsPart vu hi)
  (h:Q (((sIx n 0 lo:Nat):Int),1,sIx n n hi-sIx n 0 lo) s):wpAny (model prog w) A (Builtin.Slice.sliceApplied (.ref sl) (pure (n:Int))) Q E s:=by
 obtain⟨os,hos,hcs,hds⟩:=id hs
 unfold Builtin.Slice.sliceApplied Builtin.Slice.sliceFields
 refine AA (AA (CD hos hds (x:=vl) rfl (AA (CD hos hds (x:=vu) rfl (AA (CD hos hds (x:=.none) rfl (AE ?_)))))))
 refine AA (slicePart_none ?_)
 show wpAny _ _ (if((1:Int)==0)=true then _ else _) _ _ s
 rw[if_neg (by decide)]
 refine AA (yg pl (AA (yg pu (AA (AE ?_)))))
 show wpAny _ _ (match Builtin.Slice.sliceAdjust lo hi 1 (n:Int)with | (lo,hi)=>pure (lo,(1:Int),Builtin.Slice.slicePlaces lo hi 1)) _ _ s
 rw[G0 lo hi n]
 show wpAny _ _ (pure (((sIx n 0 lo:Nat):Int),(1:Int),Builtin.Slice.slicePlaces ((sIx n 0 lo:Nat):Int) ((sIx n n hi:Nat):Int) 1)) _ _ s
 rw[G1]
 exact AE h
theorem Nk (xs:Array Value) (i k:Nat):((List.range k).filterMap fun(m:Nat)=>xs[((i:Int)+(m:Int)*1).toNat]?).toArray=((xs.toList.drop i).take k).toArray:=by
 have e:(fun(m:Nat)=>xs[((i:Int)+(m:Int)*1).toNat]?)=λm=>xs[i+m]?:=by
  funext m
  have:((i:Int)+(m:Int)*1).toNat=i+m:=by lia
  rw[this]
 rw[e]
 have:=pick_run xs i k
 rw[List.filterMap_map]at this
 have e2:((λx=>xs[x]?)∘λx=>i+x)=λm=>xs[i+m]?:=rfl
 rw[e2]at this
 rw[this]
theorem tm {t sl:Addr} {items:Array Value} {vl vu:Value} {lo hi:Option Int} {Q:Value->Shared->Prop} (ht:IsTup s.heap t items) (hs:s.heap.IsSliceOf sl vl vu .none) (pl:IsPart vl lo) (pu:IsPart vu hi)
  (hw:¬(sIx items.size 0 lo=0/\sIx items.size items.size hi=items.size))
  (h:Q (.ref s.heap.objs.size) {s with heap:=s.heap.push {cls:=.type "tuple",data:=.seq ((items.toList.drop (sIx items.size 0 lo)).take (sIx items.size items.size hi-sIx items.size 0 lo)).toArray}})
  (hsz:items.size<=sizeLine):wpAny (model prog w) A (getItem (.ref t) (.ref sl)) Q E s:=by
 have htake:sizeOk (.seq ((items.toList.drop (sIx items.size 0 lo)).take (sIx items.size items.size hi-sIx items.size 0 lo)).toArray):=by
  show((items.toList.drop (sIx items.size 0 lo)).take (sIx items.size items.size hi-sIx items.size 0 lo)).toArray.size<=sizeLine
  rw[AG,EX,List.length_drop,BJ]
  lia
 have hj:sIx items.size items.size hi<=items.size:=Vy _ _ (AI _) hi
 obtain⟨os,hos,hcs,hds⟩:=id hs
 have hTs:s.TypeIs (.ref sl) "slice":=⟨os,hos,hcs⟩
 unfold getItem
 try with_reducible refine CP ?_
 first | refine AA (AE ?_) | skip
 refine AA (wpAny_sequenceKey ht.typeIs (by decide) ?_)
 refine AA (BO (name:=Str.ofString "__getitem__") ht.typeIs CK
  (BP CK ht.typeIs entry_tuple_getitem ?_ (args_tuple_getitem _ _)))
 show wpAny _ _ (Builtin.Tuple.tupleItemsOf (.ref t)>>=_) _ _ s
 refine AA (tupleItemsOf_ ht ?_)
 refine AA (FE hTs ?_)
 rw[if_pos (by decide)]
 refine AA (oq hs pl pu ?_)
 have hno:¬((((sIx items.size 0 lo:Nat):Int)==0&&(1:Int)==1&&(sIx items.size items.size hi-sIx items.size 0 lo)==items.size)=true):=by
  intro q
  rw[BC,BC]at q
  have q1:((sIx items.size 0 lo:Nat):Int)=0:=eq_of_beq q.1.1
  have q2:sIx items.size items.size hi-sIx items.size 0 lo=items.size:=eq_of_beq q.2
  exact hw ⟨by lia,by lia⟩
 show wpAny _ _ (if(((sIx items.size 0 lo:Nat):Int)==0&&(1:Int)==1&&(sIx items.size items.size hi-sIx items.size 0 lo)==items.size)=true then _ else _) _ _ s
 rw[if_neg hno,Nk]
 first
  | exact AA (m:=Builtin.Tuple.tupleExact _) (BZ (AE ⟨_,rfl,AE h⟩) htake)
  | exact AA (m:=Builtin.Tuple.tupleExact _) (BZ (AA (AE (AE ⟨_,rfl,AE h⟩))) htake)
  | exact AA (AA (m:=Builtin.Tuple.tupleExact _) (BZ (AE (AE ⟨_,rfl,AE h⟩)) htake))
  | exact AA (AA (m:=Builtin.Tuple.tupleExact _) (BZ (AE ⟨_,rfl,AE h⟩) htake))
end
end HT
namespace L2
open PySem PySem.Spec PyProof.Rows
abbrev TO:=St->Hp->(Option Int->Hp->Prop)->Prop
def PO (X:Cx) (e:Option Expr) (t:TO):Prop :=
 ∀(pins:List (Addr×Obj)) (s:Shared) (σ:St) (H:Hp) (Q:Option Int->Hp->Prop),Inv X pins σ H s->t σ H Q ->
  wpAny (model X.prog X.w) X.A (evalPart e X.env) (λu s'=>∃o H',Inv X pins σ H' s'/\IsPart u o/\Q o H') X.xe s
def tNoPart:TO:=λ_ H Q=>Q none H
def Zj (t:TE):TO:=λσ H Q=>t σ H λx H1=>∃i,x=.int i/\Q (some i) H1
theorem intsAre_of {ns:List Int}:∀{us:List Value},cz (ns.map V.int) us->IntsAre us ns:=by
 induction ns with
 | nil=>intro us r;rw[DJ]at r;cases r;exact .nil
 | cons n ns ih =>
  intro us r
  rw[AR]at r
  cases r with
  | cons r1 r2 =>
   obtain⟨t,e⟩:=r1
   subst e
   exact .cons n t (ih r2)
section
variable {X : Cx} {e : Expr} {te : TE} {lo hi : Option Expr} {tl th : TO} {pos p2 : Pos}
theorem Sg:PO X none tNoPart:=by
 intro pins s σ H Q I h
 rw[evalPart_none]
 exact AE ⟨none,H,I,.none,h⟩
theorem Sh (h:PE X e te):PO X (some e) (Zj te):=by
 intro pins s σ H Q I hw
 rw[evalPart_some]
 refine thn (h pins s σ H _ I hw) λu s1 ⟨x,H1,I1,r1,q1⟩=>?_
 obtain⟨i,rfl,q⟩:=q1
 obtain⟨t,rfl⟩:=r1
 exact⟨some i,H1,I1,.int i t,q⟩
def SlR (X:Cx) (r:V->Option Int->Option Int->Hp->VK->Prop):Prop :=
 ∀(pins:List (Addr×Obj)) (s:Shared) (σ:St) (H:Hp) (x:V) (v vl vu:Value) (lo hi:Option Int) (sl:Addr) (Q:VK),Inv X pins σ H s->RelV x v->s.heap.IsSliceOf sl vl vu .none->IsPart vl lo->IsPart vu hi->r x lo hi H Q ->
  ∃T id,typeLookup (.type T) "__getitem__"=pure (some (.builtin id))/\s.TypeIs v T/\wpAny (model X.prog X.w) X.A (getItem v (.ref sl)) (EP X pins σ Q) X.xe s
def tSl (r:V->Option Int->Option Int->Hp->VK->Prop) (te:TE) (tl th:TO):TE:=λσ H Q=>te σ H λx H1=>tl σ H1 λl H2=>th σ H2 λu H3=>r x l u H3 Q
theorem Nl {r:V->Option Int->Option Int->Hp->VK->Prop} (hr:SlR X r) (he:PE X e te) (hl:PO X lo tl) (hu:PO X hi th):PE X (.Subscript e (.Slice lo hi none p2) pos) (tSl r te tl th):=by
 intro pins s σ H Q I h
 refine Subscript_ (thn (he pins s σ H _ I h) λv s1 ⟨x,H1,I1,r1,q1⟩=>?_)
 refine wpAny_Slice (thn (hl pins s1 σ H1 _ I1 q1) λvl s2 ⟨l,H2,I2,pl,q2⟩=>thn (hu pins s2 σ H2 _ I2 q2) λvu s3 ⟨u,H3,I3,pu,q3⟩=>?_)
 rw[evalPart_none]
 refine AE ?_
 have I4:Inv X pins σ H3 {s3 with heap:=s3.heap.push {cls:=.type "slice",data:=.fields #[vl,vu,.none]}}:=I3.kept (t':=s3.toks) λb ob q=>AC _ q
 obtain⟨T,id,hT,ht,hg⟩:=hr pins {s3 with heap:=s3.heap.push {cls:=.type "slice",data:=.fields #[vl,vu,.none]}} σ H3 x v vl vu l u s3.heap.objs.size Q I4 r1 (Heap.IsSliceOf.new ..) pl pu q3
 show wpAny (model X.prog X.w) X.A (subscriptTail e (.Slice lo hi none p2) v (.ref s3.heap.objs.size)) (EP X pins σ Q) X.xe {s3 with heap:=s3.heap.push {cls:=.type "slice",data:=.fields #[vl,vu,.none]}}
 exact tail_any (ops:=[.ref s3.heap.objs.size,v]) ht hT hg (by with_unfolding_all rfl)
def Pz (xs:List V) (lo hi:Option Int):List V:=(xs.drop (HT.sIx xs.length 0 lo)).take (HT.sIx xs.length xs.length hi-HT.sIx xs.length 0 lo)
theorem vg (xs:List V) (lo hi:Option Int):(Pz xs lo hi).length<=xs.length:=by
 unfold Pz
 rw[EX,List.length_drop]
 lia
def acj (K:PySem.W.Frag):V->Option Int->Option Int->Hp->VK->Prop:=λx lo hi H Q=>∃a xs,x=.ref a/\SqT K H a xs /\
 ¬(HT.sIx xs.length 0 lo=0/\HT.sIx xs.length xs.length hi=xs.length)/\∀p,H p=none->Q (.ref p) (upd H p (.tup (Pz xs lo hi)))
theorem Vz:SlR X (acj X.K):=by
 intro pins s σ H x v vl vu lo hi sl Q I rx hs pl pu h
 obtain⟨a,xs,rfl,hx,hw,q⟩:=h
 cases rx
 obtain⟨its,r,ht,hz⟩:=I.tuple hx
 have hlen:its.toArray.size=xs.length:=by rw[AG];exact r.length.symm
 refine⟨"tuple",_,CK.lookup,ht.typeIs,?_⟩
 refine HT.tm ht hs pl pu (by rw[hlen];exact hw) ?_ (by rw[hlen];exact hz)
 rw[hlen]
 refine⟨.ref s.heap.objs.size,_,I.laid (t':=s.toks) (o:=.tup (Pz xs lo hi)) (λb ob q=>AC _ q) (AI _) ?_,rfl,q _ (I.hok.fresh (AI _))⟩
 exact⟨CL (vg xs lo hi) hz,_,(r.drop (HT.sIx xs.length 0 lo)).take (HT.sIx xs.length xs.length hi-HT.sIx xs.length 0 lo),uh.new _ _⟩
def ack (K:PySem.W.Frag):R2:=λx y H Q=>∃a b ns ms,x=.ref a/\y=.ref b/\SqT K H a (ns.map V.int)/\SqT K H b (ms.map V.int)/\Q (.bl (HT.lexLt ns ms)) H
theorem V0 (hu:X.A.units<cLine):OpR X (compareOp .Lt) (ack X.K):=by
 intro pins s σ H x y v u Q I rx ry h
 obtain⟨a,b,ns,ms,rfl,rfl,ha,hb,q⟩:=h
 cases rx
 cases ry
 obtain⟨its,r1,p1,_⟩:=I.tuple ha
 obtain⟨its2,r2,p2,_⟩:=I.tuple hb
 have i1:IntsAre its.toArray.toList ns:=intsAre_of r1
 have i2:IntsAre its2.toArray.toList ms:=intsAre_of r2
 exact HT.Gz p1 p2 i1 i2 hu ⟨.bl (HT.lexLt ns ms),H,I,rfl,q⟩
def Zk (K:PySem.W.Frag):R2:=λx y H Q=>∃a b xs ys,x=.ref a/\y=.ref b/\SqT K H a xs/\SqT K H b ys/\xs≠[]/\xs.length+ys.length<=sizeLine /\
 (ys=[]->Q (.ref a) H)/\(ys≠[]->∀p,H p=none->Q (.ref p) (upd H p (.tup (xs++ys))))
theorem cz.nil_iff {xs:List V} {us:List Value} (r:cz xs us):us=[]↔xs=[]:=by
 cases r with
 | nil=>simp
 | cons _ _=>simp
theorem Si:OpR X (binaryOp .Add) (Zk X.K):=by
 intro pins s σ H x y v u Q I rx ry h
 obtain⟨a,b,xs,ys,rfl,rfl,ha,hb,hx,hz,q1,q2⟩:=h
 cases rx
 cases ry
 obtain⟨its,r1,p1,_⟩:=I.tuple ha
 obtain⟨its2,r2,p2,_⟩:=I.tuple hb
 refine HT.Se p1 p2 (λz=>hx (r1.nil_iff.mp z)) (λz=>⟨.ref a,H,I,rfl,q1 (r2.nil_iff.mp z)⟩) (λz=>?_) (by rw[<-r1.length,<-r2.length];exact hz)
 refine⟨.ref s.heap.objs.size,_,I.laid (t':=s.toks) (o:=.tup (xs++ys)) (λb ob q=>AC _ q) (AI _) ?_,rfl,q2 (λw=>z (r2.nil_iff.mpr w)) _ (I.hok.fresh (AI _))⟩
 exact⟨by rw[BU];exact hz,_,r1.append r2,uh.new _ _⟩
end
def ixN (n:Nat) (i:Int):Option Nat:=if 0<=i then(if i<n then some i.toNat else none)else if -(n:Int)<=i then some (i+n).toNat else none
def atI {α:Type} (xs:List α) (i:Int):Option α:=(ixN xs.length i).bind λj=>xs[j]?
theorem Jc {n:Nat} {i:Int} {j:Nat} (h:ixN n i=some j):seqIndex? i n=some j/\j<n /\ -(n:Int)<=i/\i<n:=by
 unfold ixN at h
 by_cases h0:0<=i
 ·rw[if_pos h0]at h
  by_cases h1:i<n
  ·rw[if_pos h1]at h
   have e:i.toNat=j:=CH h
   exact⟨by rw[seqIndex_of h0 h1,e],by lia,by lia,h1⟩
  ·rw[if_neg h1]at h;cases h
 ·rw[if_neg h0]at h
  by_cases h1:-(n:Int)<=i
  ·rw[if_pos h1]at h
   have e:(i+n).toNat=j:=CH h
   exact⟨by rw[seqIndex_neg (by lia) h1,e],by lia,h1,by lia⟩
  ·rw[if_neg h1]at h;cases h
theorem C2 {α:Type} {xs:List α} {i:Int} {v:α} (h:atI xs i=some v):∃j,seqIndex? i xs.length=some j/\xs[j]? = some v/\j<xs.length /\ -(xs.length:Int)<=i/\i<xs.length:=by
 unfold atI at h
 cases e:ixN xs.length i with
 | none=>rw[e]at h;cases h
 | some j =>
  rw[e]at h
  obtain⟨h1,h2,h3,h4⟩:=Jc e
  exact⟨j,h1,h,h2,h3,h4⟩
def C3 (b:Expr):Prop:=∀o i,subscripted b false o i=operate [o,i] (getItem o i)
def IxR (X:Cx) (r:R2):Prop :=
 ∀(value slice:Expr) (pins:List (Addr×Obj)) (s:Shared) (σ:St) (H:Hp) (x y:V) (v u:Value) (Q:VK),Inv X pins σ H s->RelV x v->RelV y u->r x y H Q ->
  subscripted slice false v u=operate [v,u] (getItem v u)->wpAny (model X.prog X.w) X.A (subscriptTail value slice v u) (EP X pins σ Q) X.xe s
def MtR (X:Cx) (id:String) (r:V->List V->Hp->VK->Prop):Prop :=
 ∀(pins:List (Addr×Obj)) (s:Shared) (σ:St) (H:Hp) (x:V) (xs:List V) (v:Value) (us:List Value) (Q:VK),Inv X pins σ H s->RelV x v->cz xs us->r x xs H Q ->
  wpAny (model X.prog X.w) X.A (call (.builtin id) (v::us)) (EP X pins σ Q) X.xe s
section
variable {X : Cx} {a b : Expr} {ta tb : TE} {pos : Pos}
theorem IxR.or {r r':R2} (h:IxR X r) (h':IxR X r'):IxR X (λx y H Q=>r x y H Q\/r' x y H Q):=by
 intro value slice pins s σ H x y v u Q I rx ry q hs
 rcases q with q | q
 ·exact h value slice pins s σ H x y v u Q I rx ry q hs
 ·exact h' value slice pins s σ H x y v u Q I rx ry q hs
theorem Zl {r:R2} (hr:IxR X r) (ha:PE X a ta) (hb:PE X b tb) (hs:C3 b):PE X (.Subscript a b pos) (tOp r ta tb):=by
 intro pins s σ H Q I h
 exact Subscript_ (aa0 ha hb I h λv u s2 x y H2 I2 rx ry q=>hr a b pins s2 σ H2 x y v u Q I2 rx ry q (hs _ _))
def aa3 (K:PySem.W.Frag):R2:=λx y H Q=>∃p xs i v,x=.ref p/\y=.int i/\SqL K H p xs/\atI xs i=some v/\Q v H
def aa4 (K:PySem.W.Frag):R2:=λx y H Q=>∃p xs i v,x=.ref p/\y=.int i/\SqT K H p xs/\atI xs i=some v/\Q v H
def rIxS:R2:=λx y H Q=>∃z i c,x=.str z/\y=.int i/\z.length<=sizeLine/\atI z.cps.toList i=some c/\Q (.str ⟨#[c]⟩) H
theorem Sj:IxR X (aa3 X.K):=by
 intro value slice pins s σ H x y v u Q I rx ry h hs
 obtain⟨p,xs,i,z,rfl,rfl,hq,he,q⟩:=h
 cases rx
 obtain⟨t,rfl⟩:=ry
 obtain⟨its,r,pl,hz⟩:=I.list hq
 obtain⟨j,h1,h2,h3,h4,h5⟩:=C2 he
 obtain⟨w,ew,rw'⟩:=r.get h2
 have hl:=r.length
 have hn:=yf
 have fin:EP X pins σ Q w s:=⟨z,H,I,rw',q⟩
 by_cases h0:0<=i
 ·have hj:i.toNat=j:=by
   rw[seqIndex_of h0 h5]at h1
   exact CH h1
  exact item_listR pl.isList h0 (by lia) (by rw[hj];simpa using ew) fin hs
 ·have hj:(i+(its.toArray.size:Int)).toNat=j:=by
   rw[seqIndex_neg (by lia) h4]at h1
   rw[AG,<-hl]
   exact CH h1
  exact subscriptTail_builtinR (x:=w) pl.isList.typeIs slot_list_getitem.lookup
   (wpAny_getItem_list_neg (Q:=λr s'=>r=w/\EP X pins σ Q r s') pl.isList (by lia) (by rw[AG]<;>lia) (by lia) (by rw[hj];simpa using ew) ⟨rfl,fin⟩) hs
theorem V2:IxR X (aa4 X.K):=by
 intro value slice pins s σ H x y v u Q I rx ry h hs
 obtain⟨p,xs,i,z,rfl,rfl,hq,he,q⟩:=h
 cases rx
 obtain⟨t,rfl⟩:=ry
 obtain⟨its,r,pl,hz⟩:=I.tuple hq
 obtain⟨j,h1,h2,h3,h4,h5⟩:=C2 he
 obtain⟨w,ew,rw'⟩:=r.get h2
 have hl:=r.length
 have hn:=yf
 have fin:EP X pins σ Q w s:=⟨z,H,I,rw',q⟩
 exact subscriptTail_builtinR (x:=w) pl.typeIs slot_tuple_getitem.lookup
  (getItem_tuple (j:=j) (Q:=λr s'=>r=w/\EP X pins σ Q r s') pl (by lia) (by lia) (by rw[AG,<-hl];exact h1) (by simpa using ew) ⟨rfl,fin⟩) hs
theorem V3:IxR X rIxS:=by
 intro value slice pins s σ H x y v u Q I rx ry h hs
 obtain⟨z,i,c,rfl,rfl,hz,he,q⟩:=h
 obtain⟨t,rfl⟩:=rx
 obtain⟨t',rfl⟩:=ry
 obtain⟨j,h1,h2,h3,h4,h5⟩:=C2 he
 have hl:z.cps.toList.length=z.length:=by simp[Str.length]
 rw[hl]at h1 h4 h5
 have hn:=yf
 exact tail_any (typeIs_str s z t) slot_str_getitem.lookup (getItem_str (c:=c) (by
  have e1:decide (i < -(2 ^ 63:Int))=false:=decide_eq_false (by lia)
  have e2:decide (i≥2 ^ 63)=false:=decide_eq_false (by lia)
  rw[e1,e2,KH]) (by rw[h1];simpa using h2) ⟨.str ⟨#[c]⟩,H,I.tok _,⟨_,rfl⟩,q⟩) hs
def rIx (K:PySem.W.Frag):R2:=λx y H Q=>aa3 K x y H Q\/aa4 K x y H Q\/rIxS x y H Q
theorem V4:IxR X (rIx X.K):=Sj.or (V2.or V3)
theorem G2 (its:List Value) (n j:Nat) (u:Value):Obj.mapSeq (·.setIfInBounds j u) {cls:=.type "list",data:=.seq its.toArray n}={cls:=.type "list",data:=.seq (its.set j u).toArray n}:=by
 simp[Obj.mapSeq]
theorem Inv.lst {pins:List (Addr×Obj)} {σ:St} {H:Hp} {s:Shared} {p:Addr} {xs:List V} (I:Inv X pins σ H s) (h:H p=some (.lst xs)) :
  ∃(its:List Value) (n:Nat),cz xs its/\s.heap.get? p=some {cls:=.type "list",data:=.seq its.toArray n}/\xs.length<=sizeLine:=by
 obtain⟨z,its,n,r,e⟩:=I.hok p _ h
 exact⟨its,n,r,e,z⟩
theorem Inv.lstUpd {pins:List (Addr×Obj)} {σ:St} {H:Hp} {s:Shared} {p:Addr} {xs ys:List V} {its its':List Value} {n n':Nat} {f:Obj->Obj} (I:Inv X pins σ H s) (h:H p=some (.lst xs))
  (ho:s.heap.get? p=some {cls:=.type "list",data:=.seq its.toArray n}) (hf:f {cls:=.type "list",data:=.seq its.toArray n}={cls:=.type "list",data:=.seq its'.toArray n'}) (r:cz ys its') (hz:ys.length<=sizeLine) (t:Nat) :
  Inv X pins σ (upd H p (.lst ys)) {s with heap:=s.heap.update p f,toks:=t}:=by
 have e:(s.heap.update p f).get? p=some {cls:=.type "list",data:=.seq its'.toArray n'}:=by
  rw[DV f ho (by rw[hf]<;>rfl),hf]
 refine I.write (x:=p) (e:=p) (by rw[h];trivial) (.inl rfl) (λb u hb q=>(GR _ _ (Ne.symm hb)).trans q) ⟨_,e⟩ ?_
 exact⟨hz,its',n',r,e⟩
def rSetL:V->V->V->Hp->(Hp->Prop)->Prop:=λo i v H Q=>∃p xs k j,o=.ref p/\i=.int k/\H p=some (.lst xs)/\ixN xs.length k=some j/\Q (upd H p (.lst (xs.set j v)))
theorem set_list:Yu X rSetL:=by
 intro pins s σ H o i v ov iv u Q I ro ri rv h
 obtain⟨p,xs,k,j,rfl,rfl,hp,hj,q⟩:=h
 cases ro
 obtain⟨t,rfl⟩:=ri
 obtain⟨its,n,r,ho,hz⟩:=I.lst hp
 obtain⟨h1,h2,h3,h4⟩:=Jc hj
 have hl:=r.length
 have hn:=yf
 have I':Inv X pins σ (upd H p (.lst (xs.set j v))) {s with heap:=s.heap.update p (Obj.mapSeq (·.setIfInBounds j u))} :=
  I.lstUpd hp ho (G2 its n j u) (r.set rv j) (by rw[JP];exact hz) s.toks
 by_cases h0:0<=k
 ·have hk:k.toNat=j:=by
   rw[seqIndex_of h0 h4]at h1
   exact CH h1
  exact PySem.W.ki_setAt ho h0 (by lia) (by rw[AG,<-hl];exact h4) (by rw[hk];exact⟨_,I',q⟩)
 ·have hk:(k+(its.toArray.size:Int)).toNat=j:=by
   rw[seqIndex_neg (by lia) h3]at h1
   rw[AG,<-hl]
   exact CH h1
  exact PySem.W.ki_setBack ho (by lia) (by rw[AG,<-hl];exact h3) (by lia) (by rw[hk];exact⟨_,I',q⟩)
theorem A8 (lo hi:Option Int) (n:Nat):(sliceBounds lo hi none n).1=((HT.sIx n 0 lo:Nat):Int)/\(sliceBounds lo hi none n).2.1=((HT.sIx n n hi:Nat):Int)/\(sliceBounds lo hi none n).2.2=1:=by
 refine⟨?_,?_,rfl⟩
 ·cases lo with
  | none=>simp[sliceBounds,HT.sIx]
  | some i =>
   simp![sliceBounds,HT.sIx,Option.getD_none,show(1:Int) > 0 by decide,if_true]
   by_cases h:i<0
   ·simp![h,if_true]<;>lia
   ·simp![h,if_false]<;>lia
 ·cases hi with
  | none=>simp[sliceBounds,HT.sIx]
  | some i =>
   simp![sliceBounds,HT.sIx,Option.getD_none,show(1:Int) > 0 by decide,if_true]
   by_cases h:i<0
   ·simp![h,if_true]<;>lia
   ·simp![h,if_false]<;>lia
theorem zh (its:List Value) (lo hi:Option Int):slicePick its.toArray lo hi none=((its.drop (HT.sIx its.length 0 lo)).take (HT.sIx its.length its.length hi-HT.sIx its.length 0 lo)).toArray:=by
 obtain⟨h1,h2,h3⟩:=A8 lo hi its.toArray.size
 unfold slicePick
 rw[h1,h2,h3]
 simp![sliceRange_one,pick_run,AG]<;>rfl
def acm (K:PySem.W.Frag):V->Option Int->Option Int->Hp->VK->Prop:=λx lo hi H Q=>∃a xs,x=.ref a/\SqL K H a xs/\∀p,H p=none->Q (.ref p) (upd H p (.lst (Pz xs lo hi)))
theorem Sk:SlR X (acm X.K):=by
 intro pins s σ H x v vl vu lo hi sl Q I rx hs pl pu h
 obtain⟨a,xs,rfl,hx,q⟩:=h
 cases rx
 obtain⟨its,r,ht,hz⟩:=I.list hx
 have hlen:=r.length
 refine⟨"list",_,slot_list_getitem.lookup,ht.isList.typeIs,?_⟩
 refine wpAny_getItem_list_slice ht.isList hs pl pu .none (by simp) ?_ (by rw[AG]<;>lia)
 rw[zh,<-hlen]
 refine⟨.ref s.heap.objs.size,_,I.laid (t':=s.toks) (o:=.lst (Pz xs lo hi)) (λb ob q=>AC _ q) (AI _) ?_,rfl,q _ (I.hok.fresh (AI _))⟩
 exact⟨CL (vg xs lo hi) hz,_,0,(r.drop (HT.sIx xs.length 0 lo)).take (HT.sIx xs.length xs.length hi-HT.sIx xs.length 0 lo),AJ _ rfl⟩
def x6:V->Bool
 | .non=>true
 | .bl _=>true
 | .int _=>true
 | .str _=>true
 | _=>false
def eqV:V->V->Bool
 | .non,.non=>true
 | .bl a,.bl b=>a==b
 | .bl a,.int b=>(if a then 1 else 0)==b
 | .int a,.bl b=>a==(if b then 1 else 0)
 | .int a,.int b=>a==b
 | .str a,.str b=>a==b
 | _,_=>false
theorem V5 {A:Around} {s:Shared} {y x:V} {u v:Value} (ry:RelV y u) (rx:RelV x v) (fy:x6 y=true) (fx:x6 x=true):SeqAt.EqAt A s u v (eqV y x):=by
 cases y with
 | non =>
  cases ry
  cases x with
  | non=>cases rx;exact SeqAt.EqAt.same _
  | bl b=>cases rx;exact SeqAt.EqAt.none_bool b
  | int b=>obtain⟨t,rfl⟩:=rx;exact SeqAt.EqAt.none_int b t
  | str b=>obtain⟨t,rfl⟩:=rx;exact SeqAt.EqAt.none_str b t
  | _=>exact absurd (show false=true from fx) BA
 | bl a =>
  cases ry
  cases x with
  | non=>cases rx;exact SeqAt.EqAt.bool_none a
  | bl b=>cases rx;exact SeqAt.EqAt.bool_bool a b
  | int b=>obtain⟨t,rfl⟩:=rx;exact SeqAt.EqAt.bool_int a b t
  | str b=>obtain⟨t,rfl⟩:=rx;exact SeqAt.EqAt.bool_str a b t
  | _=>exact absurd (show false=true from fx) BA
 | int a =>
  obtain⟨t',rfl⟩:=ry
  cases x with
  | non=>cases rx;exact SeqAt.EqAt.int_none a t'
  | bl b=>cases rx;exact SeqAt.EqAt.int_bool a t' b
  | int b=>obtain⟨t,rfl⟩:=rx;exact KN a t' b t
  | str b=>obtain⟨t,rfl⟩:=rx;exact KL a t' b t
  | _=>exact absurd (show false=true from fx) BA
 | str a =>
  obtain⟨t',rfl⟩:=ry
  cases x with
  | non=>cases rx;exact SeqAt.EqAt.str_none a t'
  | bl b=>cases rx;exact SeqAt.EqAt.str_bool a t' b
  | int b=>obtain⟨t,rfl⟩:=rx;exact KM a t' b t
  | str b=>obtain⟨t,rfl⟩:=rx;exact SeqAt.EqAt.str_str a t' b t
  | _=>exact absurd (show false=true from fx) BA
 | _=>exact absurd (show false=true from fy) BA
def eqU (x:V) (u:Value):Bool:=match u with
 | .none=>eqV .non x
 | .bool b=>eqV (.bl b) x
 | .int i _=>eqV (.int i) x
 | .str z _=>eqV (.str z) x
 | _=>false
theorem P0 {x y:V} {u:Value} (r:RelV y u) (f:x6 y=true):eqU x u=eqV y x:=by
 cases y with
 | non=>cases r;rfl
 | bl b=>cases r;rfl
 | int i=>obtain⟨t,rfl⟩:=r;rfl
 | str z=>obtain⟨t,rfl⟩:=r;rfl
 | _=>exact absurd (show false=true from f) BA
theorem vh {x:V}:∀{xs:List V} {us:List Value},cz xs us->xs.all x6=true->us.any (eqU x)=xs.any λy=>eqV y x
 | _,_,.nil,_=>rfl
 | y::xs,u::us,.cons r t,f=>by
  rw[BB,BC]at f
  rw[Do,Do,P0 r f.1,vh t f.2]
theorem rp {A:Around} {s:Shared} {x:V} {v:Value} (rx:RelV x v) (fx:x6 x=true):∀{xs:List V} {us:List Value},cz xs us->xs.all x6=true->∀u∈us,SeqAt.EqAt A s u v (eqU x u)
 | _,_,.nil,_=>λu hu=>by cases hu
 | y::xs,u::us,.cons r t,f=>λu' hu=>by
  rw[BB,BC]at f
  rcases AL.mp hu with rfl | hu
  ·rw[P0 r f.1];exact V5 r rx f.1 fx
  ·exact rp rx fx t f.2 u' hu
def inV (x:V) (xs:List V):Bool:=xs.any λy=>eqV y x
def rIn (K:PySem.W.Frag) (neg:Bool):R2:=λx y H Q=>∃p xs,y=.ref p/\(SqL K H p xs\/SqT K H p xs)/\x6 x=true/\xs.all x6=true/\Q (.bl (if neg then !inV x xs else inV x xs)) H
theorem Jd:OpR X (compareOp .In) (rIn X.K false):=by
 intro pins s σ H x y v u Q I rx ry h
 obtain⟨p,xs,rfl,hq,fx,fs,q⟩:=h
 cases ry
 rcases hq with hq | hq
 ·obtain⟨its,r,pl,hz⟩:=I.list hq
  refine SeqAt.in_listAt (eqU x) pl.isList (λw hw=>rp rx fx r fs w (by simpa using hw)) ⟨.bl _,H,I,rfl,?_⟩
  rw[show its.toArray.any (eqU x)=its.any (eqU x)by simp,vh r fs]
  exact q
 ·obtain⟨its,r,pl,hz⟩:=I.tuple hq
  refine SeqAt.in_tupleAt (eqU x) pl (λw hw=>rp rx fx r fs w (by simpa using hw)) ⟨.bl _,H,I,rfl,?_⟩
  rw[show its.toArray.any (eqU x)=its.any (eqU x)by simp,vh r fs]
  exact q
theorem A9:OpR X (compareOp .NotIn) (rIn X.K true):=by
 intro pins s σ H x y v u Q I rx ry h
 obtain⟨p,xs,rfl,hq,fx,fs,q⟩:=h
 cases ry
 rcases hq with hq | hq
 ·obtain⟨its,r,pl,hz⟩:=I.list hq
  refine SeqAt.notIn_listAt (eqU x) pl.isList (λw hw=>rp rx fx r fs w (by simpa using hw)) ⟨.bl _,H,I,rfl,?_⟩
  rw[show its.toArray.any (eqU x)=its.any (eqU x)by simp,vh r fs]
  exact q
 ·obtain⟨its,r,pl,hz⟩:=I.tuple hq
  refine SeqAt.notIn_tupleAt (eqU x) pl (λw hw=>rp rx fx r fs w (by simpa using hw)) ⟨.bl _,H,I,rfl,?_⟩
  rw[show its.toArray.any (eqU x)=its.any (eqU x)by simp,vh r fs]
  exact q
theorem Ba:gr X (.builtin "len") (λxs H Q=>∃p ys,xs=[.ref p]/\(SqL X.K H p ys\/SqT X.K H p ys)/\Q (.int ys.length) H):=by
 intro pins s σ H xs us Q I r h
 obtain⟨p,ys,rfl,hq,q⟩:=h
 obtain⟨u,rfl,rx⟩:=vals1 r
 cases rx
 have hn:=yf
 rcases hq with hq | hq
 ·obtain⟨its,r',pl,hz⟩:=I.list hq
  have hlen:=r'.length
  exact Calls.call_len_list pl.isList (by simp![AG]<;>lia) ⟨.int ys.length,H,I.tok _,⟨s.toks+1,by rw[AG,hlen]⟩,q⟩
 ·obtain⟨its,r',pl,hz⟩:=I.tuple hq
  have hlen:=r'.length
  exact len_tuple pl (by simp![AG]<;>lia) ⟨.int ys.length,H,I.tok _,⟨s.toks+1,by rw[AG,hlen]⟩,q⟩
theorem Bb:gr X (.type "list") (λxs H Q=>∃p ys,xs=[.ref p]/\(SqL X.K H p ys\/SqT X.K H p ys)/\∀l,H l=none->Q (.ref l) (upd H l (.lst ys))):=by
 intro pins s σ H xs us Q I r h
 obtain⟨p,ys,rfl,hq,q⟩:=h
 obtain⟨u,rfl,rx⟩:=vals1 r
 cases rx
 have fin:∀(its:List Value),cz ys its->ys.length<=sizeLine->∀(h':Heap) (c':Nat),(∀b o',s.heap.get? b=some o'->h'.get? b=some o') ->
   h'.get? s.heap.objs.size=some {cls:=.type "list",dict:=none,data:=.seq its.toArray c',slots:=#[]}->EP X pins σ Q (.ref s.heap.objs.size) {s with heap:=h'}:=λits r' hz h' c' kp e =>
  ⟨.ref s.heap.objs.size,_,I.laid (t':=s.toks) kp (AI _) (show ji X.prog X.w _ h' _ (.lst ys)from⟨hz,its,c',r',e⟩),rfl,q _ (I.hok.fresh (AI _))⟩
 rcases hq with hq | hq
 ·obtain⟨its,r',pl,hz⟩:=I.list hq
  have hlen:=r'.length
  obtain⟨o,ho,hc,n,hd⟩:=pl.isList
  exact call_list_seq p (.inl rfl) ho hc hd (λh' c' kp e=>fin its r' hz h' c' kp e) (by simp![AG]<;>lia)
 ·obtain⟨its,r',pl,hz⟩:=I.tuple hq
  have hlen:=r'.length
  obtain⟨o,ho,hc,n,hd⟩:=pl
  exact call_list_seq p (.inr rfl) ho hc hd (λh' c' kp e=>fin its r' hz h' c' kp e) (by simp![AG]<;>lia)
theorem zi:gr X (.type "tuple") (λxs H Q=>∃p ys,xs=[.ref p]/\((SqL X.K H p ys/\∀l,H l=none->Q (.ref l) (upd H l (.tup ys)))\/(SqT X.K H p ys/\Q (.ref p) H))):=by
 intro pins s σ H xs us Q I r h
 obtain⟨p,ys,rfl,h⟩:=h
 obtain⟨u,rfl,rx⟩:=vals1 r
 cases rx
 rcases h with⟨hq,q⟩ | ⟨hq,q⟩
 ·obtain⟨its,r',pl,hz⟩:=I.list hq
  have hlen:=r'.length
  refine call_tuple_list pl.isList (λh' kp=>?_) (by simp![AG]<;>lia)
  have I1:Inv X pins σ H {s with heap:=h'}:=I.kept (t':=s.toks) kp
  have I2:Inv X pins σ (upd H h'.objs.size (.tup ys)) {s with heap:=h'.push {cls:=.type "tuple",data:=.seq its.toArray}} :=
   I1.laid (t':=s.toks) (λb o e=>AC _ e) (AI _) (show ji X.prog X.w _ _ _ (.tup ys)from⟨hz,its,r',uh.new _ _⟩)
  exact⟨.ref h'.objs.size,_,I2,rfl,q _ (I1.hok.fresh (AI _))⟩
 ·obtain⟨its,r',pl,hz⟩:=I.tuple hq
  exact call_tuple_same pl ⟨.ref p,H,I,rfl,q⟩
def tyV (K:PySem.W.Frag) (T:String) (x:V) (H:Hp):Prop:=match x with
 | .str _=>T="str"
 | .int _=>T="int"
 | .ref p=>(T="list"/\∃xs,SqL K H p xs)\/(T="tuple"/\∃o,K.lookup p=some o/\o.cls=.type "tuple"/\o.dict=none) \/
   (T="dict"/\((∃kvs,H p=some (.dK kvs))\/∃kvs,H p=some (.dT kvs)))\/(T="set"/\∃S n,H p=some (.set S n))
 | _=>False
theorem P4 {pins:List (Addr×Obj)} {σ:St} {H:Hp} {s:Shared} {T:String} {x:V} {v:Value} (I:Inv X pins σ H s) (r:RelV x v) (ty:tyV X.K T x H) :
  s.TypeIs v T/\∀a,v=.ref a->∃ob,s.heap.get? a=some ob/\ob.dict=none:=by
 cases x with
 | str z =>
  obtain⟨t,rfl⟩:=r
  cases(show T="str" from ty)
  exact⟨typeIs_str s z t,λ_ e=>nomatch e⟩
 | int i =>
  obtain⟨t,rfl⟩:=r
  cases(show T="int" from ty)
  exact⟨typeIs_int s i t,λ_ e=>nomatch e⟩
 | ref p =>
  cases r
  rcases ty with⟨rfl,xs,hq⟩ | ⟨rfl,o,hk,hc,hd⟩ | ⟨rfl,hk⟩ | ⟨rfl,S,n,hk⟩
  ·obtain⟨its,_,pl,_⟩:=I.list hq
   refine⟨pl.isList.typeIs,λa e=>?_⟩
   cases e
   obtain⟨o,n,e,c,hd,_⟩:=pl
   exact⟨o,e,hd⟩
  ·refine⟨⟨o,I.kIn p o hk,hc⟩,λa e=>?_⟩
   cases e
   exact⟨o,I.kIn _ o hk,hd⟩
  ·have z:∃o,s.heap.get? p=some o/\o.ExactDict:=by
    rcases hk with⟨kvs,hk⟩ | ⟨kvs,hk⟩
    ·obtain⟨_,_,_,_,o,_,_,e,ex,_⟩:=I.hok p _ hk
     exact⟨o,e,ex⟩
    ·obtain⟨_,_,_,_,o,_,_,e,ex,_⟩:=I.hok p _ hk
     exact⟨o,e,ex⟩
   obtain⟨o,e,ex⟩:=z
   refine⟨⟨o,e,ex.1⟩,λa e2=>?_⟩
   cases e2
   exact⟨o,e,ex.2.1⟩
  ·obtain⟨o,_,_,_,e,ex,_⟩:=I.hok p _ hk
   refine⟨⟨o,e,ex.1⟩,λa e2=>?_⟩
   cases e2
   exact⟨o,e,ex.2.1⟩
 | _=>exact False.elim ty
def aa5 (K:PySem.W.Frag) (T:String) (r:V->List V->Hp->VK->Prop) (to:TE):TE:=λσ H Q=>to σ H λx H1=>tyV K T x H1/\r x [] H1 Q
def tBM (K:PySem.W.Frag) (T:String) (r:V->List V->Hp->VK->Prop) (to:TE) (t:TA):TE:=λσ H Q=>to σ H λx H1=>tyV K T x H1/\t σ H1 λxs H2=>r x xs H2 Q
variable {o e : Expr} {es : List Expr} {to : TE} {t : TA} {name : Str} {apos cpos : Pos} {T id : String} {r : V -> List V -> Hp -> VK -> Prop}
theorem P5 (pa:PlainAttrs T) (slot:Slot T name id) (hty:typeOf (.builtin id)=pure (.type "method_descriptor")) (hm:MtR X id r) (ho:PE X o to)
  (hbase:attributeBase o name X.env (eval o X.env)=eval o X.env:=by rfl) (hline:(apos.endLine==cpos.line)=true:=by rfl):PE X (.Call (.Attribute o name apos) [] [] cpos) (aa5 X.K T r to):=by
 intro pins s σ H Q I h
 refine wpAny_Call_method0_late hbase hline (thn (ho pins s σ H _ I h) λv s1 ⟨x,H1,I1,r1,ty,q1⟩=>?_)
 obtain⟨h1,h2⟩:=P4 I1 r1 ty
 exact⟨T,id,pa,slot,hty,h1,h2,FF rfl (PySem.evalArgs_none (hm pins s1 σ H1 x [] v [] Q I1 r1 .nil q1))⟩
theorem Sn (pa:PlainAttrs T) (slot:Slot T name id) (hty:typeOf (.builtin id)=pure (.type "method_descriptor")) (hm:MtR X id r) (ho:PE X o to) (ha:PA X (e::es) t)
  (hbase:attributeBase o name X.env (eval o X.env)=eval o X.env:=by rfl)
  (hfew:((backTo cpos (starEach (e::es) X.env)).all (λx=>!x.1)&&(backToKw cpos (keywordEach [] X.env)).all (λx=>x.1.isSome)
   && decide ((e::es).length+([]:List Keyword).length+(if([]:List Keyword).isEmpty then 0 else 1)<30))=true:=by rfl)
  (hline:(apos.endLine==cpos.line)=true:=by rfl) (hs:starEach (e::es) X.env=(false,eval e X.env)::starEach es X.env:=by rfl) (hplain:(backTo cpos (starEach es X.env)).any (·.1)=false:=by rfl) :
  PE X (.Call (.Attribute o name apos) (e::es) [] cpos) (tBM X.K T r to t):=by
 intro pins s σ H Q I h
 refine wpAny_Call_method_late hbase hfew hline rfl (thn (ho pins s σ H _ I h) λv s1 ⟨x,H1,I1,r1,ty,q1⟩=>?_)
 obtain⟨h1,h2⟩:=P4 I1 r1 ty
 refine⟨T,id,pa,slot,hty,h1,h2,?_⟩
 have hA:=ha cpos pins s1 σ H1 _ I1 q1
 rw[hs]at hA ⊢
 refine FF (by show(false || (backTo cpos (starEach es X.env)).any (·.1))=false;rw[hplain]<;>rfl) (KF ?_)
 exact thn hA λus s2 ⟨vs,H2,I2,r2,q2⟩=>hm pins s2 σ H2 x vs v us Q I2 r1 r2 q2
end
def MtM (X:Cx) (id:String) (r:V->List V->Hp->VK->Prop):Prop :=
 ∀(pins:List (Addr×Obj)) (s:Shared) (σ:St) (H:Hp) (x:V) (xs:List V) (v:Value) (us:List Value) (Q:VK),Inv X pins σ H s->RelV x v->cz xs us->r x xs H Q ->
  wpAny (model X.prog X.w) X.A (call (.builtin id) (v::us)) (EP X pins σ Q) X.xe s
theorem cz.one:∀{x:V} {us:List Value},cz [x] us->∃u,us=[u]/\RelV x u
 | _,_,.cons r .nil=>⟨_,rfl,r⟩
theorem cz.zero:∀{us:List Value},cz [] us->us=[]
 | _,.nil=>rfl
theorem cz.dropLast {xs:List V} {us:List Value} (h:cz xs us):cz xs.dropLast us.dropLast:=by
 induction h with
 | nil=>exact .nil
 | cons r t ih =>
  cases t with
  | nil=>exact .nil
  | cons q t'=>exact .cons r ih
theorem cz.eraseIdx:∀{xs:List V} {us:List Value} (i:Nat),cz xs us->cz (xs.eraseIdx i) (us.eraseIdx i)
 | _,_,_,.nil=>.nil
 | _,_,0,.cons _ t=>t
 | _,_,i+1,.cons r t=>.cons r (cz.eraseIdx i t)
theorem cz.reverse {xs:List V} {us:List Value} (h:cz xs us):cz xs.reverse us.reverse:=by
 induction h with
 | nil=>exact .nil
 | cons r t ih=>rw[IJ,IJ];exact cz.append ih (.cons r .nil)
theorem cz.rep {xs:List V} {us:List Value} (h:cz xs us):∀k:Nat,cz (List.replicate k xs).flatten (List.replicate k us).flatten
 | 0=>.nil
 | k+1=>by
  rw[CY,CY,FR,FR]
  exact cz.append h (cz.rep h k)
theorem G3 {α:Type} (l:List α):l.eraseIdx (l.length-1)=l.dropLast:=by
 induction l with
 | nil=>rfl
 | cons a r ih =>
  cases r with
  | nil=>rfl
  | cons b r =>
   have e:(a::b::r).length-1=((b::r).length-1)+1:=by
    have h1:(a::b::r).length=r.length+2:=rfl
    have h2:(b::r).length=r.length+1:=rfl
    lia
   rw[e,JA,ih]
   all_goals rfl
theorem Bc {α:Type}:∀(l:List α) (i:Nat),(l.eraseIdx i).length<=l.length
 | [],_=>AI _
 | _::_,0=>EF _
 | _::r,i+1=>Nat.succ_le_succ (Bc r i)
theorem foldl_rep (its:List Value):∀(k:Nat) (acc:List Value),
  List.foldl (λx1 x2=>x1++x2) acc.toArray (List.replicate k its.toArray)=(acc++(List.replicate k its).flatten).toArray
 | 0,acc=>by simp
 | k+1,acc=>by
  have e:acc.toArray++its.toArray=(acc++its).toArray:=by simp
  have e2:(acc++its)++(List.replicate k its).flatten=acc++(List.replicate (k+1) its).flatten:=by
   rw[CY,FR,Da]
  rw[<-e2,<-foldl_rep its k (acc++its),<-e,CY,JQ]
section
variable {X : Cx} {pins : List (Addr × Obj)} {σ : St} {H : Hp} {s : Shared} {l b : Addr} {xs ys zs : List V}
theorem Inv.lset {its its':List Value} {n:Nat} {f:Array Value->Array Value} {t':Nat} (I:Inv X pins σ H s) (hH:H l=some (.lst xs))
  (e:s.heap.get? l=some {cls:=.type "list",data:=.seq its.toArray n}) (hf:f its.toArray=its'.toArray) (hv:cz ys its') (hz:ys.length<=sizeLine) :
  Inv X pins σ (upd H l (.lst ys)) {s with heap:=s.heap.update l (Obj.mapSeq f),toks:=t'}:=by
 have q:=PySem.IsL.update e f
 rw[hf]at q
 refine I.write (x:=l) (e:=l) (by rw[hH];exact trivial) (.inl rfl) (λb' u hb hu=>(GR s.heap (Obj.mapSeq f) (Ne.symm hb)).trans hu) ⟨_,q⟩ ?_
 exact⟨hz,its',_,hv,q⟩
theorem Inv.lnew {its:List Value} {t':Nat} (I:Inv X pins σ H s) (hv:cz ys its) (hz:ys.length<=sizeLine) :
  Inv X pins σ (upd H s.heap.objs.size (.lst ys)) {s with heap:=s.heap.push {cls:=.type "list",data:=.seq its.toArray},toks:=t'} :=
 I.laid (λ_ _ q=>AC _ q) (AI _) ⟨hz,its,0,hv,AJ _ rfl⟩
theorem Inv.fresh (I:Inv X pins σ H s):H s.heap.objs.size=none:=I.hok.fresh (AI _)
theorem Inv.lstM (I:Inv X pins σ H s) (hH:H l=some (.lst xs)):xs.length<=sizeLine/\∃(its:List Value) (n:Nat),cz xs its/\xs.length=its.length/\s.heap.get? l=some {cls:=.type "list",data:=.seq its.toArray n}:=by
 obtain⟨z,its,n,r,e⟩:=I.hok l _ hH
 exact⟨z,its,n,r,r.length,e⟩
theorem Nm {n:Nat} (h:n<=sizeLine):Builtin.List.listTooLong n=false:=by
 unfold Builtin.List.listTooLong
 exact decide_eq_false (by lia)
end
section
variable {X : Cx}
def rAppend:V->List V->Hp->VK->Prop:=λx vs H Q=>∃l xs y,x=.ref l/\vs=[y]/\H l=some (.lst xs)/\xs.length<sizeLine/\Q .non (upd H l (.lst (xs++[y])))
theorem Je:MtM X "list.append" rAppend:=by
 intro pins s σ H x vs v us Q I rx rv h
 obtain⟨l,xs,y,rfl,rfl,hH,hz,q⟩:=h
 cases rx
 obtain⟨u,rfl,ru⟩:=rv.one
 obtain⟨z,its,n,r,hl,e⟩:=I.lstM hH
 refine FT F.slot_list_append ⟨_,e,rfl⟩ F.entry_list_append (F.args_list_append_2 _ _) (PySem.list_append l its.toArray n u (by rw[AG];lia)) ⟨e,?_⟩
 refine⟨.non,_,I.lset (its':=its++[u]) hH e (by simp) (r.append (.cons ru .nil)) ?_,rfl,q⟩
 rw[BU,FM]
 lia
def rPop:V->List V->Hp->VK->Prop:=λx vs H Q=>∃l xs y,x=.ref l/\vs=[]/\H l=some (.lst xs)/\xs[xs.length-1]? = some y/\Q y (upd H l (.lst xs.dropLast))
theorem V6:MtM X "list.pop" rPop:=by
 intro pins s σ H x vs v us Q I rx rv h
 obtain⟨l,xs,y,rfl,rfl,hH,hy,q⟩:=h
 cases rx
 have hus:=rv.zero
 subst hus
 obtain⟨z,its,n,r,hl,e⟩:=I.lstM hH
 obtain⟨u,hu,ru⟩:=r.get hy
 have hy':its.toArray[its.toArray.size-1]? = some u:=by
  show its.toArray[its.length-1]? = some u
  rw[<-CZ,<-hl]
  exact hu
 refine FT JR ⟨_,e,rfl⟩ F.entry_list_pop (F.args_list_pop_1 _) (MeetsSeq.list_pop_last l its.toArray n u hy' (by rw[AG];lia)) ⟨e,?_⟩
 refine⟨y,_,I.lset (its':=its.dropLast) hH e ?_ r.dropLast ?_,ru,q⟩
 ·show its.toArray.eraseIdxIfInBounds (its.toArray.size-1)=its.dropLast.toArray
  rw[AG,GY,G3]
 ·rw[List.length_dropLast]
  lia
def rPopAt:V->List V->Hp->VK->Prop:=λx vs H Q=>∃l xs i k y,x=.ref l/\vs=[.int i]/\H l=some (.lst xs) /\ -(2 ^ 63)<=i/\i<2 ^ 63/\seqIndex? i xs.length=some k/\xs[k]? = some y/\Q y (upd H l (.lst (xs.eraseIdx k)))
theorem Nn:MtM X "list.pop" rPopAt:=by
 intro pins s σ H x vs v us Q I rx rv h
 obtain⟨l,xs,i,k,y,rfl,rfl,hH,h1,h2,hk,hy,q⟩:=h
 cases rx
 obtain⟨u,rfl,ru⟩:=rv.one
 obtain⟨t,rfl⟩:=ru
 obtain⟨z,its,n,r,hl,e⟩:=I.lstM hH
 obtain⟨w,hw,rw'⟩:=r.get hy
 refine FT JR ⟨_,e,rfl⟩ F.entry_list_pop (F.args_list_pop_2 _ _)
  (MeetsSeq.list_pop_at l its.toArray n i t k w (fitsIndex_both h1 h2) (by rw[AG,<-hl];exact hk) (by rw[<-CZ];exact hw) (by rw[AG];lia)) ⟨e,?_⟩
 refine⟨y,_,I.lset (its':=its.eraseIdx k) hH e ?_ (r.eraseIdx k) ?_,rw',q⟩
 ·show its.toArray.eraseIdxIfInBounds k=(its.eraseIdx k).toArray
  rw[GY]
 ·have:=Bc xs k
  lia
def rReverse:V->List V->Hp->VK->Prop:=λx vs H Q=>∃l xs,x=.ref l/\vs=[]/\H l=some (.lst xs)/\Q .non (upd H l (.lst xs.reverse))
theorem G4:MtM X "list.reverse" rReverse:=by
 intro pins s σ H x vs v us Q I rx rv h
 obtain⟨l,xs,rfl,rfl,hH,q⟩:=h
 cases rx
 have hus:=rv.zero
 subst hus
 obtain⟨z,its,n,r,hl,e⟩:=I.lstM hH
 refine FT F.slot_list_reverse ⟨_,e,rfl⟩ F.entry_list_reverse (F.args_list_reverse_1 _) (AutoSeq1.list_reverse_list_0 l its.toArray n (by rw[AG];lia)) ⟨e,?_⟩
 refine⟨.non,_,I.lset (its':=its.reverse) hH e (by simp) r.reverse ?_,rfl,q⟩
 rw[List.length_reverse]
 lia
def rCat:R2:=λx y H Q=>∃l b xs zs,x=.ref l/\y=.ref b/\H l=some (.lst xs)/\H b=some (.lst zs)/\xs.length+zs.length<=sizeLine/\∀p,H p=none->Q (.ref p) (upd H p (.lst (xs++zs)))
theorem op_cat:OpR X (binaryOp .Add) rCat:=by
 intro pins s σ H x y v u Q I rx ry h
 obtain⟨l,b,xs,zs,rfl,rfl,hH,hB,hz,q⟩:=h
 cases rx
 cases ry
 obtain⟨z,its,n,r,hl,e⟩:=I.lstM hH
 obtain⟨z2,its2,n2,r2,hl2,e2⟩:=I.lstM hB
 refine PySem.P.add_list e e2 ?_ (by rw[AG,AG];lia)
 have ea:its.toArray++its2.toArray=(its++its2).toArray:=by simp
 rw[ea]
 exact⟨.ref _,_,I.lnew (t':=s.toks) (r.append r2) (by rw[BU];lia),rfl,q _ I.fresh⟩
theorem len_rep {α:Type} (xs:List α) (k:Nat):(List.replicate k xs).flatten.length=k*xs.length:=by
 induction k with
 | zero=>simp
 | succ k ih=>rw[CY,FR,BU,ih,Nat.succ_mul,Nat.add_comm]
end
section
variable {κ : Type} [DecidableEq κ]
def Eu (kvs:List (κ×V)) (k:κ):Option V:=(kvs.find? λkv=>decide (kv.1=k)).map (·.2)
def putK (kvs:List (κ×V)) (k:κ) (v:V):List (κ×V) :=
 if(kvs.any λkv=>decide (kv.1=k))=true then kvs.map (λkv=>if kv.1=k then(kv.1,v)else kv)else kvs++[(k,v)]
theorem u3 {p:κ×V} {r:List (κ×V)} {k:κ} (e:p.1=k):Eu (p::r) k=some p.2:=by simp[Eu,FI,e]
theorem u4 {p:κ×V} {r:List (κ×V)} {k:κ} (e:¬p.1=k):Eu (p::r) k=Eu r k:=by simp[Eu,FI,e]
theorem Ew (k:κ):∀kvs:List (κ×V),(kvs.any λkv=>decide (kv.1=k))=(Eu kvs k).isSome
 | []=>rfl
 | p::r=>by
  rw[Do]
  by_cases e:p.1=k
  ·simp![u3 e,decide_eq_true e,Bool.true_or,Option.isSome_some]
  ·rw[u4 e,decide_eq_false e,Bool.false_or];exact Ew k r
theorem qy (kvs:List (κ×V)) (k:κ) (v:V):(putK kvs k v).length<=kvs.length+1:=by
 unfold putK
 split
 ·rw[AD];lia
 ·rw[BU,BV,CW];lia
theorem Pq.isSome_eq {o:Option V} {u:Option Value} (r:Pq o u):o.isSome=u.isSome:=by
 cases o with
 | none=>cases u with
  | none=>rfl
  | some _=>exact(show False from r).elim
 | some _=>cases u with
  | none=>exact(show False from r).elim
  | some _=>rfl
theorem Pq.getD {o:Option V} {u:Option Value} {d:V} {d':Value} (r:Pq o u) (rd:RelV d d'):RelV (o.getD d) (u.getD d'):=by
 cases o with
 | none=>cases u with
  | none=>exact rd
  | some _=>exact(show False from r).elim
 | some _=>cases u with
  | none=>exact(show False from r).elim
  | some _=>exact r
theorem KV.val {kvs:List (κ×V)} {vs:List (κ×Value)} (r:KV kvs vs) (k:κ):Pq (Eu kvs k) (valueAt vs k):=by
 unfold KV at r
 induction r with
 | nil=>exact True.intro
 | @cons p q ps qs h t ih =>
  obtain⟨h1,h2⟩:=h
  by_cases e:p.1=k
  ·have e':q.1=k:=h1.symm.trans e
   have b:valueAt (q::qs) k=some q.2:=by simp[valueAt,FI,e']
   rw[u3 e,b];exact h2
  ·have e':¬q.1=k:=λz=>e (h1.trans z)
   have b:valueAt (q::qs) k=valueAt qs k:=by simp[valueAt,FI,e']
   rw[u4 e,b];exact ih
theorem KV.any {kvs:List (κ×V)} {vs:List (κ×Value)} (r:KV kvs vs) (k:κ):(kvs.any λkv=>decide (kv.1=k))=vs.any λkv=>decide (kv.1=k):=by
 unfold KV at r
 induction r with
 | nil=>rfl
 | cons h t ih=>rw[Do,Do,ih,h.1]
theorem KV.repl {kvs:List (κ×V)} {vs:List (κ×Value)} (r:KV kvs vs) (k:κ) {y:V} {u:Value} (ry:RelV y u) :
  KV (kvs.map λkv=>if kv.1=k then(kv.1,y)else kv) (vs.map λkv=>if kv.1=k then(kv.1,u)else kv):=by
 unfold KV at r ⊢
 induction r with
 | nil=>exact .nil
 | @cons p q ps qs h t ih =>
  rw[AR,AR]
  refine .cons ?_ ih
  obtain⟨h1,h2⟩:=h
  by_cases e:p.1=k
  ·rw[if_pos e,if_pos (h1.symm.trans e)];exact⟨h1,ry⟩
  ·rw[if_neg e,if_neg (λz=>e (h1.trans z))];exact⟨h1,h2⟩
theorem KV.put {kvs:List (κ×V)} {vs:List (κ×Value)} (r:KV kvs vs) (k:κ) {y:V} {u:Value} (ry:RelV y u):KV (putK kvs k y) (stored vs k u):=by
 unfold putK stored
 rw[r.any k]
 by_cases e:(vs.any λkv=>decide (kv.1=k))=true
 ·rw[if_pos e,if_pos e];exact r.repl k ry
 ·rw[if_neg e,if_neg e];exact Paired.snoc r ⟨rfl,ry⟩
theorem KV.length {kvs:List (κ×V)} {vs:List (κ×Value)} (r:KV kvs vs):kvs.length=vs.length:=EE r
end
theorem G5 {P:Program} {w:World} {k:Key} {u:Value} (r:RelV (kV k) u):(dm P w).is k u=true:=by
 cases k with
 | inl i=>obtain⟨t,e⟩:=(show ∃t,u=Value.int i t from r);subst e;exact Cz P w i t
 | inr x=>obtain⟨t,e⟩:=(show ∃t,u=Value.str x t from r);subst e;exact C0 P w x t
theorem Bd {P:Program} {w:World}:∀{ks:List Key} {us:List Value},cz (ks.map kV) us->ItemsAre (dm P w) ks us
 | [],_,r=>by rw[DJ]at r;cases r;exact .nil
 | k::ks,_,r=>by
  rw[AR]at r
  cases r with
  | cons h t=>exact .cons (G5 h) (Bd t)
abbrev KT (H:Hp):List (List Key×V)->List (List Key×Addr×Value)->Prop:=Paired λp q=>p.1=q.1/\H q.2.1=some (.tup (p.1.map kV))/\RelV p.2 q.2.2
theorem KT.val {H:Hp} {kvs:List (List Key×V)} {xs:List (List Key×Addr×Value)} (r:KT H kvs xs) (k:List Key):Pq (Eu kvs k) ((atKey xs k).map (·.2)):=by
 induction r with
 | nil=>exact True.intro
 | @cons p q ps qs h t ih =>
  obtain⟨h1,_,h2⟩:=h
  by_cases e:p.1=k
  ·have e':q.1=k:=h1.symm.trans e
   have b:atKey (q::qs) k=some q.2:=by simp[atKey,FI,e']
   rw[u3 e,b];exact h2
  ·have e':¬q.1=k:=λz=>e (h1.trans z)
   have b:atKey (q::qs) k=atKey qs k:=by simp[atKey,FI,e']
   rw[u4 e,b];exact ih
theorem KT.repl {H:Hp} {kvs:List (List Key×V)} {xs:List (List Key×Addr×Value)} (r:KT H kvs xs) (k:List Key) {y:V} {u:Value} (ry:RelV y u) :
  KT H (kvs.map λkv=>if kv.1=k then(kv.1,y)else kv) (xs.map (putAt k u)):=by
 induction r with
 | nil=>exact .nil
 | @cons p q ps qs h t ih =>
  rw[AR,AR]
  refine .cons ?_ ih
  obtain⟨h1,h2,h3⟩:=h
  unfold putAt
  by_cases e:p.1=k
  ·rw[if_pos e,if_pos (h1.symm.trans e)];exact⟨h1,h2,ry⟩
  ·rw[if_neg e,if_neg (λz=>e (h1.trans z))];exact⟨h1,h2,h3⟩
theorem KT.put {H:Hp} {kvs:List (List Key×V)} {xs:List (List Key×Addr×Value)} (r:KT H kvs xs) (k:List Key) {b:Addr} {y:V} {u:Value} (hb:H b=some (.tup (k.map kV))) (ry:RelV y u) :
  KT H (putK kvs k y) (storedH xs k b u):=by
 have e:(kvs.any λkv=>decide (kv.1=k))=(atKey xs k).isSome:=by
  rw[Ew,(r.val k).isSome_eq,IK]
 unfold putK storedH
 rw[e]
 by_cases q:(atKey xs k).isSome=true
 ·rw[if_pos q,if_pos q];exact r.repl k ry
 ·rw[if_neg q,if_neg q];exact Paired.snoc r ⟨rfl,hb,ry⟩
theorem KT.keeps {H H':Hp} {kvs:List (List Key×V)} {xs:List (List Key×Addr×Value)} (r:KT H kvs xs) (ht:∀b ys,H b=some (.tup ys)->H' b=some (.tup ys)):KT H' kvs xs :=
 Paired.mapP r λ_ _ z=>⟨z.1,ht _ _ z.2.1,z.2.2⟩
section
variable {P : Program} {w : World} {H : Hp} {h : Heap} {a : Addr}
theorem V7 {u:HO} (ok:HOk P w H h) (e:Rd H a u):ji P w H h a u:=e.ok ok
theorem Jf {kvs:List (Key×V)} (ok:HOk P w H h) (e:Rd H a (.dK kvs)):kvs.length<=sizeLine/\(a==sysModules)=false/\∃vs,KV kvs vs/\h.DictOf (dm P w) a vs :=
 show ji P w H h a (.dK kvs)from V7 ok e
theorem So {kvs:List (Key×V)} (ok:HOk P w H h) (e:H a=some (.dK kvs)):kvs.length<=sizeLine/\(a==sysModules)=false/\∃vs,KV kvs vs/\h.DictOf (dm P w) a vs:=Jf ok (.inl e)
theorem Be {ks:List Key} (ok:HOk P w H h) (e:H a=some (.tup (ks.map kV))):(tupleKind (dm P w)).is h ks a:=by
 obtain⟨_,its,r,o,h1,h2,_,n,h3⟩:=(show ji P w H h a (.tup (ks.map kV))from ok a _ e)
 exact⟨o,its.toArray,n,h1,h2,h3,by simpa using Bd r⟩
theorem Jg {kvs:List (List Key×V)} (ok:HOk P w H h) (e:Rd H a (.dT kvs)):kvs.length<=sizeLine/\(a==sysModules)=false /\
  ∃xs,KT H kvs xs/\h.DictOfH (tupleKind (dm P w)) a xs:=by
 obtain⟨z,y,xs,r,o,es,ep,h1,h2,h3,h4,h5⟩:=(show ji P w H h a (.dT kvs)from V7 ok e)
 refine⟨z,y,xs,r,o,es,ep,h1,h2,h3,h4,λx hx=>?_,h5⟩
 have all:∀{l:List (List Key×V)} {m:List (List Key×Addr×Value)},KT H l m->∀x∈m,(tupleKind (dm P w)).is h x.1 x.2.1:=by
  intro l m q
  induction q with
  | nil=>intro x hx;exact nomatch hx
  | @cons p q ps qs hq t ih =>
   intro x hx
   rcases AL.mp hx with e | hx
   ·subst e
    exact Be ok (by rw[<-hq.1];exact hq.2.1)
   ·exact ih x hx
 exact all r x hx
theorem Zm {kvs:List (List Key×V)} (ok:HOk P w H h) (e:H a=some (.dT kvs)):kvs.length<=sizeLine/\(a==sysModules)=false /\
  ∃xs,KT H kvs xs/\h.DictOfH (tupleKind (dm P w)) a xs:=Jg ok (.inl e)
end
def Np (H:Hp) (a:Addr) (y:V) (r:Option V):Prop :=
 (∃kvs k,Rd H a (.dK kvs)/\y=kV k/\r=Eu kvs k)\/∃kvs k b,Rd H a (.dT kvs)/\y=.ref b/\H b=some (.tup (k.map kV))/\r=Eu kvs k
def Yw (H:Hp) (a:Addr) (y v:V) (H':Hp):Prop :=
 (∃kvs k,H a=some (.dK kvs)/\y=kV k/\kvs.length<sizeLine/\H'=upd H a (.dK (putK kvs k v))) \/
 ∃kvs k b,H a=some (.dT kvs)/\y=.ref b/\H b=some (.tup (k.map kV))/\kvs.length<sizeLine/\H'=upd H a (.dT (putK kvs k v))
theorem Np.k {H:Hp} {a:Addr} {kvs:List (Key×V)} {k:Key} (e:H a=some (.dK kvs)):Np H a (kV k) (Eu kvs k):=.inl ⟨kvs,k,.inl e,rfl,rfl⟩
theorem Yw.k {H:Hp} {a:Addr} {kvs:List (Key×V)} {k:Key} {v:V} (e:H a=some (.dK kvs)) (hl:kvs.length<sizeLine):Yw H a (kV k) v (upd H a (.dK (putK kvs k v))):=.inl ⟨kvs,k,e,rfl,hl,rfl⟩
section
variable {X : Cx} {pins : List (Addr × Obj)} {σ : St} {H : Hp} {s : Shared} {a : Addr} {y v : V} {u r : Value} {o : Option V} {A : Around} {E : Value -> Shared -> Prop}
theorem Inv.big (I:Inv X pins σ H s):sysModules<s.heap.objs.size:=by
 have h:mainGlobals<s.heap.objs.size:=(I.mod.glob.keeps I.bk).lt
 exact Nat.lt_trans (by decide) h
theorem acn {Q:Value->Shared->Prop} (hu:A.units+1<cLine) (I:Inv X pins σ H s) (g:Np H a y o) (ry:RelV y u) (h:∀s',Inv X pins σ H s'->Q (.bool o.isSome) s') :
  wpAny (model X.prog X.w) A (compareOp .In u (.ref a)) Q E s:=by
 rcases g with⟨kvs,k,e,ey,l⟩ | ⟨kvs,k,b,e,ey,eb,l⟩
 ·subst ey
  obtain⟨z,hd,vs,rel,dd⟩:=Jf I.hok e
  refine wpAny_in_of (G5 ry) hd dd.mapOf ?_
  rw[<-(rel.val k).isSome_eq,<-l]
  exact h _ (I.tok _)
 ·subst ey
  cases(show u=Value.ref b from ry)
  obtain⟨z,hd,xs,rel,dd⟩:=Jg I.hok e
  refine wpAny_in_heap (GJ hu) (Be I.hok eb) hd dd ?_
  have q:=(rel.val k).isSome_eq
  rw[IK]at q
  rw[<-q,<-l]
  exact h _ (I.tok _)
theorem Sr {Q:Value->Shared->Prop} (hu:A.units+1<cLine) (I:Inv X pins σ H s) (g:Np H a y o) (ry:RelV y u) (h:∀s',Inv X pins σ H s'->Q (.bool (!o.isSome)) s') :
  wpAny (model X.prog X.w) A (compareOp .NotIn u (.ref a)) Q E s:=by
 rcases g with⟨kvs,k,e,ey,l⟩ | ⟨kvs,k,b,e,ey,eb,l⟩
 ·subst ey
  obtain⟨z,hd,vs,rel,dd⟩:=Jf I.hok e
  refine wpAny_notIn_of (G5 ry) hd dd.mapOf ?_
  rw[<-(rel.val k).isSome_eq,<-l]
  exact h _ (I.tok _)
 ·subst ey
  cases(show u=Value.ref b from ry)
  obtain⟨z,hd,xs,rel,dd⟩:=Jg I.hok e
  refine wpAny_notIn_heap (GJ hu) (Be I.hok eb) hd dd ?_
  have q:=(rel.val k).isSome_eq
  rw[IK]at q
  rw[<-q,<-l]
  exact h _ (I.tok _)
theorem C4 {h':Heap} {t':Nat} {ob:HO} (I:Inv X pins σ H s) (mu:Mut (H a)) (hs:Heap.SameBut a s.heap h') (he:∃q,h'.get? a=some q) (new:ji X.prog X.w (upd H a ob) h' a ob) :
  Inv X pins σ (upd H a ob) {s with heap:=h',toks:=t'} :=
 I.write (x:=a) (e:=a) mu (.inl rfl) (λb q hb z=>(hs.2 b hb).trans z) he new
theorem P6 {P:Program} {w:World} {H':Hp} {h':Heap} {kvs:List (Key×V)} {vs:List (Key×Value)} (z:kvs.length<=sizeLine) (hd:(a==sysModules)=false) (rel:KV kvs vs) (dd:h'.DictOf (dm P w) a vs) :
  ji P w H' h' a (.dK kvs):=⟨z,hd,vs,rel,dd⟩
theorem Jh {H':Hp} {Q:Unit->Shared->Prop} (hu:A.units+1<cLine) (I:Inv X pins σ H s) (g:Yw H a y v H') (ry:RelV y u) (rv:RelV v r) (h:∀s',Inv X pins σ H' s'->Q () s') :
  wpAny (model X.prog X.w) A (setItem (.ref a) u r) Q E s:=by
 rcases g with⟨kvs,k,e,ey,l,eH⟩ | ⟨kvs,k,b,e,ey,eb,l,eH⟩
 ·subst ey eH
  obtain⟨z,hd,vs,rel,dd⟩:=So I.hok e
  have hz:vs.length<=sizeLine:=by rw[<-rel.length];exact z
  have hl:(putK kvs k v).length<=sizeLine:=by have:=qy kvs k v;lia
  refine wpAny_setItem_pairs (hsz:=hz) (G5 ry) dd λh' dd' hs=>h _ ?_
  have he:∃q,h'.get? a=some q:=let ⟨q,_,_,hq,_⟩:=dd';⟨q,hq⟩
  exact C4 I (by rw[e];exact True.intro) hs he (P6 hl hd (rel.put k rv) dd')
 ·subst ey eH
  cases(show u=Value.ref b from ry)
  obtain⟨z,hd,xs,rel,dd⟩:=Zm I.hok e
  have hz:xs.length<=sizeLine:=by rw[<-EE rel];exact z
  have hl:(putK kvs k v).length<=sizeLine:=by have:=qy kvs k v;lia
  refine wpAny_setItem_heap (hsz:=hz) (GJ hu) (Be I.hok eb) dd λh' dd' hs=>h _ ?_
  obtain⟨q,es,ep,hq,h2,h3,h4,_,h5⟩:=dd'
  refine C4 I (by rw[e];exact True.intro) hs ⟨q,hq⟩ ⟨hl,hd,_,(rel.put k eb rv).keeps λc ys ec=>?_,q,es,ep,hq,h2,h3,h4,h5⟩
  rw[a8 (qw ec e (λz=>nomatch z))]
  exact ec
end
theorem Ey {P:Program} {w:World} {H:Hp} (h:Heap) (hb:sysModules<h.objs.size):ji P w H (h.push {cls:=.type "dict",data:=.dict #[]}) h.objs.size (.dK []) :=
 ⟨CS _,beq_eq_false_iff_ne.mpr (Ne.symm (AT hb)),[],.nil,Heap.DictOf.new h⟩
theorem Nq {P:Program} {w:World} {H:Hp} (h:Heap) (hb:sysModules<h.objs.size):ji P w H (h.push {cls:=.type "dict",data:=.dict #[]}) h.objs.size (.dT []) :=
 ⟨CS _,beq_eq_false_iff_ne.mpr (Ne.symm (AT hb)),[],.nil,_,#[],0,AJ _ rfl,⟨rfl,rfl,rfl⟩,rfl,rfl,List.nodup_nil⟩
def tDNewK:TE:=λ_ H Q=>∀p,H p=none->Q (.ref p) (upd H p (.dK []))
def tDNewT:TE:=λ_ H Q=>∀p,H p=none->Q (.ref p) (upd H p (.dT []))
section
variable {X : Cx} {pos : Pos}
theorem Nr:PE X (.Dict [] [] pos) tDNewK:=λpins s σ H Q I h =>
 wpAny_Dict_empty ⟨.ref s.heap.objs.size,_,I.laid (a:=s.heap.objs.size) (o:=.dK []) (t':=s.toks) (λ_ _ q=>AC _ q) (AI _) (Ey s.heap I.big),rfl,h _ (I.hok.fresh (AI _))⟩
theorem Nt:PE X (.Dict [] [] pos) tDNewT:=λpins s σ H Q I h =>
 wpAny_Dict_empty ⟨.ref s.heap.objs.size,_,I.laid (a:=s.heap.objs.size) (o:=.dT []) (t':=s.toks) (λ_ _ q=>AC _ q) (AI _) (Nq s.heap I.big),rfl,h _ (I.hok.fresh (AI _))⟩
end
def Ji:List (TE×TE)->St->Hp->(List (V×V)->Hp->Prop)->Prop
 | [],_,H,Q=>Q [] H
 | (tk,tv)::r,σ,H,Q=>tk σ H λx H1=>tv σ H1 λy H2=>Ji r σ H2 λps H3=>Q ((x,y)::ps) H3
abbrev VV:List (V×V)->List (Value×Value)->Prop:=Paired λp q=>RelV p.1 q.1/\RelV p.2 q.2
def PPs (X:Cx) (pos:Pos) (keys:List (Option Expr)) (values:List Expr) (trs:List (TE×TE)):Prop :=
 ∀(pins:List (Addr×Obj)) (s:Shared) (σ:St) (H:Hp) (Q:List (V×V)->Hp->Prop),Inv X pins σ H s->Ji trs σ H Q ->
  wpAny (model X.prog X.w) X.A (evalPairs (pairTrees keys values X.env pos)) (λvs s'=>∃ps H',Inv X pins σ H' s'/\VV ps vs/\Q ps H') X.xe s
theorem Ss {X:Cx} {pos:Pos}:PPs X pos [] [] []:=λpins s σ H Q I h=>pairTrees_nil_walk ⟨[],H,I,.nil,h⟩
theorem Ez {X:Cx} {pos:Pos} {k v:Expr} {ks:List (Option Expr)} {vs:List Expr} {tk tv:TE} {trs:List (TE×TE)} (hk:PE X k tk) (hv:PE X v tv) (hr:PPs X pos ks vs trs) :
  PPs X pos (some k::ks) (v::vs) ((tk,tv)::trs):=λpins s σ H Q I h =>
 pairTrees_cons_walk (thn (hk pins s σ H _ I h) λu s1 ⟨x,H1,I1,rx,q1⟩=>thn (hv pins s1 σ H1 _ I1 q1) λw2 s2 ⟨y,H2,I2,ry,q2⟩ =>
  thn (hr pins s2 σ H2 _ I2 q2) λws s3 ⟨ps,H3,I3,rel,q3⟩=>⟨(x,y)::ps,H3,I3,.cons ⟨rx,ry⟩ rel,q3⟩)
def vi (kvs more:List (Key×V)):List (Key×V):=more.foldl (λacc kv=>putK acc kv.1 kv.2) kvs
theorem KV.merge:∀{more:List (Key×V)} {rs:List (Key×Value)} {kvs:List (Key×V)} {vs:List (Key×Value)},KV more rs->KV kvs vs->KV (vi kvs more) (merged vs rs):=by
 intro more rs kvs vs r
 unfold KV at r
 induction r generalizing kvs vs with
 | nil=>intro q;exact q
 | @cons p q ps qs h t ih =>
  intro r0
  have e:KV (putK kvs p.1 p.2) (stored vs q.1 q.2):=by
   have:=r0.put p.1 h.2
   rw[<-h.1];exact this
  exact ih e
theorem rq:∀(more kvs:List (Key×V)),(vi kvs more).length<=kvs.length+more.length
 | [],kvs=>by show kvs.length<=kvs.length+0;lia
 | p::r,kvs=>by
  have h1:=rq r (putK kvs p.1 p.2)
  have h2:=qy kvs p.1 p.2
  show(vi (putK kvs p.1 p.2) r).length<=_
  rw[BV];lia
theorem yh {P:Program} {w:World}:∀{kvs:List (Key×V)} {ws:List (Value×Value)},VV (kvs.map λkv=>(kV kv.1,kv.2)) ws->∃rs,Carries (dm P w) ws rs/\KV kvs rs
 | [],_,r=>by rw[DJ]at r;cases r;exact⟨[],True.intro,.nil⟩
 | p::kvs,_,r=>by
  rw[AR]at r
  cases r with
  | @cons a b as bs h t =>
   obtain⟨rs,c,q⟩:=yh (P:=P) (w:=w) t
   obtain⟨b1,b2⟩:=b
   exact⟨(p.1,b2)::rs,⟨G5 h.1,rfl,c⟩,.cons ⟨rfl,h.2⟩ q⟩
def Zn (trs:List (TE×TE)):TE:=λσ H Q=>∀p,H p=none->Ji trs σ (upd H p (.dK [])) λps H2=>H2 p=some (.dK [])/\∃kvs:List (Key×V),ps=kvs.map (λkv=>(kV kv.1,kv.2))/\kvs.length<=15/\Q (.ref p) (upd H2 p (.dK (vi [] kvs)))
theorem Su {X:Cx} {pos:Pos} {keys:List (Option Expr)} {values:List Expr} {trs:List (TE×TE)} (h:PPs X pos keys values trs) (hall:keys.all (·.isSome)=true) (hl:keys.length=values.length) (h0:keys≠[])
  (h15:keys.length<=15):PE X (.Dict keys values pos) (Zn trs):=by
 intro pins s σ H Q I q
 have hn:=I.hok.fresh (AI s.heap.objs.size)
 have I1:=I.laid (a:=s.heap.objs.size) (o:=.dK []) (h':=s.heap.push {cls:=.type "dict",data:=.dict #[]}) (t':=s.toks) (λ_ _ q=>AC _ q) (AI _) (Ey s.heap I.big)
 refine wpAny_Dict_walk (knd:=dm X.prog X.w) hall hl h0 h15 (thn (h pins _ σ _ _ I1 (q _ hn)) λws s2 ⟨ps,H2,I2,rel,e,kvs,ep,lk,q2⟩=>?_)
 subst ep
 obtain⟨rs,c,rk⟩:=yh (P:=X.prog) (w:=X.w) rel
 obtain⟨z,hd,vs0,r0,dd⟩:=So I2.hok e
 cases r0
 refine⟨rs,c,dd,λh' dd' hs=>⟨.ref s.heap.objs.size,_,?_,rfl,q2⟩⟩
 have hz:(vi [] kvs).length<=sizeLine:=by
  have h1:=rq kvs []
  rw[CW]at h1
  rw[Db];lia
 have he:∃q,h'.get? s.heap.objs.size=some q:=let ⟨q,_,_,hq,_⟩:=dd';⟨q,hq⟩
 exact C4 I2 (by rw[e];exact True.intro) hs he (P6 hz hd (rk.merge .nil) dd')
structure M2 (X:Cx) (o:Expr) (m:Str) (apos:Pos) (e f:Expr) (cpos:Pos):Prop where
 base:attributeBase o m X.env (eval o X.env)=eval o X.env
 few:((backTo cpos (starEach [e,f] X.env)).all (λx=>!x.1)&&(backToKw cpos (keywordEach [] X.env)).all (λx=>x.1.isSome)
  && decide (([e,f]:List Expr).length+([]:List Keyword).length+(if([]:List Keyword).isEmpty then 0 else 1)<30))=true
 line:(apos.endLine==cpos.line)=true
 trees:backTo cpos (starEach [e,f] X.env)=[(false,eval e X.env),(false,eval f X.env)]
def IsD (H:Hp) (a:Addr):Prop:=(∃kvs,Rd H a (.dK kvs))\/∃kvs,Rd H a (.dT kvs)
theorem P7 {X:Cx} {pins:List (Addr×Obj)} {σ:St} {H:Hp} {s:Shared} {a:Addr} (I:Inv X pins σ H s) (d:IsD H a) :
  s.TypeIs (.ref a) "dict"/\(∀b,Value.ref a=.ref b->∃ob,s.heap.get? b=some ob/\ob.dict=none)/\(a==sysModules)=false:=by
 rcases d with⟨kvs,e⟩ | ⟨kvs,e⟩
 ·obtain⟨_,hd,vs,_,dd⟩:=Jf I.hok e
  refine⟨dd.typeIs,λb q=>?_,hd⟩
  cases q
  obtain⟨ob,_,_,h1,h2,_⟩:=dd
  exact⟨ob,h1,h2.2.1⟩
 ·obtain⟨_,hd,xs,_,dd⟩:=Jg I.hok e
  refine⟨dd.typeIs,λb q=>?_,hd⟩
  cases q
  obtain⟨ob,_,_,h1,h2,_⟩:=dd
  exact⟨ob,h1,h2.2.1⟩
section
variable {X : Cx} {pins : List (Addr × Obj)} {σ : St} {H : Hp} {s : Shared} {a : Addr} {y d : V} {u r : Value} {o : Option V} {A : Around} {E : Value -> Shared -> Prop}
theorem V8 {Q:Value->Shared->Prop} (hu:A.units+1<cLine) (I:Inv X pins σ H s) (g:Np H a y o) (ry:RelV y u) (rd:RelV d r) (h:∀w' s',Inv X pins σ H s'->RelV (o.getD d) w'->Q w' s') :
  wpAny (model X.prog X.w) A (call (.builtin "dict.get") [.ref a,u,r]) Q E s:=by
 rcases g with⟨kvs,k,e,ey,l⟩ | ⟨kvs,k,b,e,ey,eb,l⟩
 ·subst ey
  obtain⟨z,hd,vs,rel,dd⟩:=Jf I.hok e
  refine call_meetsIn GZ dd.typeIs JK (JB _ _ _) (meets_dict_get_default (dm X.prog X.w) a (G5 ry) hd r) ⟨_,dd.mapOf,h _ _ (I.tok _) ?_⟩
  rw[l]
  exact(rel.val k).getD rd
 ·subst ey
  cases(show u=Value.ref b from ry)
  obtain⟨z,hd,xs,rel,dd⟩:=Jg I.hok e
  refine call_meetsIn GZ dd.typeIs JK (JB _ _ _) (meetsH_dict_get_default (tupleKind (dm X.prog X.w)) a b hd r) ⟨GJ hu,k,xs,Be I.hok eb,dd,h _ _ (I.tok _) ?_⟩
  rw[l]
  exact(rel.val k).getD rd
end
def V9 (td ty tx:TE):TE:=λσ H Q=>td σ H λx H1=>∃a,x=.ref a/\IsD H1 a/\ty σ H1 λy H2=>tx σ H2 λz H3=>∃o,Np H3 a y o/\Q (o.getD z) H3
section
variable {X : Cx} {o e f : Expr} {apos cpos : Pos} {td ty tx : TE}
theorem Nu (hu:X.A.units+1<cLine) (ho:PE X o td) (he:PE X e ty) (hf:PE X f tx) (m:M2 X o "get" apos e f cpos):PE X (.Call (.Attribute o "get" apos) [e,f] [] cpos) (V9 td ty tx):=by
 intro pins s σ H Q I h
 refine wpAny_Call_method m.base m.few m.line JC GZ PySem.F.type_dict_get (thn (ho pins s σ H _ I h) λu s1 ⟨x,H1,I1,rx,a,ex,d,q1⟩=>?_)
 subst ex
 obtain rfl:u=Value.ref a:=rx
 obtain⟨t1,t2,_⟩:=P7 I1 d
 refine⟨t1,t2,?_⟩
 rw[m.trees]
 refine FF rfl (KF (DW (thn (he pins s1 σ H1 _ I1 q1) λiv s2 ⟨y,H2,I2,ry,q2⟩ =>
  DW (thn (hf pins s2 σ H2 _ I2 q2) λfv s3 ⟨z,H3,I3,rz,ov,g,q3⟩=>EO ?_))))
 exact V8 hu I3 g ry rz λw' s4 I4 rw'=>⟨_,H3,I4,rw',q3⟩
end
end L2
namespace Att
open PySem PySem.W PySem.Calls PyProof.Rows
theorem vj {P:Params} {h:Heap}:∀(ns:List Int) (vs:List Value),WellAll P h vs (ns.map WData.int)->IntsAre vs ns:=by
 intro ns
 induction ns with
 | nil =>
  intro vs w
  rw[DJ]at w
  cases w
  exact .nil
 | cons n ns ih =>
  intro vs w
  rw[AR]at w
  cases w with
  | cons a b =>
   cases a
   exact .cons _ _ (ih _ b)
theorem Jj {l:OpenLaw} {n:Nat} (hn:l.most=some n) {P:Params} {h:Heap} {args:List WData} {vals:List Value}
  (hpre:l.row.toRowW.claim.pre args=true) (hwl:WellAll P h vals args) :
  ∃a vs ns,vals=[Value.ref a]/\args=[WData.list (ns.map WData.int)]/\h.get? a=some {cls:=.type "list",data:=.seq vs.toArray}/\IntsAre vs ns/\ns.length<=n:=by
 have hsh:WShape.hasAll [] args [.list .int]=true:=(pre_splitW hpre).1
 have hc:l.pre.holds [] {args:=args}=true:=(pre_splitW hpre).2
 obtain⟨d,r,rfl,h1,h2⟩:=hasAllW_cons hsh
 obtain rfl:=hasAllW_nil h2
 obtain⟨xs,rfl,h3⟩:=hasW_list h1
 obtain⟨ns,rfl⟩:=items_int h3
 have hlen:ns.length<=n:=by
  unfold OpenLaw.pre at hc
  have h4:(WTm.not (.lt (.lit (.int (n:Int))) (.len (.arg 0)))).holds [] {args:=[.list (ns.map .int)]}=true:=by
   have h4:=(holds_andW hc).1
   rw[hn]at h4
   exact h4
  have h5:=condW_of h4 (w_not (w_lt w_lit (w_len_list (w_arg rfl))))
  rw[AD]at h5
  refine Nat.le_of_not_lt λq=>?_
  have q':(n:Int)<((ns.length:Nat):Int):=by lia
  first
   | (rw[decide_eq_true q']at h5;exact absurd h5 (by decide))
   | (simp at h5;lia)
 cases hwl with
 | cons w1 w2 =>
  cases w2
  cases w1 with
  | list ho hall=>exact⟨_,_,ns,rfl,rfl,ho,vj ns _ hall,hlen⟩
theorem Jk (l:OpenLaw) (args:List WData):l.row.toRowW.claim.post args (.bool true) args=true :=
 postW_of (r:=l.row.toRowW) (X:=(true==true))
  (show WShape.has [] (.bool true) .bool=true by first | rfl | decide | simp[WShape.has,WShape.arms,WShape.armsAll])
  (show(WTm.eq .res (.lit (.bool true))).value [] {args:=args,res:=some (.bool true),after:=args}=some (.bool (true==true))from w_eq_bool (w_res rfl) w_lit) rfl
theorem C5 {l:OpenLaw} {n:Nat} {q:Program} {loose:List Str} {XP:(Str->Option Value)->Heap->Prop} {YP:World->Heap->Prop} {d:DefRec}
  (hn:l.most=some n) (hdf:d.params.defaults=[])
  (call:∀(w:World) (s₀ s₁:Shared) (mg mb:Str->Option Value) (fa:Addr) (o:Obj) (pm cd doc:Value) (a:Addr) (vs:List Value) (ns:List Int),
   Ground q loose [] XP w s₀ mg mb s₁.heap->YP w s₁.heap ->
   s₁.heap.get? fa=some o->o.data=.func (docDef d.name d.params d.body d.scope pm cd doc)->s₁.heap.CodeRec cd d.name->mg d.name=some (.ref fa) ->
   s₁.heap.get? a=some {cls:=.type "list",data:=.seq vs.toArray}->IntsAre vs ns->ns.length<=n->s₁.gens=#[] ->
   codeAny (model l.prog w) callerA (.call (.ref fa) ⟨[.ref a],[]⟩) (λr s'=>r=.ok (.ret (.bool true))/\OldK s₁.heap s'.heap/\s'.os=s₁.os/\AllBare s'.gens) s₁) :
  WalkO q loose XP YP l.row.toRowW d [] (λf vs=>PySem.call f vs):=by
 intro w s₀ s₁ mg mb G Y fa o pm cd doc dV kV ho hd hcd hD hmg hg args vals as hpre hlay hrd hwl hlo
 obtain rfl:dV=.none:=Dflts.none hD hdf
 obtain rfl:kV=.none:=Dflts.noKw hD
 obtain⟨a,vs,ns,rfl,rfl,hobj,hints,hlen⟩:=Jj hn hpre hwl
 refine enter_call (GO (call w s₀ s₁ mg mb fa o pm cd doc a vs ns G Y ho (fd_plain hd) hcd hmg hobj hints hlen hg) λr s' hq=>?_)
 obtain⟨rfl,h2,h3,h4⟩:=hq
 exact⟨.inl ⟨.bool true,.bool true,[],rfl,λ_=>rfl,.bool true,Jk l _,λ_=>⟨List.Pairwise.nil,λ_ hm=>(nomatch hm)⟩⟩,h2,h3,h4⟩
end Att
namespace L2
open PySem PySem.Spec PyProof.Rows
def FzL (K:PySem.W.Frag) (H:Hp) (a:Addr) (xs:List V):Prop :=
 (∃o,H a=some (.frz o (.lst xs))) \/
  ∃(its:List Value) (n:Nat),K.lookup a=some {cls:=.type "list",data:=.seq its.toArray n}/\xs.length<=sizeLine/\cz xs its
theorem vals_ints:∀{vs:List Value} {ns:List Int},IntsAre vs ns->cz (ns.map V.int) vs
 | _,_,.nil=>.nil
 | _,_,.cons n t h=>.cons ⟨t,rfl⟩ (vals_ints h)
def Zo (H:Hp):Prop:=∀b,H b=none\/∃o xs,H b=some (.frz o (.lst xs))
theorem Nv {P:Program} {w:World} {K:PySem.W.Frag} {mg mb:Str->Option Value} {CX:CXT} {k:Nat} {fa a:Addr} {fd:FuncData} {x:Str} {sp:Sp} {s₁:Shared} {vs:List Value} {ns:List Int}
  (KX:K.In s₁.heap) (hns:s₁.heap.Ns mainGlobals mg) (hb:s₁.heap.Ns builtinsNs mb) (hbb:∀x:Str,x≠"__name__"->mb x=bootBuiltins x) (hlim:s₁.heap.NoLimit) (hg:s₁.gens=#[])
  (ha:s₁.heap.get? a=some {cls:=.type "list",data:=.seq vs.toArray}) (hi:IntsAre vs ns) (hl:ns.length<=sizeLine) (hr:Room k callerA)
  (F:∀base:Heap,K.In base->base.Ns mainGlobals mg->FnOk P w K mg base CX k fa fd [x] sp) (hbind:∀(s:Shared) (u:Value),BindsTo s fd ⟨[u],[]⟩ [(x,u)])
  (hsp:∀H:Hp,Zo H->FzL K H a (ns.map V.int)->sp [.ref a] H (λv _=>v=.bl true) λ_ _ _=>False)
  (hCX:∀H e s',CX [] H s₁ (λ_ _ _=>False) e s'->False) :
  codeAny (model P w) callerA (.call (.ref fa) ⟨[.ref a],[]⟩) (λr s'=>r=.ok (.ret (.bool true))/\OldK s₁.heap s'.heap/\s'.os=s₁.os/\AllBare s'.gens) s₁:=by
 have rv:=vals_ints hi
 have lenV:=hi.length
 -- from an abstract heap in which nothing but the script may be tracked
 have core:∀H:Hp,Zo H->FzL K H a (ns.map V.int)->HOk P w H s₁.heap->(∀b,H b≠none->b=a)->(H a≠none->K.lookup a=none) ->
   codeAny (model P w) callerA (.call (.ref fa) ⟨[.ref a],[]⟩) (λr s'=>r=.ok (.ret (.bool true))/\OldK s₁.heap s'.heap/\s'.os=s₁.os/\AllBare s'.gens) s₁:=by
  intro H hO hS hok hA hK
  have base_of:∀{b:Addr} {o:Obj},s₁.heap.get? b=some o->H b=none->(M9 s₁.heap H).get? b=some o:=λe n=>Na e n
  have noA:∀{b:Addr} {o:Obj} {es:Array DictEntry} {ep:Nat},s₁.heap.get? b=some o->o.data=.dict es ep->H b=none:=λ{b o es ep} e d=>by
   cases q:H b with
   | none=>rfl
   | some u =>
    have e':b=a:=hA b (by rw[q];simp)
    subst e'
    rw[ha]at e;cases e
    have d':Data.seq vs.toArray _=Data.dict es ep:=d
    cases d'
  have nsK:∀{b:Addr} {m:Str->Option Value},s₁.heap.Ns b m->(M9 s₁.heap H).Ns b m:=λ{b m} ⟨o,es,ep,e,d,r⟩=>⟨o,es,ep,base_of e (noA e d),d,r⟩
  have hKb:K.In (M9 s₁.heap H):=λb o e=>base_of (KX b o e) (by
   cases q:H b with
   | none=>rfl
   | some u =>
    have e':b=a:=hA b (by rw[q];simp)
    subst e'
    rw[hK (by rw[q];simp)]at e;cases e)
  have hM:Mod K mg (M9 s₁.heap H):=⟨hKb,nsK hns,⟨mb,nsK hb,hbb⟩,let ⟨mc,h1,h2⟩:=hlim;⟨mc,nsK h1,h2⟩⟩
  have e0:Env0 P w K mg (M9 s₁.heap H) callerA [] s₁ H:=⟨rfl,hM,λb o e=>Rz e,Nat.le_of_eq (Iq _ _),trivial,λb hb=>absurd (show b∈([]:List Addr)from hb) (by simp),hok,.of_eq hg⟩
  refine GO ((F _ hKb (nsK hns)).run callerA [] s₁ H ⟨[.ref a],[]⟩ [.ref a] [.ref a] _ _ hr e0 (hbind s₁ (.ref a)) (.cons rfl .nil) (hsp H hO hS)) λr s' h=>?_
  cases r with
  | error e=>exact(hCX H e s' h).elim
  | ok fl =>
   cases fl with
   | next=>exact False.elim h
   | brk=>exact False.elim h
   | cont=>exact False.elim h
   | ret u =>
    obtain⟨v,H',os,bare,un,hok',r',q⟩:=h
    have q':v=.bl true:=q
    subst q'
    obtain rfl:u=Value.bool true:=r'
    refine⟨rfl,OldK.of_keep λb o e=>?_,os,bare⟩
    cases q:H b with
    | none=>exact un.keep b o e q (by intro z;exact absurd (show b∈([]:List Addr)from z) (by simp)) (by simp)
    | some u =>
     rcases hO b with z | ⟨ob,xs,z⟩
     ·rw[q]at z;cases z
     ·have z2:=un.frzs b ob _ z
      obtain⟨e1,_⟩:=hok b _ z
      obtain⟨e2,_⟩:=hok' b _ z2
      rw[e]at e1;cases e1
      exact e2
 cases hk:K.lookup a with
 | some o =>
  -- the script is one of the module's own objects
  have e:=KX a o hk
  rw[ha]at e
  cases e
  refine core (λ_=>none) (λ_=>.inl rfl) (.inr ⟨vs,_,hk,by rw[AD];exact hl,rv⟩) (λb u z=>by have z':(none:Option HO)=some u:=z;cases z') (λb z=>absurd rfl z) λz=>absurd rfl z
 | none =>
  refine core (λb=>if b=a then some (.frz {cls:=.type "list",data:=.seq vs.toArray} (.lst (ns.map V.int)))else none) (λb=>?_) (.inl ⟨{cls:=.type "list",data:=.seq vs.toArray},if_pos rfl⟩) (λb u z=>?_) (λb z=>?_) λ_=>hk
  ·by_cases hb:b=a
   ·exact .inr ⟨_,_,if_pos hb⟩
   ·exact .inl (if_neg hb)
  ·by_cases hb:b=a
   ·have z':=(if_pos hb).symm.trans z
    cases z'
    subst hb
    exact⟨ha,by rw[AD];exact hl,vs,_,rv,ha⟩
   ·have z':=(if_neg hb).symm.trans z
    cases z'
  ·by_cases hb:b=a
   ·exact hb
   ·exact absurd (if_neg hb) z
abbrev KOf {K:PySem.W.Frag} {h:Heap} (_:K.In h):PySem.W.Frag:=K
theorem Sv {l:PySem.W.OpenLaw} {n k:Nat} {q:Program} {loose:List Str} {XP:(Str->Option Value)->Heap->Prop} {YP:World->Heap->Prop} {d:DefRec} {K:Params->PySem.W.Frag} {CX:World->CXT} {sp:World->Sp} {x:Str}
  (hn:l.most=some n) (hn2:n<=sizeLine) (hdf:d.params.defaults=[]) (hr:Room k callerA)
  (hY:∀(w:World) (h:Heap),YP w h->(K w.params).In h)
  (F:∀(w:World) (mg:Str->Option Value) (fa:Addr) (h:Heap),(K w.params).In h->h.Ns mainGlobals mg->mg d.name=some (.ref fa) ->
   ∃fd:FuncData,(∀(s:Shared) (u:Value),BindsTo s fd ⟨[u],[]⟩ [(x,u)]) /\
    ∀base:Heap,(K w.params).In base->base.Ns mainGlobals mg->FnOk l.prog w (K w.params) mg base (CX w) k fa fd [x] (sp w))
  (hsp:∀(w:World) (H:Hp) (a:Addr) (ns:List Int),ns.length<=n->Zo H->FzL (K w.params) H a (ns.map V.int)->sp w [.ref a] H (λv _=>v=.bl true) λ_ _ _=>False)
  (hCX:∀(w:World) (H:Hp) (s:Shared) (e:Value) (s':Shared),CX w [] H s (λ_ _ _=>False) e s'->False) :
  PySem.W.WalkO q loose XP YP l.row.toRowW d [] (λf vs=>PySem.call f vs):=by
 refine Att.C5 hn hdf λw s₀ s₁ mg mb fa o pm cd doc a vs ns G Y ho hd hcd hmg hobj hints hlen hg=>?_
 have KX:=hY w _ Y
 obtain⟨fd,hb,hF⟩:=F w mg fa _ KX G.T.g hmg
 exact Nv KX G.T.g G.T.b G.T.builtins G.T.nolimit hg hobj hints (CL hlen hn2) hr hF hb (λH hO hS=>hsp w H a ns hlen hO hS) λH e s'=>hCX w H s₁ e s'
def vk (s:Stmt):Arguments:=match s with
 | .FunctionDef _ a _ _ _ _ _ _ _ _=>a
 | _=>{posonlyargs:=[],args:=[],vararg:=none,kwonlyargs:=[],kw_defaults:=[],kwarg:=none,defaults:=[]}
def nv (s:Stmt):List Stmt:=match s with
 | .FunctionDef _ _ b _ _ _ _ _ _ _=>b
 | _=>[]
def c8 (s:Stmt):Scope:=match s with
 | .FunctionDef _ _ _ _ _ _ sc _ _ _=>sc
 | _=>{kind:=.function,names:=[],isGenerator:=false,isCoroutine:=false}
abbrev CX0:CXT:=λ_ _ _ _ _ _=>False
abbrev E0:XK:=λ_ _ _=>False
theorem Zp {X:Cx}:I0 CX0 X E0:=λ_ _ _ _ _ _ _ h=>h.elim
structure Fun (K:PySem.W.Frag) (x qual:Str) (st:Stmt) (f:Addr) (fd:FuncData):Prop where
 ex:∃(oc:Value) (od:Option Addr) (kV doc pm:Value) (an:Option Addr) (cdv ct:Value) (osl:Array (Option Value)),
  fd=PySem.W.fnOf x qual (vk st) (nv st) (c8 st) .none kV doc pm an cdv ct/\K.lookup f=some ⟨oc,od,.func fd,osl⟩/\PySem.W.codeIn K cdv qual=true
 kp:PySem.W.keepIn K (.ref f)=true
section
variable {P : Program} {w : World} {K : PySem.W.Frag} {mg : Str -> Option Value} {base : Heap}
theorem Fun.ok {x qual:Str} {st:Stmt} {f:Addr} {fd:FuncData} {N ps:List Str} {k:Nat} {sp:Sp} (F:Fun K x qual st f fd) (S:FnScope N ps (c8 st)) (len:∀vs H Q E,sp vs H Q E->vs.length=ps.length)
  (hbody:∀(cdv:Value) (A:Around) (outer:List Env) (s:Shared) (H:Hp) (vs:List V) (Q:VK) (E:XK),Room k (A.deeper (envOfC qual (c8 st) s.heap.objs.size f cdv))->sp vs H Q E ->
   ∃t,PSs (Ni CX0 P w K mg base N qual (c8 st) f cdv A outer s H E).nox (nv st) t/\t {nx:=λ_ H'=>Q .non H',rt:=Q} (start N vs) H):FnOk P w K mg base CX0 (k+1) f fd ps sp:=by
 obtain⟨oc,od,kV,doc,pm,an,cdv,ct,osl,rfl,lk,hcd⟩:=F.ex
 refine Zi lk hcd S len λA outer s H vs Q E hr hsp=>?_
 obtain⟨t,h,q⟩:=hbody cdv A outer s H vs Q E hr hsp
 exact⟨t,h.nox,q⟩
theorem Wa {x qual:Str} {st:Stmt} {f:Addr} {oc:Value} {od an:Option Addr} {osl:Array (Option Value)} {kV doc pm cdv ct:Value} (l:K.lookup f=some ⟨oc,od,.func (PySem.W.fnOf x qual (vk st) (nv st) (c8 st) .none kV doc pm an cdv ct),osl⟩)
  (c:PySem.W.codeIn K cdv qual=true) (k:PySem.W.keepIn K (.ref f)=true):Fun K x qual st f (PySem.W.fnOf x qual (vk st) (nv st) (c8 st) .none kV doc pm an cdv ct):=⟨⟨oc,od,kV,doc,pm,an,cdv,ct,osl,rfl,l,c⟩,k⟩
end
theorem Bf {n:Nat} (h:n<=1000):n<sizeLine:=Nat.lt_of_le_of_lt h (by decide)
section
variable {X : Cx}
theorem pv (i:Nat) {x:Str} {pos:Pos} (hN:X.N[i]? = some x:=by rfl) (hv:Vis X.env.scope x:=by first | exact Or.inl rfl | exact Or.inr (Or.inl rfl) | exact Or.inr (Or.inr rfl)) (hd:(x==("__debug__":Str))=false:=by decide)
  (hcd:(x==("__classdict__":Str))=false:=by decide):PE X (.Name x pos) (aay i):=yd hN hv hd hcd
end
end L2
namespace Lp
open PySem
inductive D where
 | non | bl (b:Bool) | int (i:Int) | str (x:Str)
 | tup (ds:List D) | lst (ds:List D) | loc (n:Nat)
 deriving Inhabited
def D.pureN:Nat->D->Bool
 | 0,d=>match d with | .tup _=>false | .lst _=>false | .loc _=>false | _=>true
 | k+1,d=>match d with | .tup ds=>ds.all (D.pureN k) | .lst ds=>ds.all (D.pureN k) | .loc _=>false | _=>true
abbrev D.pure (d:D):Bool:=D.pureN 8 d
inductive O where
 | l (ds:List D)
 | r (ds:List D)
 | d (kvs:List (D×D))
 | dt (kvs:List (D×D))
 | dead
 deriving Inhabited
abbrev Sto:=List O
abbrev Sl:=List (Option D)
inductive Res (α:Type) where
 | ok (a:α) (μ:Sto)
 | exc (c:Nat) (ds:List D) (μ:Sto)
 | stuck
namespace Res
variable {α β : Type}
def bind (x:Res α) (f:α->Sto->Res β):Res β:=match x with
 | .ok a μ=>f a μ
 | .exc c ds μ=>.exc c ds μ
 | .stuck=>.stuck
@[simp] theorem bg (a:α) (μ:Sto) (f:α->Sto->Res β):(Res.ok a μ).bind f=f a μ:=rfl
@[simp] theorem Yx (c:Nat) (ds:List D) (μ:Sto) (f:α->Sto->Res β):(Res.exc c ds μ:Res α).bind f=.exc c ds μ:=rfl
@[simp] theorem U7 (f:α->Sto->Res β):(Res.stuck:Res α).bind f=.stuck:=rfl
theorem bind_assoc {γ:Type} (x:Res α) (f:α->Sto->Res β) (g:β->Sto->Res γ):(x.bind f).bind g=x.bind λa μ=>(f a μ).bind g:=by
 cases x<;>rfl
end Res
inductive Mk where | z | l | r
 deriving DecidableEq,Inhabited
inductive Bt where
 | len | tuple | list | sum | min | min1 | max | all | any | sorted | sortedSet | sortedL | int | listRev | listRange | tupleRange | dictP
 deriving DecidableEq,Inhabited
inductive Mt where
 | append | pop | extend | extendT | insert | remove | reverse | clear | count | countL | get
 deriving DecidableEq,Inhabited
inductive Cl where
 | int | bool | tuple | list | str | own (c:Nat)
 deriving DecidableEq,Inhabited
inductive Tg where
 | one (i:Nat) | many (is:List Nat)
 deriving DecidableEq,Inhabited
inductive Cp where
 | eq | ne | eqM | neM | lt | le | gt | ge | is | isnot | in_ | notin
 deriving DecidableEq,Inhabited
mutual
inductive Ex where
 | var (i:Nat)
 | frz (i:Nat)
 | cst (d:D)
 | bin (op:Operator) (m:Mk) (a b:Ex)
 | neg (a:Ex)
 | not (a:Ex)
 | and (a b:Ex)
 | or (a b:Ex)
 | ite (c a b:Ex)
 | cmp (a:Ex) (r:Cps)
 | call (keep:Bool) (f:Nat) (es:Exs)
 | blt (b:Bt) (m:Mk) (es:Exs)
 | isi (a:Ex) (c:Cl)
 | meth (mt:Mt) (o:Ex) (es:Exs)
 | ix (a b:Ex)
 | dix (a b:Ex)
 | sl (m:Mk) (a:Ex) (lo hi:ExO)
 | tup (es:Exs)
 | lst (m:Mk) (es:Exs)
 | dic (t:Bool) (es:Exs)
 | inT (neg:Bool) (es:Exs) (d:Ex)
 | comp (m:Mk) (cap:List Nat) (nl:Nat) (tg:Tg) (it:It) (cs:Exs) (elt:Ex)
inductive Exs where
 | nil
 | cons (e:Ex) (es:Exs)
inductive Cps where
 | nil
 | cons (op:Cp) (e:Ex) (r:Cps)
inductive ExO where
 | no
 | so (e:Ex)
inductive It where
 | seq (e:Ex)
 | rng (a:Ex)
 | rng2 (a b:Ex)
 | rng3 (a b c:Ex)
 | zip (a b:Ex)
 | enum (a:Ex)
 | rev (a:Ex)
 | vals (a:Ex)
end
mutual
inductive Sm where
 | set (i:Nat) (e:Ex)
 | unp (is:List Nat) (e:Ex)
 | setx (o i v:Ex)
 | augx (op:Operator) (o i v:Ex)
 | setxT (o:Ex) (i:Exs) (v:Ex)
 | ex (e:Ex)
 | ite (c:Ex) (a b:Sms)
 | loop (tg:Tg) (it:It) (b:Sms)
 | ret (e:Ex)
 | raise (c:Nat) (es:Exs)
 | pass | brk | cont
 | never
inductive Sms where
 | nil
 | cons (s:Sm) (r:Sms)
end
@[irreducible] def lim:Nat:=2 ^ 24
theorem P8:lim=2 ^ 24:=by with_unfolding_all rfl
theorem ny:1000000<=lim:=by rw[P8];decide
def cv (μ:Sto):D->Option (List D)
 | .tup ds=>some ds
 | .lst ds=>some ds
 | .loc n=>match μ[n]? with
  | some (.l ds)=>some ds
  | some (.r ds)=>some ds
  | _=>none
 | _=>none
def listOf (μ:Sto):D->Option (List D)
 | .lst ds=>some ds
 | .loc n=>match μ[n]? with
  | some (.l ds)=>some ds
  | some (.r ds)=>some ds
  | _=>none
 | _=>none
def qm {α β:Type} (o:Option α) (k:α->Res β):Res β:=match o with
 | some a=>k a
 | none=>.stuck
@[simp] theorem qz {α β:Type} (a:α) (k:α->Res β):qm (some a) k=k a:=rfl
@[simp] theorem Sw {α β:Type} (k:α->Res β):qm none k=.stuck:=rfl
def mkL (m:Mk) (ds:List D) (μ:Sto):Res D:=match m with
 | .z=>.ok (.lst ds) μ
 | .l=>if ds.all (D.pureN 8)=true then .ok (.loc μ.length) (μ++[.l ds])else .stuck
 | .r=>.ok (.loc μ.length) (μ++[.r ds])
mutual
def deq:D->D->Bool
 | .non,.non=>true
 | .bl a,.bl b=>a==b
 | .int a,.int b=>decide (a=b)
 | .bl a,.int b=>decide ((if a then 1 else 0:Int)=b)
 | .int a,.bl b=>decide (a=(if b then 1 else 0:Int))
 | .str a,.str b=>decide (a=b)
 | .tup a,.tup b=>G6 a b
 | .lst a,.lst b=>G6 a b
 | _,_=>false
def G6:List D->List D->Bool
 | [],[]=>true
 | a::r,b::q=>deq a b&&G6 r q
 | _,_=>false
end
def rs1 (μ:Sto):Nat->D->D
 | 0,d=>d
 | _,.loc n=>match μ[n]? with
  | some (.l ds)=>.lst ds
  | some (.r ds)=>.lst ds
  | _=>.loc n
 | k+1,.tup ds=>.tup (ds.map (rs1 μ k))
 | k+1,.lst ds=>.lst (ds.map (rs1 μ k))
 | _,d=>d
def rs (μ:Sto) (d:D):D:=rs1 μ 8 (rs1 μ 8 (rs1 μ 8 d))
def gb:List D->Option (List Int)
 | []=>some []
 | .int i::r=>(gb r).map (i::·)
 | _=>none
def qo:List D->Option (List Bool)
 | []=>some []
 | .bl i::r=>(qo r).map (i::·)
 | _=>none
def lexLt:List Int->List Int->Bool
 | _,[]=>false
 | [],_::_=>true
 | x::xs,y::ys=>if x=y then lexLt xs ys else decide (x<y)
def rowsOf:List D->Option (List (List Int))
 | []=>some []
 | .tup ds::r=>(gb ds).bind λx=>(rowsOf r).map (x::·)
 | _=>none
def ixN (n:Nat) (i:Int):Option Nat:=if 0<=i then(if i<n then some i.toNat else none)else if -(n:Int)<=i then some (i+n).toNat else none
def sIx (n d:Nat):Option Int->Nat
 | none=>d
 | some v=>if v<0 then(v+(n:Int)).toNat else min v.toNat n
def cut (ds:List D) (lo hi:Option Int):List D:=(ds.drop (sIx ds.length 0 lo)).take (sIx ds.length ds.length hi-sIx ds.length 0 lo)
def CMul (i j:Int):Prop:=(-(2 ^ 64)<i/\i<2 ^ 64)\/(-(2 ^ 64)<j/\j<2 ^ 64)
instance (i j:Int):Decidable (CMul i j):=by unfold CMul;infer_instance
def opI (op:Operator) (i j:Int) (μ:Sto):Res D:=match op with
 | .Add=>.ok (.int (i+j)) μ
 | .Sub=>.ok (.int (i-j)) μ
 | .Mult=>if CMul i j then .ok (.int (i*j)) μ else .stuck
 | .FloorDiv=>if 0<j/\j<1073741824 then .ok (.int (i / j)) μ else .stuck
 | .Mod=>if 0<j then .ok (.int (i % j)) μ else .stuck
 | .Pow=>if 0<=j/\j<=1000000/\i.natAbs<2 ^ 64 then .ok (.int (i ^ j.toNat)) μ else .stuck
 | .RShift=>if 0<=j then .ok (.int (i / 2 ^ j.toNat)) μ else .stuck
 | _=>.stuck
def opD (op:Operator) (m:Mk) (a b:D) (μ:Sto):Res D:=match a,b with
 | .int i,.int j=>opI op i j μ
 | .tup xs,.tup ys=>match op with
  | .Add=>if xs.length+ys.length<=lim then .ok (.tup (xs++ys)) μ else .stuck
  | _=>.stuck
 | x,.int j=>match op,listOf μ x with
  | .Mult,some xs=>if xs.length*j.toNat<=lim /\ -(2 ^ 63)<=j/\j<2 ^ 63 then mkL m (List.replicate j.toNat xs).flatten μ else .stuck
  | _,_=>.stuck
 | x,y=>match op,listOf μ x,listOf μ y with
  | .Add,some xs,some ys=>if xs.length+ys.length<=lim then mkL m (xs++ys) μ else .stuck
  | _,_,_=>.stuck
def flat:D->Bool
 | .tup _=>false
 | .lst _=>false
 | .loc _=>false
 | _=>true
def du (μ:Sto) (x:D):Option (List D×Option (Nat×O)):=match x with
 | .tup ds=>some (ds,none)
 | .lst ds=>some (ds,none)
 | .loc n=>match μ[n]? with
  | some (.l ds)=>some (ds,some (n,.l ds))
  | some (.r ds)=>some (ds,some (n,.r ds))
  | _=>none
 | _=>none
def M7:D->Bool
 | .int _=>true
 | .str _=>true
 | _=>false
def aco:D->Bool
 | .tup ds=>ds.all M7
 | _=>false
def Jl (k:D):List (D×D)->Option D
 | []=>none
 | (x,v)::r=>if deq x k then some v else Jl k r
def dput (k v:D) (kvs:List (D×D)):List (D×D) :=
 if(kvs.any λp=>deq p.1 k)=true then kvs.map (λp=>if deq p.1 k=true then(p.1,v)else p)else kvs++[(k,v)]
def dictAt (μ:Sto) (o k:D):Option (List (D×D)):=match o with
 | .loc n=>match μ[n]? with
  | some (.d kvs)=>if M7 k=true then some kvs else none
  | _=>none
 | _=>none
def Sx (μ:Sto) (o:D) (ks:List D):Option (List (D×D)):=match o with
 | .loc n=>match μ[n]? with
  | some (.dt kvs)=>if ks.all M7=true then some kvs else none
  | _=>none
 | _=>none
def cj:List (Option D)->Option (List D)
 | []=>some []
 | none::_=>none
 | some d::r=>match cj r with
  | some ds=>some (d::ds)
  | none=>none
def bx (μ:Sto):Nat->D->Option D
 | 0,d=>if flat d=true then some d else none
 | k+1,d=>match d with
  | .tup ds=>(cj (ds.map (bx μ k))).map .tup
  | .lst ds=>(cj (ds.map (bx μ k))).map .lst
  | .loc n=>match μ[n]? with
   | some (.l ds)=>(cj (ds.map (bx μ k))).map .lst
   | some (.r ds)=>(cj (ds.map (bx μ k))).map .lst
   | _=>none
  | d=>some d
def cpD (op:Cp) (a b:D) (μ:Sto):Res D:=match op with
 | .eq=>if a.pure=true/\b.pure=true then .ok (.bl (deq a b)) μ else .stuck
 | .ne=>if a.pure=true/\b.pure=true then .ok (.bl (!deq a b)) μ else .stuck
 | .eqM=>match bx μ 8 a,bx μ 8 b with
  | some x,some y=>.ok (.bl (deq x y)) μ
  | _,_=>.stuck
 | .neM=>match bx μ 8 a,bx μ 8 b with
  | some x,some y=>.ok (.bl (!deq x y)) μ
  | _,_=>.stuck
 | .lt=>match a,b with
  | .int i,.int j=>.ok (.bl (decide (i<j))) μ
  | .tup x,.tup y=>match gb x,gb y with
   | some xs,some ys=>.ok (.bl (lexLt xs ys)) μ
   | _,_=>.stuck
  | _,_=>.stuck
 | .le=>match a,b with
  | .int i,.int j=>.ok (.bl (decide (i<=j))) μ
  | .tup x,.tup y=>match gb x,gb y with
   | some xs,some ys=>.ok (.bl (!lexLt ys xs)) μ
   | _,_=>.stuck
  | _,_=>.stuck
 | .gt=>match a,b with
  | .int i,.int j=>.ok (.bl (decide (j<i))) μ
  | _,_=>.stuck
 | .ge=>match a,b with
  | .int i,.int j=>.ok (.bl (decide (j<=i))) μ
  | .tup x,.tup y=>match gb x,gb y with
   | some xs,some ys=>.ok (.bl (!lexLt xs ys)) μ
   | _,_=>.stuck
  | _,_=>.stuck
 | .is=>match b with
  | .non=>.ok (.bl (match a with | .non=>true | _=>false)) μ
  | .bl k=>match a with
   | .bl j=>.ok (.bl (j==k)) μ
   | .non=>.ok (.bl false) μ
   | _=>.stuck
  | _=>.stuck
 | .isnot=>match b with
  | .non=>.ok (.bl (match a with | .non=>false | _=>true)) μ
  | .bl k=>match a with
   | .bl j=>.ok (.bl (!(j==k))) μ
   | .non=>.ok (.bl true) μ
   | _=>.stuck
  | _=>.stuck
 | .in_=>match cv μ b with
  | some ds=>if flat a=true/\ds.all flat=true then .ok (.bl (ds.any λy=>deq y a)) μ else .stuck
  | none=>match dictAt μ b a with
   | some kvs=>.ok (.bl (Jl a kvs).isSome) μ
   | none=>.stuck
 | .notin=>match cv μ b with
  | some ds=>if flat a=true/\ds.all flat=true then .ok (.bl (!ds.any λy=>deq y a)) μ else .stuck
  | none=>match dictAt μ b a with
   | some kvs=>.ok (.bl (!(Jl a kvs).isSome)) μ
   | none=>.stuck
def insI (x:Int):List Int->List Int
 | []=>[x]
 | y::r=>if x<=y then x::y::r else y::insI x r
def sortI:List Int->List Int
 | []=>[]
 | x::r=>insI x (sortI r)
def Sy (x:List Int):List (List Int)->List (List Int)
 | []=>[x]
 | y::r=>if lexLt y x=true then y::Sy x r else x::y::r
def o4:List (List Int)->List (List Int)
 | []=>[]
 | x::r=>Sy x (o4 r)
def Jm:Int->List Int->Int
 | x,[]=>x
 | x,y::r=>Jm (if y<x then y else x) r
def vm (f:D->Sto->Res D) (ds:List D) (μ:Sto):Res D:=match ds with
 | [x]=>f x μ
 | _=>.stuck
@[simp] theorem ff (f:D->Sto->Res D) (x:D) (μ:Sto):vm f [x] μ=f x μ:=rfl
def seq1 (f:List D->Sto->Res D) (x:D) (μ:Sto):Res D:=match cv μ x with
 | some xs=>f xs μ
 | none=>.stuck
def Nw (f:List Int->Sto->Res D) (x:D) (μ:Sto):Res D:=match(cv μ x).bind gb with
 | some ns=>f ns μ
 | none=>.stuck
def G7 (f:List Bool->Sto->Res D) (x:D) (μ:Sto):Res D:=match(cv μ x).bind qo with
 | some ns=>f ns μ
 | none=>.stuck
def zj (m:Mk) (x:D) (μ:Sto):Res D:=match listOf μ x with
 | some xs=>mkL m xs.reverse μ
 | none=>.stuck
def minD (ds:List D) (μ:Sto):Res D:=match ds with
 | [.int i,.int j]=>.ok (.int (if j<i then j else i)) μ
 | _=>.stuck
def maxD (ds:List D) (μ:Sto):Res D:=match ds with
 | [.int i,.int j]=>.ok (.int (if j > i then j else i)) μ
 | _=>.stuck
def zk (m:Mk) (xs:List D) (μ:Sto):Res D:=match rowsOf xs with
 | some rs=>if rs.all (λr=>!r.isEmpty)=true then mkL m ((o4 rs).map λr=>.tup (r.map .int)) μ else .stuck
 | none=>.stuck
def zl (ns:List Int):List Int:=ns.foldl (λσ k=>if σ.any (·==k)then σ else σ++[k]) []
def Jn (m:Mk):D->Sto->Res D:=Nw λns μ=>if ns.length<64 then mkL m ((sortI (zl ns)).map .int) μ else .stuck
def E1 (m:Mk) (x:D) (μ:Sto):Res D:=match listOf μ x with
 | some xs=>if xs.length<64 then zk m xs μ else .stuck
 | none=>.stuck
def rf:List D->Sto->Option (List (List Int)×Sto)
 | [],μ=>some ([],μ)
 | .loc n::r,μ=>match μ[n]? with
  | some (.l ds)=>match gb ds,rf r (μ.set n .dead)with
   | some x,some p=>some (x::p.1,p.2)
   | _,_=>none
  | _=>none
 | _,_=>none
def C6 (m:Mk) (x:D) (μ:Sto):Res D:=match listOf μ x with
 | some xs=>if xs.length<64 then(match rf xs μ with
  | some p=>mkL m ((o4 p.1).map λr=>.lst (r.map .int)) p.2
  | none=>.stuck)else .stuck
 | none=>.stuck
def Wb:D->Sto->Res D:=Nw λns μ=>match ns with
 | n::r=>.ok (.int (Jm n r)) μ
 | []=>.stuck
def Wc (x:D) (μ:Sto):Res D:=match x with
 | .bl b=>.ok (.int (if b then 1 else 0)) μ
 | .int i=>.ok (.int i) μ
 | _=>.stuck
def P9 (f:List D->Sto->Res D) (x:D) (μ:Sto):Res D:=match x with
 | .int j=>if -(lim:Int)<=j/\j<=lim then f ((List.range j.toNat).map fun(i:Nat)=>D.int i) μ else .stuck
 | _=>.stuck
def Qa:List D->Option (List (D×D))
 | []=>some []
 | .tup [k,v]::r=>if M7 k=true/\v.pure=true then(Qa r).map ((k,v)::·)else none
 | _=>none
def Wd (x:D) (μ:Sto):Res D:=match(listOf μ x).bind Qa with
 | some ps=>if ps.length<1000 then .ok (.loc μ.length) (μ++[.d (ps.foldl (λm p=>dput p.1 p.2 m) [])])else .stuck
 | none=>.stuck
def btD (b:Bt) (m:Mk) (ds:List D) (μ:Sto):Res D:=match b with
 | .len=>vm (seq1 λxs μ=>.ok (.int xs.length) μ) ds μ
 | .tuple=>vm (seq1 λxs μ=>.ok (.tup xs) μ) ds μ
 | .list=>vm (seq1 λxs μ=>mkL m xs μ) ds μ
 | .listRev=>vm (zj m) ds μ
 | .sum=>vm (Nw λns μ=>.ok (.int ns.sum) μ) ds μ
 | .min=>minD ds μ
 | .max=>maxD ds μ
 | .all=>vm (G7 λbs μ=>.ok (.bl (bs.all id)) μ) ds μ
 | .any=>vm (G7 λbs μ=>.ok (.bl (bs.any id)) μ) ds μ
 | .sorted=>vm (E1 m) ds μ
 | .min1=>vm Wb ds μ
 | .sortedSet=>vm (Jn m) ds μ
 | .sortedL=>vm (C6 m) ds μ
 | .int=>vm Wc ds μ
 | .listRange=>vm (P9 λxs μ=>mkL m xs μ) ds μ
 | .tupleRange=>vm (P9 λxs μ=>.ok (.tup xs) μ) ds μ
 | .dictP=>vm Wd ds μ
def Qb (c:Cl) (d:D) (μ:Sto):Res D:=match d,c with
 | .int _,.int=>.ok (.bl true) μ
 | .bl _,.int=>.ok (.bl true) μ
 | .bl _,.bool=>.ok (.bl true) μ
 | .tup _,.tuple=>.ok (.bl true) μ
 | .lst _,.list=>.ok (.bl true) μ
 | .str _,.str=>.ok (.bl true) μ
 | .loc n,.list=>match μ[n]? with
  | some (.l _)=>.ok (.bl true) μ
  | some (.r _)=>.ok (.bl true) μ
  | _=>.stuck
 | .loc _,_=>.stuck
 | _,.own _=>.stuck
 | _,_=>.ok (.bl false) μ
def putL (n:Nat) (o:O) (ds:List D) (d:D) (μ:Sto):Res D:=match o with
 | .l _=>.ok d (μ.set n (.l ds))
 | .r _=>.ok d (μ.set n (.r ds))
 | _=>.stuck
def fits (o:O) (d:D):Bool:=match o with
 | .l _=>d.pure
 | .r _=>true
 | _=>false
def gj:O->Option (List D)
 | .l ds=>some ds
 | .r ds=>some ds
 | _=>none
def mtL (mt:Mt) (n:Nat) (ob:O) (xs:List D) (ds:List D) (μ:Sto):Res D:=match mt with
 | .append=>vm (λd μ=>if fits ob d=true/\xs.length<lim then putL n ob (xs++[d]) .non μ else .stuck) ds μ
 | .pop=>match ds with
  | []=>match xs.getLast? with
   | some d=>putL n ob xs.dropLast d μ
   | none=>.stuck
  | [.int i]=>if 0<=i/\i<lim then(match xs[i.toNat]? with
   | some d=>putL n ob (xs.eraseIdx i.toNat) d μ
   | none=>.stuck)else .stuck
  | _=>.stuck
 | .extend=>vm (λy μ=>match listOf μ y with
  | some ys=>if ys.all (fits ob)=true/\xs.length+ys.length<=lim then putL n ob (xs++ys) .non μ else .stuck
  | none=>.stuck) ds μ
 | .extendT=>vm (λy μ=>match y with
  | .tup ys=>if ys.all (fits ob)=true/\xs.length+ys.length<=lim then putL n ob (xs++ys) .non μ else .stuck
  | _=>.stuck) ds μ
 | .insert=>match ds with
  | [.int i,d]=>if 0<=i/\i<=(xs.length:Int)/\fits ob d=true/\xs.length<lim then putL n ob (xs.take i.toNat++d::xs.drop i.toNat) .non μ else .stuck
  | _=>.stuck
 | .remove=>vm (λd μ=>match cj (xs.map (bx μ 8)),bx μ 8 d with
  | some es,some e=>match es.findIdx? (λx=>deq x e)with
   | some j=>putL n ob (xs.eraseIdx j) .non μ
   | none=>.stuck
  | _,_=>.stuck) ds μ
 | .reverse=>match ds with
  | []=>putL n ob xs.reverse .non μ
  | _=>.stuck
 | .clear=>match ds with
  | []=>putL n ob [] .non μ
  | _=>.stuck
 | _=>.stuck
def aa6 (xs ds:List D) (μ:Sto):Res D:=vm (λx μ=>if flat x=true/\xs.all flat=true then .ok (.int (xs.countP λy=>deq y x)) μ else .stuck) ds μ
def acp (o:D) (ds:List D) (μ:Sto):Res D:=match o with
 | .tup xs=>aa6 xs ds μ
 | _=>.stuck
def acq (o:D) (ds:List D) (μ:Sto):Res D:=match listOf μ o with
 | some xs=>aa6 xs ds μ
 | none=>.stuck
def jb (mt:Mt) (x:D) (μ:Sto):Bool:=match mt with
 | .get=>match x with
  | .loc n=>match μ[n]? with
   | some (.d _)=>true
   | _=>false
  | _=>false
 | .count=>match x with
  | .tup _=>true
  | _=>false
 | _=>(listOf μ x).isSome
def Sz (o:D) (ds:List D) (μ:Sto):Res D:=match ds with
 | [k,x]=>match dictAt μ o k with
  | some kvs=>.ok ((Jl k kvs).getD x) μ
  | none=>.stuck
 | _=>.stuck
def tq (mt:Mt) (o:D) (ds:List D) (μ:Sto):Res D:=match o with
 | .loc n=>match μ[n]? with
  | none=>.stuck
  | some ob=>match gj ob with
   | none=>.stuck
   | some xs=>mtL mt n ob xs ds μ
 | _=>.stuck
def mtD (mt:Mt) (o:D) (ds:List D) (μ:Sto):Res D:=match mt with
 | .count=>acp o ds μ
 | .countL=>acq o ds μ
 | .get=>Sz o ds μ
 | mt=>tq mt o ds μ
def Zq (a:D) (ks:List D) (v:D) (μ:Sto):Res Unit:=match a with
 | .loc n=>match μ[n]? with
  | some (.dt kvs)=>if ks.all M7=true/\v.pure=true/\kvs.length<lim then .ok () (μ.set n (.dt (dput (.tup ks) v kvs)))else .stuck
  | _=>.stuck
 | _=>.stuck
def acr (neg:Bool) (ks:List D) (a:D) (μ:Sto):Res D:=match Sx μ a ks with
 | some kvs=>.ok (.bl (neg ^^ (Jl (.tup ks) kvs).isSome)) μ
 | none=>.stuck
def ixD (a b:D) (μ:Sto):Res D:=match b with
 | .int i=>match cv μ a with
  | some xs=>match ixN xs.length i with
   | some j=>match xs[j]? with
    | some d=>.ok d μ
    | none=>.stuck
   | none=>.stuck
  | none=>.stuck
 | _=>.stuck
def ixL (a b:D) (μ:Sto):Res D:=match a with
 | .loc n=>ixD (.loc n) b μ
 | _=>.stuck
def Zr (a b:D) (μ:Sto):Res D:=match dictAt μ a b with
 | some kvs=>match Jl b kvs with
  | some v=>.ok v μ
  | none=>.stuck
 | none=>.stuck
def aa7 (op:Operator) (a b:D) (μ:Sto):Res D:=match a,b with
 | .int i,.int j=>match op with
  | .Add=>.ok (.int (i+j)) μ
  | .Sub=>.ok (.int (i-j)) μ
  | _=>.stuck
 | _,_=>.stuck
def slD (m:Mk) (a:D) (lo hi:Option Int) (μ:Sto):Res D:=match a with
 | .tup xs=>.ok (.tup (cut xs lo hi)) μ
 | x=>match listOf μ x with
  | some xs=>mkL m (cut xs lo hi) μ
  | none=>.stuck
def ur (a b v:D) (μ:Sto):Res Unit:=match a with
 | .loc n=>match μ[n]? with
  | none=>.stuck
  | some (.d kvs)=>if M7 b=true/\v.pure=true/\kvs.length<lim then .ok () (μ.set n (.d (dput b v kvs)))else .stuck
  | some ob=>match gj ob,b with
   | some xs,.int i=>match ixN xs.length i with
    | some j=>if fits ob v=true then(putL n ob (xs.set j v) .non μ).bind λ_ μ=>.ok () μ else .stuck
    | none=>.stuck
   | _,_=>.stuck
 | _=>.stuck
def gf (tg:Tg) (d:D) (σ:Sl):Option Sl:=match tg with
 | .one i=>some (σ.set i (some d))
 | .many is=>match d with
  | .tup ds=>if ds.length=is.length then some ((is.zip ds).foldl (λs p=>s.set p.1 (some p.2)) σ)else none
  | _=>none
abbrev Gd:=Option (Nat×O)
def gd (g:Gd) (μ:Sto):Prop:=match g with
 | none=>True
 | some (n,o)=>μ[n]? = some o
@[simp] theorem tu (μ:Sto):gd none μ=True:=rfl
open Classical in
def mapR (g:Gd) (f:D->Sto->Res (List D)):List D->Sto->Res (List D)
 | [],μ=>if gd g μ then .ok [] μ else .stuck
 | d::ds,μ=>if gd g μ then(f d μ).bind λxs μ1=>(mapR g f ds μ1).bind λys μ2=>.ok (xs++ys) μ2 else .stuck
inductive Fl where
 | nx (σ:Sl) | rt (d:D) | bk (σ:Sl) | ct (σ:Sl)
open Classical in
def kg (g:Gd) (f:D->Sl->Sto->Res Fl):List D->Sl->Sto->Res Fl
 | [],σ,μ=>if gd g μ then .ok (.nx σ) μ else .stuck
 | d::ds,σ,μ=>if gd g μ then(f d σ μ).bind λfl μ1=>match fl with
  | .nx σ1=>kg g f ds σ1 μ1
  | .ct σ1=>kg g f ds σ1 μ1
  | .bk σ1=>.ok (.nx σ1) μ1
  | .rt v=>.ok (.rt v) μ1 else .stuck
def Qc (t:Bool) (ds:List D) (μ:Sto):Res D:=match ds with
 | []=>.ok (.loc μ.length) (μ++[if t then .dt []else .d []])
 | [.int a,x]=>if t=false/\x.pure=true then .ok (.loc μ.length) (μ++[.d [(.int a,x)]])else .stuck
 | [.int a,x,.int b,y]=>if t=false/\x.pure=true/\y.pure=true then .ok (.loc μ.length) (μ++[.d (dput (.int b) y [(.int a,x)])])else .stuck
 | _=>.stuck
abbrev Phi:=Nat->List D->Sto->Res D
def D.belowN (b:Nat):Nat->D->Bool
 | 0,d=>match d with | .tup _=>false | .lst _=>false | .loc n=>decide (n<b) | _=>true
 | k+1,d=>match d with | .tup ds=>ds.all (D.belowN b k) | .lst ds=>ds.all (D.belowN b k) | .loc n=>decide (n<b) | _=>true
def gc (b:Nat):O->Bool
 | .r ds=>ds.all (D.belowN b 8)
 | _=>true
def noR:O->Bool
 | .r _=>false
 | _=>true
def uu (keep:Bool) (base:Nat) (r:Res D):Res D:=match r with
 | .ok d μ'=>if keep=true then .ok d μ' else if D.belowN base 8 d=true/\(μ'.take base).all (gc base)=true then .ok d (μ'.take base)else .stuck
 | x=>x
def aa8 (d:D) (μ:Sto):Res Bool:=match d with
 | .bl b=>.ok b μ
 | _=>.stuck
section
variable (φ : Phi)
mutual
def evE:Ex->Sl->Sto->Res D
 | .var i,σ,μ=>match σ[i]? with
  | some (some d)=>.ok d μ
  | _=>.stuck
 | .frz i,σ,μ=>match σ[i]? with
  | some (some (.loc n))=>match μ[n]? with
   | some (.l ds)=>.ok (.lst ds) (μ.set n .dead)
   | some (.r ds)=>.ok (.lst ds) (μ.set n .dead)
   | _=>.stuck
  | _=>.stuck
 | .cst d,_,μ=>.ok d μ
 | .bin op m a b,σ,μ=>(evE a σ μ).bind λx μ=>(evE b σ μ).bind λy μ=>opD op m x y μ
 | .neg a,σ,μ=>(evE a σ μ).bind λx μ=>match x with
  | .int i=>.ok (.int (-i)) μ
  | _=>.stuck
 | .not a,σ,μ=>(evE a σ μ).bind λx μ=>match x with
  | .bl b=>.ok (.bl (!b)) μ
  | _=>.stuck
 | .and a b,σ,μ=>(evE a σ μ).bind λx μ=>match x with
  | .bl c=>if c=true then evE b σ μ else .ok (.bl false) μ
  | _=>.stuck
 | .or a b,σ,μ=>(evE a σ μ).bind λx μ=>match x with
  | .bl c=>if c=true then .ok (.bl true) μ else evE b σ μ
  | _=>.stuck
 | .ite c a b,σ,μ=>(evE c σ μ).bind λx μ=>match x with
  | .bl c=>if c=true then evE a σ μ else evE b σ μ
  | _=>.stuck
 | .cmp a r,σ,μ=>(evE a σ μ).bind λx μ=>evC r x σ μ
 | .call keep f es,σ,μ=>(jh es σ μ).bind λds μ=>uu keep μ.length (φ f ds μ)
 | .blt b m es,σ,μ=>(jh es σ μ).bind λds μ=>btD b m ds μ
 | .isi a c,σ,μ=>(evE a σ μ).bind λx μ=>Qb c x μ
 | .meth mt o es,σ,μ=>(evE o σ μ).bind λx μ=>if jb mt x μ=true then(jh es σ μ).bind λds μ=>mtD mt x ds μ else .stuck
 | .ix a b,σ,μ=>(evE a σ μ).bind λx μ=>(evE b σ μ).bind λy μ=>ixD x y μ
 | .dix a b,σ,μ=>(evE a σ μ).bind λx μ=>(evE b σ μ).bind λy μ=>Zr x y μ
 | .sl m a lo hi,σ,μ=>(evE a σ μ).bind λx μ=>(evO lo σ μ).bind λl μ=>(evO hi σ μ).bind λh μ=>slD m x l h μ
 | .tup es,σ,μ=>(jh es σ μ).bind λds μ=>.ok (.tup ds) μ
 | .lst m es,σ,μ=>(jh es σ μ).bind λds μ=>mkL m ds μ
 | .dic t es,σ,μ=>(jh es σ μ).bind λds μ=>Qc t ds μ
 | .inT neg es d,σ,μ=>(jh es σ μ).bind λds μ=>(evE d σ μ).bind λx μ=>acr neg ds x μ
 | .comp m cap nl tg it cs elt,σ,μ=>(evI it σ μ).bind λds μ =>
   (mapR ds.2 (λd μ=>qm (gf tg d (cap.map (λi=>(σ[i]?).getD none)++List.replicate nl none)) λσ' =>
    (G8 cs σ' μ).bind λb μ=>if b=true then(evE elt σ' μ).bind λx μ=>.ok [x] μ else .ok [] μ) ds.1 μ).bind λxs μ=>mkL m xs μ
def jh:Exs->Sl->Sto->Res (List D)
 | .nil,_,μ=>.ok [] μ
 | .cons e es,σ,μ=>(evE e σ μ).bind λd μ=>(jh es σ μ).bind λds μ=>.ok (d::ds) μ
def evC:Cps->D->Sl->Sto->Res D
 | .nil,_,_,_=>.stuck
 | .cons op e r,x,σ,μ=>(evE e σ μ).bind λy μ=>(cpD op x y μ).bind λz μ=>match r with
  | .nil=>.ok z μ
  | r=>match z with
   | .bl b=>if b=true then evC r y σ μ else .ok (.bl false) μ
   | _=>.stuck
def evO:ExO->Sl->Sto->Res (Option Int)
 | .no,_,μ=>.ok none μ
 | .so e,σ,μ=>(evE e σ μ).bind λx μ=>match x with
  | .int i=>.ok (some i) μ
  | _=>.stuck
def G8:Exs->Sl->Sto->Res Bool
 | .nil,_,μ=>.ok true μ
 | .cons e es,σ,μ=>(evE e σ μ).bind λx μ=>match x with
  | .bl b=>if b=true then G8 es σ μ else .ok false μ
  | _=>.stuck
def evI:It->Sl->Sto->Res (List D×Gd)
 | .seq e,σ,μ=>(evE e σ μ).bind λx μ=>match du μ x with
  | some w=>.ok w μ
  | none=>.stuck
 | .rng a,σ,μ=>(evE a σ μ).bind λx μ=>match x with
  | .int j=>if -(lim:Int)<=j/\j<=lim then .ok ((List.range j.toNat).map fun(i:Nat)=>D.int i,none) μ else .stuck
  | _=>.stuck
 | .rng2 a b,σ,μ=>(evE a σ μ).bind λx μ=>(evE b σ μ).bind λy μ=>match x,y with
  | .int i,.int j=>if -(lim:Int)<=i/\i<=lim/\j<=lim /\ -(lim:Int)<=j/\(j-i)<=lim then .ok ((List.range (j-i).toNat).map fun(k:Nat)=>D.int (i+k),none) μ else .stuck
  | _,_=>.stuck
 | .rng3 a b c,σ,μ=>(evE a σ μ).bind λx μ=>(evE b σ μ).bind λy μ=>(evE c σ μ).bind λz μ=>match x,y,z with
  | .int i,.int j,.int k=>if 0<=i/\i<=lim/\j<=lim/\0<=j/\1<=k/\k<=1000 then .ok ((List.range (if i<j then((j-i-1) / k+1).toNat else 0)).map fun(n:Nat)=>D.int (i+n*k),none) μ else .stuck
  | _,_,_=>.stuck
 | .zip a b,σ,μ=>(evE a σ μ).bind λx μ=>(evE b σ μ).bind λy μ=>match du μ x,cv [] y with
  | some w,some ys=>.ok ((w.1.zip ys).map λp=>.tup [p.1,p.2],w.2) μ
  | _,_=>.stuck
 | .enum a,σ,μ=>(evE a σ μ).bind λx μ=>match du μ x with
  | some w=>.ok ((List.range w.1.length |>.zip w.1).map fun(p:Nat×D)=>.tup [.int p.1,p.2],w.2) μ
  | none=>.stuck
 | .rev _,_,_=>.stuck
 | .vals a,σ,μ=>(evE a σ μ).bind λx μ=>match x with
  | .loc n=>match μ[n]? with
   | some (.d kvs)=>.ok (kvs.map (·.2),none) (μ.set n .dead)
   | _=>.stuck
  | _=>.stuck
end
mutual
def evS:Sm->Sl->Sto->Res Fl
 | .set i e,σ,μ=>(evE φ e σ μ).bind λd μ=>.ok (.nx (σ.set i (some d))) μ
 | .unp is e,σ,μ=>(evE φ e σ μ).bind λd μ=>match gf (.many is) d σ with
  | some σ'=>.ok (.nx σ') μ
  | none=>.stuck
 | .setx o i v,σ,μ=>(evE φ v σ μ).bind λd μ=>(evE φ o σ μ).bind λx μ=>(evE φ i σ μ).bind λy μ=>(ur x y d μ).bind λ_ μ=>.ok (.nx σ) μ
 | .augx op o i v,σ,μ=>(evE φ o σ μ).bind λx μ=>(evE φ i σ μ).bind λy μ=>(ixL x y μ).bind λold μ=>(evE φ v σ μ).bind λd μ=>(aa7 op old d μ).bind λz μ=>(ur x y z μ).bind λ_ μ=>.ok (.nx σ) μ
 | .setxT o i v,σ,μ=>(evE φ v σ μ).bind λd μ=>(evE φ o σ μ).bind λx μ=>(jh φ i σ μ).bind λy μ=>(Zq x y d μ).bind λ_ μ=>.ok (.nx σ) μ
 | .ex e,σ,μ=>(evE φ e σ μ).bind λ_ μ=>.ok (.nx σ) μ
 | .ite c a b,σ,μ=>(evE φ c σ μ).bind λx μ=>match x with
  | .bl k=>if k=true then qa a σ μ else qa b σ μ
  | _=>.stuck
 | .loop tg it b,σ,μ=>(evI φ it σ μ).bind λds μ=>kg ds.2 (λd σ μ=>qm (gf tg d σ) λσ'=>qa b σ' μ) ds.1 σ μ
 | .ret e,σ,μ=>(evE φ e σ μ).bind λd μ=>.ok (.rt d) μ
 | .raise c es,σ,μ=>(jh φ es σ μ).bind λds μ=>.exc c ds μ
 | .pass,σ,μ=>.ok (.nx σ) μ
 | .brk,σ,μ=>.ok (.bk σ) μ
 | .cont,σ,μ=>.ok (.ct σ) μ
 | .never,_,_=>.stuck
def qa:Sms->Sl->Sto->Res Fl
 | .nil,σ,μ=>.ok (.nx σ) μ
 | .cons s r,σ,μ=>(evS s σ μ).bind λfl μ=>match fl with
  | .nx σ'=>qa r σ' μ
  | fl=>.ok fl μ
end
end
structure Df where
 np:Nat
 nn:Nat
 body:Sms
def U8 (φ:Phi) (f:Df) (ds:List D) (μ:Sto):Res D :=
 if ds.length=f.np then(qa φ f.body (ds.map some++List.replicate (f.nn-f.np) none) μ).bind λfl μ=>match fl with
  | .nx _=>.ok .non μ
  | .rt d=>.ok d μ
  | _=>.stuck
 else .stuck
def ak (T:List Df):Nat->Phi
 | 0=>λ_ _ _=>.stuck
 | n+1=>λf ds μ=>match T[f]? with
  | some d=>U8 (ak T n) d ds μ
  | none=>.stuck
end Lp
set_option maxHeartbeats 4000000
namespace Lp
open PySem PySem.Spec PyProof.Rows L2
abbrev St:=L2.St
theorem _root_.L2.FzL.sq {K:PySem.W.Frag} {H:Hp} {a:Addr} {xs:List V} (h:FzL K H a xs):SqL K H a xs:=by
 rcases h with⟨o,h⟩ | ⟨its,n,h,hz,hv⟩
 ·exact .inl (.inr ⟨o,h⟩)
 ·exact .inr ⟨_,its.toArray,n,h,rfl,rfl,rfl,by rw[AG,<-hv.length];exact hz,by simpa using hv⟩
def LsL (K:PySem.W.Frag) (H:Hp) (a:Addr) (xs:List V):Prop:=H a=some (.lst xs)\/FzL K H a xs
theorem LsL.sq {K:PySem.W.Frag} {H:Hp} {a:Addr} {xs:List V} (h:LsL K H a xs):SqL K H a xs:=by
 rcases h with h | h
 ·exact .of h
 ·exact h.sq
theorem _root_.L2.Inv.ls {X:Cx} {pins:List (Addr×Obj)} {σ:St} {H:Hp} {s:Shared} {a:Addr} {xs:List V} (I:Inv X pins σ H s) (h:LsL X.K H a xs) :
  xs.length<=sizeLine/\∃(its:List Value) (n:Nat),cz xs its/\xs.length=its.length/\s.heap.get? a=some {cls:=.type "list",data:=.seq its.toArray n}:=by
 rcases h with h | ⟨o,h⟩ | ⟨its,n,h,hz,hv⟩
 ·obtain⟨z,its,n,hv,e⟩:=I.hok a _ h
  exact⟨z,its,n,hv,hv.length,e⟩
 ·obtain⟨_,z,its,n,hv,e⟩:=I.hok a _ h
  exact⟨z,its,n,hv,hv.length,e⟩
 ·exact⟨hz,its,n,hv,hv.length,I.kIn a _ h⟩
structure Ext (H H':Hp):Prop where
 tups:∀b xs,H b=some (.tup xs)->H' b=some (.tup xs)
 frzs:∀b o u,H b=some (.frz o u)->H' b=some (.frz o u)
theorem Ext.refl (H:Hp):Ext H H:=⟨λ_ _ h=>h,λ_ _ _ h=>h⟩
theorem Ext.trans {H H1 H2:Hp} (a:Ext H H1) (b:Ext H1 H2):Ext H H2:=⟨λc xs h=>b.tups c xs (a.tups c xs h),λc o u h=>b.frzs c o u (a.frzs c o u h)⟩
theorem Ext.new {H:Hp} {p:Addr} {o:HO} (h:H p=none):Ext H (upd H p o) :=
 ⟨λb xs e=>by rw[a8 (de e h)];exact e,λb o u e=>by rw[a8 (de e h)];exact e⟩
theorem Ext.lst {H:Hp} {p:Addr} {xs:List V} {o:HO} (h:H p=some (.lst xs)):Ext H (upd H p o) :=
 ⟨λb ys e=>by rw[a8 (qw e h (by intro z;cases z))];exact e,λb o u e=>by rw[a8 (qw e h (by intro z;cases z))];exact e⟩
theorem Ext.dK {H:Hp} {p:Addr} {xs:List (Key×V)} {o:HO} (h:H p=some (.dK xs)):Ext H (upd H p o) :=
 ⟨λb ys e=>by rw[a8 (qw e h (by intro z;cases z))];exact e,λb o u e=>by rw[a8 (qw e h (by intro z;cases z))];exact e⟩
theorem _root_.L2.SqT.ext {K:PySem.W.Frag} {H H':Hp} {a:Addr} {xs:List V} (h:SqT K H a xs) (e:Ext H H'):SqT K H' a xs:=by
 rcases h with(h | ⟨o,h⟩) | h
 ·exact .inl (.inl (e.tups _ _ h))
 ·exact .inl (.inr ⟨o,e.frzs _ _ _ h⟩)
 ·exact .inr h
theorem _root_.L2.FzL.ext {K:PySem.W.Frag} {H H':Hp} {a:Addr} {xs:List V} (h:FzL K H a xs) (e:Ext H H'):FzL K H' a xs:=by
 rcases h with⟨o,h⟩ | h
 ·exact .inl ⟨o,e.frzs _ _ _ h⟩
 ·exact .inr h
section
variable (K : PySem.W.Frag) (ι : List Addr) (H : Hp)
mutual
def IsD:D->V->Prop
 | .non,v=>v=.non
 | .bl b,v=>v=.bl b
 | .int i,v=>v=.int i
 | .str x,v=>v=.str x
 | .tup ds,v=>∃a xs,v=.ref a/\SqT K H a xs/\ar ds xs
 | .lst ds,v=>∃a xs,v=.ref a/\FzL K H a xs/\ar ds xs
 | .loc n,v=>∃a,v=.ref a/\ι[n]? = some a
def ar:List D->List V->Prop
 | [],xs=>xs=[]
 | d::ds,xs=>∃v r,xs=v::r/\IsD d v/\ar ds r
end
end
section
variable {K : PySem.W.Frag} {ι ι' : List Addr} {H H' : Hp}
mutual
theorem IsD.mono (hp:ι <+: ι') (he:Ext H H'):∀(d:D) (v:V),IsD K ι H d v->IsD K ι' H' d v
 | .non,_,h=>by simpa[IsD]using h
 | .bl b,_,h=>by simpa[IsD]using h
 | .int i,_,h=>by simpa[IsD]using h
 | .str x,_,h=>by simpa[IsD]using h
 | .tup ds,v,h=>by
  simp![IsD]at h ⊢
  obtain⟨a,xs,e,q,r⟩:=h
  exact⟨a,xs,e,q.ext he,ar.mono hp he ds xs r⟩
 | .lst ds,v,h=>by
  simp![IsD]at h ⊢
  obtain⟨a,xs,e,q,r⟩:=h
  exact⟨a,xs,e,q.ext he,ar.mono hp he ds xs r⟩
 | .loc n,v,h=>by
  simp![IsD]at h ⊢
  obtain⟨a,e,q⟩:=h
  obtain⟨t,rfl⟩:=hp
  exact⟨a,e,by rw[AV (AF.mp q).1];exact q⟩
theorem ar.mono (hp:ι <+: ι') (he:Ext H H'):∀(ds:List D) (xs:List V),ar K ι H ds xs->ar K ι' H' ds xs
 | [],xs,h=>by simpa[ar]using h
 | d::ds,xs,h=>by
  simp![ar]at h ⊢
  obtain⟨v,r,e,q,t⟩:=h
  exact⟨v,r,e,IsD.mono hp he d v q,ar.mono hp he ds r t⟩
end
theorem ar.length:∀{ds:List D} {xs:List V},ar K ι H ds xs->xs.length=ds.length
 | [],xs,h=>by simp![ar]at h;subst h;rfl
 | d::ds,xs,h=>by
  simp![ar]at h
  obtain⟨v,r,rfl,_,t⟩:=h
  simp[ar.length t]
theorem ar.get:∀{ds:List D} {xs:List V} {i:Nat} {d:D},ar K ι H ds xs->ds[i]? = some d->∃v,xs[i]? = some v/\IsD K ι H d v
 | [],_,_,_,_,e=>by simp at e
 | d::ds,xs,0,_,h,e=>by
  simp![ar]at h
  obtain⟨v,r,rfl,q,_⟩:=h
  simp at e;subst e
  exact⟨v,rfl,q⟩
 | d::ds,xs,i+1,x,h,e=>by
  simp![ar]at h
  obtain⟨v,r,rfl,_,t⟩:=h
  obtain⟨w,h1,h2⟩:=ar.get (i:=i) (d:=x) t (by simpa using e)
  exact⟨w,by simpa using h1,h2⟩
theorem ar.append:∀{ds es:List D} {xs ys:List V},ar K ι H ds xs->ar K ι H es ys->ar K ι H (ds++es) (xs++ys)
 | [],_,_,_,h,g=>by simp![ar]at h;subst h;exact g
 | d::ds,es,xs,ys,h,g=>by
  simp![ar]at h
  obtain⟨v,r,rfl,q,t⟩:=h
  simp![EG,ar]
  exact⟨v,r++ys,rfl,q,ar.append t g⟩
theorem ar.one {d:D} {v:V} (h:IsD K ι H d v):ar K ι H [d] [v]:=by
 simp![ar];exact⟨v,[],rfl,h,rfl⟩
theorem ar.take:∀{ds:List D} {xs:List V} (n:Nat),ar K ι H ds xs->ar K ι H (ds.take n) (xs.take n)
 | _,_,0,_=>by simp[ar]
 | [],_,n+1,h=>by simp![ar]at h;subst h;simp[ar]
 | d::ds,xs,n+1,h=>by
  simp![ar]at h
  obtain⟨v,r,rfl,q,t⟩:=h
  simp![List.take_succ_cons,ar]
  exact⟨v,_,rfl,q,ar.take n t⟩
theorem ar.drop:∀{ds:List D} {xs:List V} (n:Nat),ar K ι H ds xs->ar K ι H (ds.drop n) (xs.drop n)
 | _,_,0,h=>by simpa using h
 | [],_,n+1,h=>by simp![ar]at h;subst h;simp[ar]
 | d::ds,xs,n+1,h=>by
  simp![ar]at h
  obtain⟨v,r,rfl,q,t⟩:=h
  simpa using ar.drop n t
theorem ar.set {d:D} {v:V} (hd:IsD K ι H d v):∀{ds:List D} {xs:List V} (n:Nat),ar K ι H ds xs->ar K ι H (ds.set n d) (xs.set n v)
 | [],_,n,h=>by simp![ar]at h;subst h;simp[ar]
 | e::ds,xs,0,h=>by
  simp![ar]at h
  obtain⟨w,r,rfl,q,t⟩:=h
  simp![FG,ar]
  exact⟨v,r,rfl,hd,t⟩
 | e::ds,xs,n+1,h=>by
  simp![ar]at h
  obtain⟨w,r,rfl,q,t⟩:=h
  simp![FH,ar]
  exact⟨w,_,rfl,q,ar.set hd n t⟩
theorem ar.eraseIdx:∀{ds:List D} {xs:List V} (n:Nat),ar K ι H ds xs->ar K ι H (ds.eraseIdx n) (xs.eraseIdx n)
 | [],_,n,h=>by simp![ar]at h;subst h;simp[ar]
 | e::ds,xs,0,h=>by
  simp![ar]at h
  obtain⟨w,r,rfl,q,t⟩:=h
  simpa using t
 | e::ds,xs,n+1,h=>by
  simp![ar]at h
  obtain⟨w,r,rfl,q,t⟩:=h
  simp![JA,ar]
  exact⟨w,_,rfl,q,ar.eraseIdx n t⟩
theorem ar.reverse:∀{ds:List D} {xs:List V},ar K ι H ds xs->ar K ι H ds.reverse xs.reverse
 | [],_,h=>by simp![ar]at h;subst h;simp[ar]
 | e::ds,xs,h=>by
  simp![ar]at h
  obtain⟨w,r,rfl,q,t⟩:=h
  simp![IJ]
  exact(ar.reverse t).append (.one q)
theorem ar.dropLast {ds:List D} {xs:List V} (h:ar K ι H ds xs):ar K ι H ds.dropLast xs.dropLast:=by
 rw[JY,JY,h.length]
 exact h.take _
theorem ar.rep {ds:List D} {xs:List V} (h:ar K ι H ds xs):∀k:Nat,ar K ι H (List.replicate k ds).flatten (List.replicate k xs).flatten
 | 0=>by simp[ar]
 | k+1=>by
  simp![CY,FR]
  exact h.append (ar.rep h k)
theorem ar.ints:∀(ns:List Int),ar K ι H (ns.map D.int) (ns.map V.int)
 | []=>by simp[ar]
 | n::r=>by
  simp![AR,ar]
  exact⟨_,_,rfl,by simp[IsD],ar.ints r⟩
theorem IsD.puren:∀(k:Nat) (d:D) (v:V),D.pureN k d=true->IsD K ι H d v->IsD K ι' H d v:=by
 have list:∀(k:Nat),(∀(d:D) (v:V),D.pureN k d=true->IsD K ι H d v->IsD K ι' H d v) ->
   ∀(ds:List D) (xs:List V),ds.all (D.pureN k)=true->ar K ι H ds xs->ar K ι' H ds xs:=by
  intro k ih ds
  induction ds with
  | nil=>intro xs _ h;simpa[ar]using h
  | cons d ds ihd =>
   intro xs hp h
   simp![ar]at h ⊢
   simp![BB,BC]at hp
   obtain⟨v,r,e,q,t⟩:=h
   exact⟨v,r,e,ih d v hp.1 q,ihd r hp.2 t⟩
 intro k
 induction k with
 | zero =>
  intro d v hp h
  cases d<;>simp_all[D.pureN,IsD]
 | succ k ih =>
  intro d v hp h
  cases d with
  | tup ds =>
   simp![D.pureN]at hp
   simp![IsD]at h ⊢
   obtain⟨a,xs,e,q,r⟩:=h
   exact⟨a,xs,e,q,list k ih ds xs hp r⟩
  | lst ds =>
   simp![D.pureN]at hp
   simp![IsD]at h ⊢
   obtain⟨a,xs,e,q,r⟩:=h
   exact⟨a,xs,e,q,list k ih ds xs hp r⟩
  | loc n=>simp[D.pureN]at hp
  | _=>simpa[IsD]using h
theorem IsD.pur {d:D} {v:V} (hp:d.pure=true) (h:IsD K ι H d v):IsD K ι' H d v:=IsD.puren 8 d v hp h
theorem ar.pur {ds:List D} {xs:List V} (hp:ds.all (D.pureN 8)=true) (h:ar K ι H ds xs):ar K ι' H ds xs:=by
 induction ds generalizing xs with
 | nil=>simpa[ar]using h
 | cons d ds ih =>
  simp![ar]at h ⊢
  simp![BB,BC]at hp
  obtain⟨v,r,e,q,t⟩:=h
  exact⟨v,r,e,IsD.pur hp.1 q,ih hp.2 t⟩
end
section
variable (K : PySem.W.Frag) (ι : List Addr) (H : Hp)
def Nx (kvs:List (D×D)) (xs:List (Key×V)):Prop :=
 Paired (fun(p:D×D) (q:Key×V)=>IsD K [] H p.1 (kV q.1)/\IsD K [] H p.2 q.2) kvs xs
def acs (kvs:List (D×D)) (xs:List (List Key×V)):Prop :=
 Paired (fun(p:D×D) (q:List Key×V)=>(∃ds,p.1=.tup ds/\ar K [] H ds (q.1.map kV))/\IsD K [] H p.2 q.2) kvs xs
def OIs (a:Addr):O->Prop
 | .l ds=>∃xs,H a=some (.lst xs)/\ar K [] H ds xs
 | .r ds=>∃xs,H a=some (.lst xs)/\ar K ι H ds xs
 | .d kvs=>∃xs,H a=some (.dK xs)/\Nx K H kvs xs
 | .dt kvs=>∃xs,H a=some (.dT xs)/\acs K H kvs xs
 | .dead=>∃u,H a=some u
structure Sim (μ:Sto):Prop where
 len:ι.length=μ.length
 nd:ι.Nodup
 obj:∀(n:Nat) a o,ι[n]? = some a->μ[n]? = some o->OIs K ι H a o
def tj (σ:Sl) (σv:St):Prop:=∀(i:Nat) d,σ[i]? = some (some d)->∃v,σv[i]? = some (some v)/\IsD K ι H d v
end
section
variable {K : PySem.W.Frag} {ι ι' : List Addr} {H H' : Hp} {μ : Sto} {σ : Sl} {σv : St}
theorem tj.mono (h:tj K ι H σ σv) (hp:ι <+: ι') (he:Ext H H'):tj K ι' H' σ σv:=λi d e=>by
 obtain⟨v,q,r⟩:=h i d e
 exact⟨v,q,IsD.mono hp he d v r⟩
theorem tj.set (h:tj K ι H σ σv) (hl:σ.length=σv.length) {i:Nat} {d:D} {v:V} (hd:IsD K ι H d v):tj K ι H (σ.set i (some d)) (σv.set i (some v)):=λj e q=>by
 by_cases hj:i=j
 ·subst hj
  by_cases hi:i<σ.length
  ·rw[CT hi]at q
   cases q
   exact⟨v,by rw[CT (by lia)],hd⟩
  ·rw[AZ (by simp;lia)]at q;cases q
 ·rw[BR hj]at q
  obtain⟨w,q1,q2⟩:=h j e q
  exact⟨w,by rw[BR hj];exact q1,q2⟩
theorem OIs.ne (h:OIs K ι H a o):∃u,H a=some u:=by
 cases o with
 | l ds=>obtain⟨xs,e,_⟩:=h;exact⟨_,e⟩
 | r ds=>obtain⟨xs,e,_⟩:=h;exact⟨_,e⟩
 | d kvs=>obtain⟨xs,e,_⟩:=h;exact⟨_,e⟩
 | dt kvs=>obtain⟨xs,e,_⟩:=h;exact⟨_,e⟩
 | dead=>exact h
theorem OIs.mono {a:Addr} {o:O} (h:OIs K ι H a o) (hp:ι <+: ι') (he:Ext H H') (ha:H' a=H a):OIs K ι' H' a o:=by
 cases o with
 | l ds=>obtain⟨xs,e,q⟩:=h;exact⟨xs,ha.trans e,ar.mono (AO _) he ds xs q⟩
 | r ds=>obtain⟨xs,e,q⟩:=h;exact⟨xs,ha.trans e,ar.mono hp he ds xs q⟩
 | d kvs =>
  obtain⟨xs,e,q⟩:=h
  exact⟨xs,ha.trans e,Paired.mapP q λp r z=>⟨IsD.mono (AO _) he _ _ z.1,IsD.mono (AO _) he _ _ z.2⟩⟩
 | dt kvs =>
  obtain⟨xs,e,q⟩:=h
  exact⟨xs,ha.trans e,Paired.mapP q λp r z=>⟨let ⟨ds,e,t⟩:=z.1;⟨ds,e,ar.mono (AO _) he _ _ t⟩,IsD.mono (AO _) he _ _ z.2⟩⟩
 | dead=>obtain⟨u,e⟩:=h;exact⟨u,ha.trans e⟩
theorem Sim.at (h:Sim K ι H μ) {n:Nat} {o:O} (e:μ[n]? = some o):∃a,ι[n]? = some a/\OIs K ι H a o:=by
 have hn:n<ι.length:=by rw[h.len];exact(AF.mp e).1
 exact⟨ι[n],AB hn,h.obj n _ o (AB hn) e⟩
theorem Sim.used (h:Sim K ι H μ) {n:Nat} {a:Addr} (e:ι[n]? = some a):∃u,H a=some u:=by
 have hn:n<μ.length:=by rw[<-h.len];exact(AF.mp e).1
 exact(h.obj n a _ e (AB hn)).ne
theorem Sim.new (h:Sim K ι H μ) {p:Addr} {o:HO} (hp:H p=none):Sim K ι (upd H p o) μ :=
 ⟨h.len,h.nd,λn a ob e1 e2=>by
  obtain⟨u,hu⟩:=h.used e1
  exact(h.obj n a ob e1 e2).mono (AO _) (.new hp) (a8 (de hu hp))⟩
theorem Sim.push (h:Sim K ι H μ) {p:Addr} {u:HO} {o:O} (hp:H p=none) (ho:OIs K (ι++[p]) (upd H p u) p o):Sim K (ι++[p]) (upd H p u) (μ++[o]):=by
 have hne:∀a∈ι,a≠p:=λa ha z=>by
  obtain⟨n,hn,e⟩:=BS.mp ha
  obtain⟨u,hu⟩:=h.used (n:=n) (by rw[AB hn,e])
  rw[z,hp]at hu;cases hu
 refine⟨by simp[h.len],?_,λn a ob e1 e2=>?_⟩
 ·refine IL.mpr ⟨h.nd,by simp,?_⟩
  intro a ha b hb
  have:b=p:=by simpa using hb
  subst this
  exact hne a ha
 ·by_cases hn:n<ι.length
  ·rw[AV hn]at e1
   rw[AV (by rw[<-h.len];exact hn)]at e2
   exact(h.obj n a ob e1 e2).mono ⟨[p],rfl⟩ (.new hp) (a8 (hne a (BD e1)))
  ·have hm:n=ι.length:=by
    have:=(AF.mp e1).1
    simp at this;lia
   subst hm
   simp at e1
   rw[h.len]at e2
   simp at e2
   subst e1;subst e2
   exact ho
theorem Sim.put (h:Sim K ι H μ) {n:Nat} {p:Addr} {u:HO} {o:O} (hn:ι[n]? = some p) (he:Ext H (upd H p u)) (ho:OIs K ι (upd H p u) p o):Sim K ι (upd H p u) (μ.set n o):=by
 refine⟨by simp[h.len],h.nd,λk a ob e1 e2=>?_⟩
 by_cases hk:n=k
 ·subst hk
  rw[hn]at e1;cases e1
  have:n<μ.length:=by rw[<-h.len];exact(AF.mp hn).1
  rw[CT this]at e2;cases e2
  exact ho
 ·rw[BR hk]at e2
  refine(h.obj k a ob e1 e2).mono (AO _) he (a8 λz=>hk ?_)
  subst z
  obtain⟨h1,e1'⟩:=AF.mp e1
  obtain⟨h2,e2'⟩:=AF.mp hn
  exact(List.getElem_inj h.nd).mp (e2'.trans e1'.symm)
end
def i5 {α β:Type} (K:PySem.W.Frag) (R:List Addr->Hp->α->β->Prop) (ι:List Addr) (H:Hp) (r:Res α) (Q:β->Hp->Prop):Prop:=match r with
 | .ok d μ'=>∀ι' v H',ι <+: ι'->Ext H H'->Sim K ι' H' μ'->R ι' H' d v->Q v H'
 | .exc _ _ _=>False
 | .stuck=>False
abbrev RD (K:PySem.W.Frag):List Addr->Hp->D->V->Prop:=λι H d v=>IsD K ι H d v
abbrev RDs (K:PySem.W.Frag):List Addr->Hp->List D->List V->Prop:=λι H d v=>ar K ι H d v
abbrev RB:List Addr->Hp->Bool->Bool->Prop:=λ_ _ d v=>d=v
abbrev RO:List Addr->Hp->Option Int->Option Int->Prop:=λ_ _ d v=>d=v
section
variable {α β γ δ : Type} {K : PySem.W.Frag} {R : List Addr -> Hp -> α -> β -> Prop} {S : List Addr -> Hp -> γ -> δ -> Prop} {ι ι' : List Addr} {H H' : Hp}
theorem i5.mono {r:Res α} {Q:β->Hp->Prop} (h:i5 K R ι H r Q) (hp:ι <+: ι') (he:Ext H H'):i5 K R ι' H' r Q:=by
 cases r with
 | ok d μ=>exact λι2 v H2 p e s q=>h ι2 v H2 (hp.trans p) (he.trans e) s q
 | exc _ _ _=>exact h
 | stuck=>exact h
theorem i5.imp {r:Res α} {Q Q':β->Hp->Prop} (h:i5 K R ι H r Q) (hq:∀v H',Q v H'->Q' v H'):i5 K R ι H r Q':=by
 cases r with
 | ok d μ=>exact λι2 v H2 p e s q=>hq _ _ (h ι2 v H2 p e s q)
 | exc _ _ _=>exact h
 | stuck=>exact h
theorem i5.ok {d:α} {μ:Sto} {v:β} {Q:β->Hp->Prop} (h:i5 K R ι H (.ok d μ) Q) (hs:Sim K ι H μ) (hr:R ι H d v):Q v H:=h ι v H (AO _) (.refl _) hs hr
theorem i5.bind {x:Res α} {f:α->Sto->Res γ} {Q:δ->Hp->Prop} (h:i5 K S ι H (x.bind f) Q) :
  ∃d μ1,x=.ok d μ1/\i5 K S ι H (f d μ1) Q:=by
 cases x with
 | ok d μ=>exact⟨d,μ,rfl,h⟩
 | exc _ _ _=>exact h.elim
 | stuck=>exact h.elim
end
def tE (K:PySem.W.Frag) (φ:Phi) (x:Ex):TE:=λσv H Q=>∃ι σ μ,Sim K ι H μ/\tj K ι H σ σv/\i5 K (RD K) ι H (evE φ x σ μ) Q
def tEs (K:PySem.W.Frag) (φ:Phi) (x:Exs):TA:=λσv H Q=>∃ι σ μ,Sim K ι H μ/\tj K ι H σ σv/\i5 K (RDs K) ι H (jh φ x σ μ) Q
def tEo (K:PySem.W.Frag) (φ:Phi) (x:ExO):TO:=λσv H Q=>∃ι σ μ,Sim K ι H μ/\tj K ι H σ σv/\i5 K RO ι H (evO φ x σ μ) Q
def tT (K:PySem.W.Frag) (φ:Phi) (x:Ex):TT:=λσv H Q=>∃ι σ μ,Sim K ι H μ/\tj K ι H σ σv/\i5 K RB ι H ((evE φ x σ μ).bind λd μ=>aa8 d μ) Q
theorem PE.imp {X:Cx} {e:Expr} {t t':TE} (h:PE X e t) (i:∀σ H Q,t' σ H Q->t σ H Q):PE X e t':=λpins s σ H Q I q=>h pins s σ H Q I (i σ H Q q)
theorem PA.imp {X:Cx} {e:List Expr} {t t':TA} (h:PA X e t) (i:∀σ H Q,t' σ H Q->t σ H Q):PA X e t':=λpos pins s σ H Q I q=>h pos pins s σ H Q I (i σ H Q q)
theorem PT.imp {X:Cx} {e:Expr} {t t':TT} (h:PT X e t) (i:∀σ H Q,t' σ H Q->t σ H Q):PT X e t':=λpins s σ H Q I q=>h pins s σ H Q I (i σ H Q q)
theorem PW.imp {X:Cx} {e:Expr} {t t':TT} (h:PW X e t) (i:∀σ H Q,t' σ H Q->t σ H Q):PW X e t':=λwh pins s σ H Q I q=>h wh pins s σ H Q I (i σ H Q q)
section
variable {X : Cx} {φ : Phi} {a b c : Expr} {xa xb xc : Ex} {pos : Pos}
theorem Zs {i:Nat} {x:Str} (hN:X.N[i]? = some x) (hv:Vis X.env.scope x) (hd:(x==("__debug__":Str))=false) (hcd:(x==("__classdict__":Str))=false):PE X (.Name x pos) (tE X.K φ (.var i)) :=
 PE.imp (yd hN hv hd hcd) λσv H Q ⟨ι,σ,μ,hS,hL,h⟩=>by
  simp![evE]at h
  split at h
  ·rename_i d e
   obtain⟨v,e1,e2⟩:=hL i d e
   exact⟨v,e1,h.ok hS e2⟩
  ·exact h.elim
theorem Zt {i:Int} {j:Nat}:PE X (.Constant (.int i) j pos) (tE X.K φ (.cst (.int i))) :=
 PE.imp Pr λσv H Q ⟨ι,σ,μ,hS,hL,h⟩=>by simp![evE]at h;exact h.ok hS (by simp[IsD])
theorem acu {i:Bool} {j:Nat}:PE X (.Constant (.bool i) j pos) (tE X.K φ (.cst (.bl i))) :=
 PE.imp Y2 λσv H Q ⟨ι,σ,μ,hS,hL,h⟩=>by simp![evE]at h;exact h.ok hS (by simp[IsD])
theorem Zu {j:Nat}:PE X (.Constant .none j pos) (tE X.K φ (.cst .non)) :=
 PE.imp Vg λσv H Q ⟨ι,σ,μ,hS,hL,h⟩=>by simp![evE]at h;exact h.ok hS (by simp[IsD])
theorem Zv {i:Str} {j:Nat}:PE X (.Constant (.str i) j pos) (tE X.K φ (.cst (.str i))) :=
 PE.imp Vh λσv H Q ⟨ι,σ,μ,hS,hL,h⟩=>by simp![evE]at h;exact h.ok hS (by simp[IsD])
theorem two {σv:St} {H:Hp} {ι:List Addr} {σ:Sl} {μ:Sto} {f:D->D->Sto->Res D} {Q:VK} {R:V->V->Hp->Prop} (hS:Sim X.K ι H μ) (hL:tj X.K ι H σ σv)
  (h:i5 X.K (RD X.K) ι H ((evE φ xa σ μ).bind λx μ=>(evE φ xb σ μ).bind λy μ=>f x y μ) Q)
  (k:∀ι' H' d e x y μ',Sim X.K ι' H' μ'->IsD X.K ι' H' d x->IsD X.K ι' H' e y->i5 X.K (RD X.K) ι' H' (f d e μ') Q->R x y H') :
  tE X.K φ xa σv H λx H1=>tE X.K φ xb σv H1 λy H2=>R x y H2:=by
 obtain⟨d,μ1,e1,h⟩:=h.bind
 refine⟨ι,σ,μ,hS,hL,?_⟩
 rw[e1]
 intro ι1 x H1 p1 x1 s1 d1
 obtain⟨e,μ2,e2,h⟩:=h.bind
 refine⟨ι1,σ,μ1,s1,hL.mono p1 x1,?_⟩
 rw[e2]
 intro ι2 y H2 p2 x2 s2 d2
 exact k ι2 H2 d e x y μ2 s2 (IsD.mono p2 x2 d x d1) d2 (h.mono (p1.trans p2) (x1.trans x2))
def rOp (K:PySem.W.Frag) (f:D->D->Sto->Res D):R2:=λx y H Q=>∃ι d e μ,Sim K ι H μ/\IsD K ι H d x/\IsD K ι H e y/\i5 K (RD K) ι H (f d e μ) Q
theorem Zw {op:Operator} {m:Mk} (ho:OpR X (binaryOp op) (rOp X.K (opD op m))) (ha:PE X a (tE X.K φ xa)) (hb:PE X b (tE X.K φ xb)):PE X (.BinOp a op b pos) (tE X.K φ (.bin op m xa xb)) :=
 PE.imp (Zb ho ha hb) λσv H Q ⟨ι,σ,μ,hS,hL,h⟩=>by
  simp![evE]at h
  exact two hS hL h λι' H' d e x y μ' s d1 d2 p=>⟨ι',d,e,μ',s,d1,d2,p⟩
theorem acv (ho:IxR X (rOp X.K ixD)) (ha:PE X a (tE X.K φ xa)) (hb:PE X b (tE X.K φ xb)) (hs:C3 b):PE X (.Subscript a b pos) (tE X.K φ (.ix xa xb)) :=
 PE.imp (Zl ho ha hb hs) λσv H Q ⟨ι,σ,μ,hS,hL,h⟩=>by
  simp![evE]at h
  exact two hS hL h λι' H' d e x y μ' s d1 d2 p=>⟨ι',d,e,μ',s,d1,d2,p⟩
theorem Ny:PA X [] (tEs X.K φ .nil) :=
 PA.imp Py λσv H Q ⟨ι,σ,μ,hS,hL,h⟩=>by simp![jh]at h;exact h.ok hS (by simp[ar])
theorem Bg {es:List Expr} {xs:Exs} (ha:PE X a (tE X.K φ xa)) (hb:PA X es (tEs X.K φ xs)) (hs:starEach (a::es) X.env=(false,eval a X.env)::starEach es X.env):PA X (a::es) (tEs X.K φ (.cons xa xs)) :=
 PA.imp (C1 ha hb hs) λσv H Q ⟨ι,σ,μ,hS,hL,h⟩=>by
  simp![jh]at h
  obtain⟨d,μ1,e1,h⟩:=h.bind
  refine⟨ι,σ,μ,hS,hL,?_⟩
  rw[e1]
  intro ι1 x H1 p1 x1 s1 d1
  obtain⟨e,μ2,e2,h⟩:=h.bind
  refine⟨ι1,σ,μ1,s1,hL.mono p1 x1,?_⟩
  rw[e2]
  intro ι2 y H2 p2 x2 s2 d2
  refine h ι2 (x::y) H2 (p1.trans p2) (x1.trans x2) s2 ?_
  show ar _ _ _ _ _
  simp![ar]
  exact⟨x,y,rfl,IsD.mono p2 x2 d x d1,d2⟩
theorem Zx {es:List Expr} {xs:Exs} {k:Nat} (h:PA X es (tEs X.K φ xs)) (hl:∀σ μ ds μ',jh φ xs σ μ=.ok ds μ'->ds.length<=sizeLine):PE X (.Tuple es k pos) (tE X.K φ (.tup xs)) :=
 PE.imp (Vv h) λσv H Q ⟨ι,σ,μ,hS,hL,h⟩=>by
  simp![evE]at h
  obtain⟨ds,μ1,e1,h⟩:=h.bind
  refine⟨ι,σ,μ,hS,hL,?_⟩
  rw[e1]
  intro ι1 vs H1 p1 x1 s1 d1
  have hd:ar X.K ι1 H1 ds vs:=d1
  refine⟨by rw[hd.length];exact hl σ μ ds μ1 e1,λp hp=>?_⟩
  refine h ι1 (.ref p) (upd H1 p (.tup vs)) p1 (x1.trans (.new hp)) (s1.new hp) ?_
  show IsD _ _ _ _ _
  simp![IsD]
  exact⟨p,vs,rfl,.of bf,ar.mono (AO _) (.new hp) ds vs d1⟩
theorem Zy {x:Ex} {σv:St} {H:Hp} {Q:Bool->Hp->Prop} (h:tT X.K φ x σv H Q):tE X.K φ x σv H λv H'=>∃k,v=.bl k/\Q k H':=by
 obtain⟨ι,σ,μ,hS,hL,h⟩:=h
 obtain⟨d,μ1,e1,h⟩:=h.bind
 refine⟨ι,σ,μ,hS,hL,?_⟩
 rw[e1]
 intro ι1 x H1 p1 x1 s1 d1
 cases d with
 | bl k=>exact⟨k,by simpa[IsD]using d1,h ι1 k H1 p1 x1 s1 rfl⟩
 | _=>exact h.elim
theorem S3 {x:Ex} (ha:PE X a (tE X.K φ x)) (he:∀whole,isTrue a X.env whole=(do let v <-whole;standAt a.pos;holding [v] (truthy v))):PT X a (tT X.K φ x) :=
 PT.imp (Nh ha he) λσv H Q h=>by
  have q:=Zy h
  obtain⟨ι,σ,μ,hS,hL,q⟩:=q
  exact⟨ι,σ,μ,hS,hL,q.imp λv H' ⟨k,e,z⟩=>⟨k,by subst e;exact rfl,z⟩⟩
theorem We (ha:PT X a (tT X.K φ xa)):PT X (.UnaryOp .Not a pos) (tT X.K φ (.not xa)) :=
 PT.imp (Vk ha) λσv H Q ⟨ι,σ,μ,hS,hL,h⟩=>by
  simp![evE]at h
  rw[Res.bind_assoc]at h
  obtain⟨d,μ1,e1,h⟩:=h.bind
  refine⟨ι,σ,μ,hS,hL,?_⟩
  rw[e1]
  cases d with
  | bl k=>exact λι1 x H1 p1 x1 s1 d1=>h ι1 (!x) H1 p1 x1 s1 (by cases d1;rfl)
  | _=>exact h.elim
theorem Wf (ha:PE X a (tE X.K φ xa)):PE X (.UnaryOp .Not a pos) (tE X.K φ (.not xa)) :=
 PE.imp (Vm ha) λσv H Q ⟨ι,σ,μ,hS,hL,h⟩=>by
  simp![evE]at h
  obtain⟨d,μ1,e1,h⟩:=h.bind
  refine⟨ι,σ,μ,hS,hL,?_⟩
  rw[e1]
  intro ι1 x H1 p1 x1 s1 d1
  cases d with
  | bl k=>exact⟨k,by simpa[IsD]using d1,h ι1 (.bl !k) H1 p1 x1 s1 (by simp[IsD])⟩
  | _=>exact h.elim
theorem Zz (ha:PE X a (tE X.K φ xa)):PE X (.UnaryOp .USub a pos) (tE X.K φ (.neg xa)) :=
 PE.imp (Vs Pw ha) λσv H Q ⟨ι,σ,μ,hS,hL,h⟩=>by
  simp![evE]at h
  obtain⟨d,μ1,e1,h⟩:=h.bind
  refine⟨ι,σ,μ,hS,hL,?_⟩
  rw[e1]
  intro ι1 x H1 p1 x1 s1 d1
  cases d with
  | int k=>exact⟨k,by simpa[IsD]using d1,h ι1 (.int (-k)) H1 p1 x1 s1 (by simp[IsD])⟩
  | _=>exact h.elim
theorem Wg {rest:List Expr} (ha:PE X a (tE X.K φ xa)) (hb:PE X (.BoolOp .And (b::rest) pos) (tE X.K φ xb)):PE X (.BoolOp .And (a::b::rest) pos) (tE X.K φ (.and xa xb)) :=
 PE.imp (Vl ha hb) λσv H Q ⟨ι,σ,μ,hS,hL,h⟩=>by
  simp![evE]at h
  obtain⟨d,μ1,e1,h⟩:=h.bind
  refine⟨ι,σ,μ,hS,hL,?_⟩
  rw[e1]
  intro ι1 x H1 p1 x1 s1 d1
  cases d with
  | bl k =>
   refine⟨k,by simpa[IsD]using d1,?_⟩
   cases k with
   | true=>exact⟨ι1,σ,μ1,s1,hL.mono p1 x1,(show i5 _ _ _ _ (evE φ xb σ μ1) _ from h).mono p1 x1⟩
   | false=>exact h ι1 (.bl false) H1 p1 x1 s1 (by simp[IsD])
  | _=>exact h.elim
theorem Z0 {rest:List Expr} (ha:PE X a (tE X.K φ xa)) (hb:PE X (.BoolOp .Or (b::rest) pos) (tE X.K φ xb)):PE X (.BoolOp .Or (a::b::rest) pos) (tE X.K φ (.or xa xb)) :=
 PE.imp (Y6 ha hb) λσv H Q ⟨ι,σ,μ,hS,hL,h⟩=>by
  simp![evE]at h
  obtain⟨d,μ1,e1,h⟩:=h.bind
  refine⟨ι,σ,μ,hS,hL,?_⟩
  rw[e1]
  intro ι1 x H1 p1 x1 s1 d1
  cases d with
  | bl k =>
   refine⟨k,by simpa[IsD]using d1,?_⟩
   cases k with
   | true=>exact h ι1 (.bl true) H1 p1 x1 s1 (by simp[IsD])
   | false=>exact⟨ι1,σ,μ1,s1,hL.mono p1 x1,(show i5 _ _ _ _ (evE φ xb σ μ1) _ from h).mono p1 x1⟩
  | _=>exact h.elim
theorem Wh {rest:List Expr} (ha:PT X a (tT X.K φ xa)) (hb:PW X (.BoolOp .And (b::rest) pos) (tT X.K φ xb)):PW X (.BoolOp .And (a::b::rest) pos) (tT X.K φ (.and xa xb)) :=
 PW.imp (Vj ha hb) λσv H Q ⟨ι,σ,μ,hS,hL,h⟩=>by
  simp![evE]at h
  rw[Res.bind_assoc]at h
  obtain⟨d,μ1,e1,h⟩:=h.bind
  refine⟨ι,σ,μ,hS,hL,?_⟩
  rw[e1]
  cases d with
  | bl k =>
   intro ι1 x H1 p1 x1 s1 d1
   cases d1
   cases k with
   | true=>exact⟨ι1,σ,μ1,s1,hL.mono p1 x1,(show i5 _ _ _ _ ((evE φ xb σ μ1).bind _) _ from h).mono p1 x1⟩
   | false=>exact h ι1 false H1 p1 x1 s1 rfl
  | _=>exact h.elim
theorem Z1 {rest:List Expr} (ha:PT X a (tT X.K φ xa)) (hb:PW X (.BoolOp .Or (b::rest) pos) (tT X.K φ xb)):PW X (.BoolOp .Or (a::b::rest) pos) (tT X.K φ (.or xa xb)) :=
 PW.imp (Y3 ha hb) λσv H Q ⟨ι,σ,μ,hS,hL,h⟩=>by
  simp![evE]at h
  rw[Res.bind_assoc]at h
  obtain⟨d,μ1,e1,h⟩:=h.bind
  refine⟨ι,σ,μ,hS,hL,?_⟩
  rw[e1]
  cases d with
  | bl k =>
   intro ι1 x H1 p1 x1 s1 d1
   cases d1
   cases k with
   | true=>exact h ι1 true H1 p1 x1 s1 rfl
   | false=>exact⟨ι1,σ,μ1,s1,hL.mono p1 x1,(show i5 _ _ _ _ ((evE φ xb σ μ1).bind _) _ from h).mono p1 x1⟩
  | _=>exact h.elim
end
def o5 (K:PySem.W.Frag) (ι:List Addr) (H:Hp) (r:Res Fl) (E:Ends):Prop:=match r with
 | .ok (.nx σ') μ'=>∀ι' σv H',ι <+: ι'->Ext H H'->Sim K ι' H' μ'->tj K ι' H' σ' σv->σ'.length=σv.length->E.nx σv H'
 | .ok (.bk σ') μ'=>∀ι' σv H',ι <+: ι'->Ext H H'->Sim K ι' H' μ'->tj K ι' H' σ' σv->σ'.length=σv.length->E.bk σv H'
 | .ok (.ct σ') μ'=>∀ι' σv H',ι <+: ι'->Ext H H'->Sim K ι' H' μ'->tj K ι' H' σ' σv->σ'.length=σv.length->E.ct σv H'
 | .ok (.rt d) μ'=>∀ι' v H',ι <+: ι'->Ext H H'->Sim K ι' H' μ'->IsD K ι' H' d v->E.rt v H'
 | .exc _ _ _=>False
 | .stuck=>False
theorem o5.mono {K:PySem.W.Frag} {ι ι':List Addr} {H H':Hp} {r:Res Fl} {E:Ends} (h:o5 K ι H r E) (hp:ι <+: ι') (he:Ext H H'):o5 K ι' H' r E:=by
 cases r with
 | ok f μ=>cases f<;>exact λι2 v H2 p e=>h ι2 v H2 (hp.trans p) (he.trans e)
 | exc _ _ _=>exact h
 | stuck=>exact h
theorem o5.bind {α:Type} {K:PySem.W.Frag} {ι:List Addr} {H:Hp} {E:Ends} {x:Res α} {f:α->Sto->Res Fl} (h:o5 K ι H (x.bind f) E):∃d μ1,x=.ok d μ1/\o5 K ι H (f d μ1) E:=by
 cases x with
 | ok d μ=>exact⟨d,μ,rfl,h⟩
 | exc _ _ _=>exact h.elim
 | stuck=>exact h.elim
def tS (K:PySem.W.Frag) (φ:Phi) (x:Sm):TS:=λE σv H=>∃ι σ μ,Sim K ι H μ/\tj K ι H σ σv/\σ.length=σv.length/\o5 K ι H (evS φ x σ μ) E
def tSs (K:PySem.W.Frag) (φ:Phi) (x:Sms):TS:=λE σv H=>∃ι σ μ,Sim K ι H μ/\tj K ι H σ σv/\σ.length=σv.length/\o5 K ι H (qa φ x σ μ) E
theorem PS.imp {X:Cx} {e:Stmt} {t t':TS} (h:PS X e t) (i:∀E σ H,t' E σ H->t E σ H):PS X e t':=λpins s σ H E I q=>h pins s σ H E I (i E σ H q)
theorem PSs.imp {X:Cx} {e:List Stmt} {t t':TS} (h:PSs X e t) (i:∀E σ H,t' E σ H->t E σ H):PSs X e t':=λpins s σ H E I q=>h pins s σ H E I (i E σ H q)
section
variable {X : Cx} {φ : Phi} {e : Expr} {x : Ex} {pos : Pos} {s : Stmt} {ss : List Stmt} {xs : Sm} {xss : Sms}
theorem Z2:PSs X [] (tSs X.K φ .nil) :=
 PSs.imp R6 λE σv H ⟨ι,σ,μ,hS,hL,hl,h⟩=>by
  simp![qa]at h
  exact h ι σv H (AO _) (.refl _) hS hL hl
theorem Wi (h1:PS X s (tS X.K φ xs)) (h2:PSs X ss (tSs X.K φ xss)):PSs X (s::ss) (tSs X.K φ (.cons xs xss)) :=
 PSs.imp (Nc h1 h2) λE σv H ⟨ι,σ,μ,hS,hL,hl,h⟩=>by
  simp![qa]at h
  refine⟨ι,σ,μ,hS,hL,hl,?_⟩
  obtain⟨f,μ1,e1,h⟩:=h.bind
  rw[e1]
  cases f with
  | nx σ'=>exact λι1 σ1 H1 p1 x1 s1 l1 z1=>⟨ι1,σ',μ1,s1,l1,z1,(show o5 _ _ _ (qa φ xss σ' μ1) _ from h).mono p1 x1⟩
  | rt d=>exact h
  | bk σ'=>exact h
  | ct σ'=>exact h
theorem Wj (he:PE X e (tE X.K φ x)) (hs:swapsWith e none pos.line X.env=pure false):PS X (.Expr e pos) (tS X.K φ (.ex x)) :=
 PS.imp (R7 he hs) λE σv H ⟨ι,σ,μ,hS,hL,hl,h⟩=>by
  simp![evS]at h
  obtain⟨d,μ1,e1,h⟩:=h.bind
  refine⟨ι,σ,μ,hS,hL,?_⟩
  rw[e1]
  exact λι1 v H1 p1 x1 s1 d1=>h ι1 σv H1 p1 x1 s1 (hL.mono p1 x1) hl
theorem Z3 (he:PE X e (tE X.K φ x)):PS X (.Return (some e) pos) (tS X.K φ (.ret x)) :=
 PS.imp (Vn he) λE σv H ⟨ι,σ,μ,hS,hL,hl,h⟩=>by
  simp![evS]at h
  obtain⟨d,μ1,e1,h⟩:=h.bind
  refine⟨ι,σ,μ,hS,hL,?_⟩
  rw[e1]
  exact h
theorem acw {c:Expr} {xc:Ex} {a b:List Stmt} {xa xb:Sms} (hc:PT X c (tT X.K φ xc)) (ha:PSs X a (tSs X.K φ xa)) (hb:PSs X b (tSs X.K φ xb)):PS X (.If c a b pos) (tS X.K φ (.ite xc xa xb)) :=
 PS.imp (Y8 hc ha hb) λE σv H ⟨ι,σ,μ,hS,hL,hl,h⟩=>by
  simp![evS]at h
  obtain⟨d,μ1,e1,h⟩:=h.bind
  refine⟨ι,σ,μ,hS,hL,?_⟩
  rw[e1]
  cases d with
  | bl k =>
   intro ι1 x H1 p1 x1 s1 d1
   cases d1
   cases k with
   | true=>exact⟨ι1,σ,μ1,s1,hL.mono p1 x1,hl,(show o5 _ _ _ (qa φ xa σ μ1) _ from h).mono p1 x1⟩
   | false=>exact⟨ι1,σ,μ1,s1,hL.mono p1 x1,hl,(show o5 _ _ _ (qa φ xb σ μ1) _ from h).mono p1 x1⟩
  | _=>exact h.elim
def slots:Tg->List Nat
 | .one i=>[i]
 | .many is=>is
def tG (K:PySem.W.Frag) (tg:Tg):TG:=λv σv H Q=>∃ι σ d σ',tj K ι H σ σv/\σ.length=σv.length/\IsD K ι H d v/\gf tg d σ=some σ' /\
 ∀σv',tj K ι H σ' σv'->σ'.length=σv'.length->σv'.length=σv.length->(∀j,j∉slots tg->σv'[j]? = σv[j]?)->Q σv' H
theorem PG.imp {e:Expr} {t t':TG} (h:PG X e t) (i:∀v σ H Q,t' v σ H Q->t v σ H Q):PG X e t':=by
 intro pins s σ H x u Q I r q
 exact h pins s σ H x u Q I r (i _ _ _ _ q)
theorem Wk {i:Nat} {y:Str} (hN:X.N.Nodup) (hi:X.N[i]? = some y) (hx:Loc X.env.scope y) (hf:X.fn y=true\/X.env.scope.names.lookup y=some .local):PG X (.Name y pos) (tG X.K (.one i)) :=
 PG.imp (Ir hN hi hx hf) λv σv H Q ⟨ι,σ,d,σ',hL,hl,hd,hb,q⟩=>by
  simp![gf,BN]at hb
  subst hb
  exact q _ (hL.set hl hd) (by simp[hl]) (by simp) λj hj=>BR (λz=>hj (by simp[slots,z]))
def tGs (K:PySem.W.Frag) (is:List Nat):TGs:=λvs σv H Q=>∃ι σ ds,tj K ι H σ σv/\σ.length=σv.length/\ar K ι H ds vs/\ds.length=is.length /\
 ∀σv',tj K ι H ((is.zip ds).foldl (λs p=>s.set p.1 (some p.2)) σ) σv'->((is.zip ds).foldl (λs p=>s.set p.1 (some p.2)) σ).length=σv'.length->σv'.length=σv.length->(∀j,j∉is->σv'[j]? = σv[j]?)->Q σv' H
theorem PGs.imp {es:List Expr} {t t':TGs} (h:PGs X es t) (i:∀v σ H Q,t' v σ H Q->t v σ H Q):PGs X es t':=by
 intro pins s σ H vs us Q I r q
 exact h pins s σ H vs us Q I r (i _ _ _ _ q)
theorem Wl:PGs X [] (tGs X.K []) :=
 PGs.imp R9 λvs σv H Q ⟨ι,σ,ds,hL,hl,hd,hn,q⟩=>by
  have e:ds=[]:=EY.mp hn
  subst e
  exact⟨by simpa[ar]using hd,q σv (by simpa using hL) (by simpa using hl) rfl λ_ _=>rfl⟩
theorem S4 {i:Nat} {is:List Nat} {es:List Expr} (h1:PG X e (R8 i)) (h2:PGs X es (tGs X.K is)) (hs:(assignEach (e::es) X.env).map (·.2)=assign e X.env::(assignEach es X.env).map (·.2)):PGs X (e::es) (tGs X.K (i::is)) :=
 PGs.imp (Nd h1 h2 hs) λvs σv H Q ⟨ι,σ,ds,hL,hl,hd,hn,q⟩=>by
  cases ds with
  | nil=>simp at hn
  | cons d ds =>
   simp![ar]at hd
   obtain⟨v,r,e,hd1,hd2⟩:=hd
   refine⟨v,r,e,ι,σ.set i (some d),ds,hL.set hl hd1,by simp[hl],hd2,by simpa using hn,λσv' l z z2 ks=>q σv' (by simpa using l) (by simpa using z) (by simpa using z2) λj hj=>?_⟩
   have hj':j≠i/\j∉is:=by simpa using hj
   rw[ks j hj'.2,BR (Ne.symm hj'.1)]
theorem Z4 {is:List Nat} {es:List Expr} {k:Nat} (hc:X.calm=true) (h:PGs X es (tGs X.K is)) (hn:(assignEach es X.env).length=is.length) (hst:(assignEach es X.env).findIdx? (·.1)=none) :
  PG X (.Tuple es k pos) (tG X.K (.many is)) :=
 PG.imp (Vo hc h hn hst) λv σv H Q ⟨ι,σ,d,σ',hL,hl,hd,hb,q⟩=>by
  cases d with
  | tup ds =>
   simp![gf]at hb
   split at hb
   ·rename_i hlen
    cases hb
    simp![IsD]at hd
    obtain⟨a,xs,e,hq,hds⟩:=hd
    exact⟨a,xs,e,hq,hds.length.trans hlen,ι,σ,ds,hL,hl,hds,hlen,q⟩
   ·cases hb
  | _=>simp[gf]at hb
theorem Z5 {i:Nat} {y:Str} {pos':Pos} (hN:X.N.Nodup) (hi:X.N[i]? = some y) (hx:Loc X.env.scope y) (hf:X.fn y=true\/X.env.scope.names.lookup y=some .local) (he:PE X e (tE X.K φ x)) (hs:swapsWith e (some (.Name y pos')) pos.line X.env=pure false) :
  PS X (.Assign [.Name y pos'] e pos) (tS X.K φ (.set i x)) :=
 PS.imp (Vq hN hi hx he hs hf) λE σv H ⟨ι,σ,μ,hS,hL,hl,h⟩=>by
  simp![evS]at h
  obtain⟨d,μ1,e1,h⟩:=h.bind
  refine⟨ι,σ,μ,hS,hL,?_⟩
  rw[e1]
  exact λι1 v H1 p1 x1 s1 d1=>h ι1 _ H1 p1 x1 s1 ((hL.mono p1 x1).set hl d1) (by simp[hl])
theorem Z6 {is:List Nat} {tg:Expr} (hg:PG X tg (tG X.K (.many is))) (he:PE X e (tE X.K φ x)) (hs:swapsWithSole [tg] e pos.line X.env=pure false) (hw:swappedStores [tg] e X.env=pure none)
  (h1:(assignEach [tg] X.env).map (·.2)=[assign tg X.env]):PS X (.Assign [tg] e pos) (tS X.K φ (.unp is x)) :=
 PS.imp (Pu he hg hs hw h1) λE σv H ⟨ι,σ,μ,hS,hL,hl,h⟩=>by
  simp![evS]at h
  obtain⟨d,μ1,e1,h⟩:=h.bind
  refine⟨ι,σ,μ,hS,hL,?_⟩
  rw[e1]
  intro ι1 v H1 p1 x1 s1 d1
  split at h
  ·rename_i σ' eb
   exact⟨ι1,σ,d,σ',hL.mono p1 x1,hl,d1,eb,λσv' l z _ _=>h ι1 σv' H1 p1 x1 s1 l z⟩
  ·exact h.elim
def aa9 (K:PySem.W.Frag):TSet:=λo i v H Q=>∃ι a b d μ,Sim K ι H μ/\IsD K ι H a o/\IsD K ι H b i/\IsD K ι H d v/\i5 K (λ_ _ _ (_:Unit)=>True) ι H (ur a b d μ) λ_ H'=>Q H'
theorem Wm {o i:Expr} {xo xi:Ex} {tp:Pos} (hset:Yu X (aa9 X.K)) (ho:PE X o (tE X.K φ xo)) (hi:PE X i (tE X.K φ xi)) (he:PE X e (tE X.K φ x))
  (ha:∀v,assign (.Subscript o i tp) X.env v=(do
   let ov <-holding [v] (eval o X.env)
   let iv <-holding [v,ov] (eval i X.env)
   standAt tp
   holding [v,ov,iv] (setItem ov iv v)
   release [v,ov,iv] [])) (hs:swapsWithSole [.Subscript o i tp] e pos.line X.env=pure false) (hw:swappedStores [.Subscript o i tp] e X.env=pure none)
  (h1:(assignEach [.Subscript o i tp] X.env).map (·.2)=[assign (.Subscript o i tp) X.env]):PS X (.Assign [.Subscript o i tp] e pos) (tS X.K φ (.setx xo xi x)) :=
 PS.imp (Pu he (Vp ho hi hset ha) hs hw h1) λE σv H ⟨ι,σ,μ,hS,hL,hl,h⟩=>by
  simp![evS]at h
  obtain⟨d,μ1,e1,h⟩:=h.bind
  refine⟨ι,σ,μ,hS,hL,?_⟩
  rw[e1]
  intro ι1 v H1 p1 x1 s1 d1
  obtain⟨a,μ2,e2,h⟩:=h.bind
  refine⟨ι1,σ,μ1,s1,hL.mono p1 x1,?_⟩
  rw[e2]
  intro ι2 va H2 p2 x2 s2 d2
  obtain⟨b,μ3,e3,h⟩:=h.bind
  refine⟨ι2,σ,μ2,s2,(hL.mono p1 x1).mono p2 x2,?_⟩
  rw[e3]
  intro ι3 vb H3 p3 x3 s3 d3
  obtain⟨_,μ4,e4,h⟩:=h.bind
  refine⟨ι3,a,b,d,μ3,s3,IsD.mono p3 x3 _ _ d2,d3,IsD.mono p3 x3 _ _ (IsD.mono p2 x2 _ _ d1),?_⟩
  rw[e4]
  exact λι4 _ H4 p4 x4 s4 _=>h ι4 σv H4 (((p1.trans p2).trans p3).trans p4) (((x1.trans x2).trans x3).trans x4) s4 ((((hL.mono p1 x1).mono p2 x2).mono p3 x3).mono p4 x4) hl
structure Walk (K:PySem.W.Frag) (ι0:List Addr) (H0:Hp) (J:L2.It) (ds:List D) (g:Gd):Prop where
 len:ds.length<=sizeLine
 go:∀(i:Nat) ι H μ,ι0 <+: ι->Ext H0 H->Sim K ι H μ->gd g μ->i<ds.length->J.go i H
 yld:∀(i:Nat) ι H μ x H',ι0 <+: ι->Ext H0 H->Sim K ι H μ->gd g μ->i<ds.length->J.yld i H x H'->Ext H H'/\Sim K ι H' μ/\∃d,ds[i]? = some d/\IsD K ι H' d x
 stop:∀ι H μ,ι0 <+: ι->Ext H0 H->Sim K ι H μ->gd g μ->J.stop ds.length H
def tI (K:PySem.W.Frag) (φ:Phi) (it:It):TI:=λσv H R=>∃ι σ μ,Sim K ι H μ/\tj K ι H σ σv /\
 match evI φ it σ μ with
 | .ok (ds,g) μ'=>∀ι' H' J,ι <+: ι'->Ext H H'->Sim K ι' H' μ'->Walk K ι' H' J ds g->R J H'
 | _=>False
theorem PI.imp {tg it:Expr} {t t':TI} (h:PI X tg it t) (i:∀σ H R,t' σ H R->t σ H R):PI X tg it t':=λpins s σ H R I q=>h pins s σ H R I (i _ _ _ q)
theorem Z7 {tg it:Expr} {body:List Stmt} {xt:Tg} {xi:It} {xb:Sms} (hp:PassesOwn (model X.prog X.w) X.A X.env X.xe) (hc:X.calm=true) (hi:PI X tg it (tI X.K φ xi)) (hg:PG X tg (tG X.K xt)) (hb:PSs X body (tSs X.K φ xb))
  (hs:∀x,foldedSetIterable it X.env x=pure x):PS X (.For tg it body [] pos) (tS X.K φ (.loop xt xi xb)) :=
 PS.imp (Vr hp hc hi hg hb hs) λE σv H ⟨ι,σ,μ,hS,hL,hl,h⟩=>by
  simp![evS]at h
  obtain⟨⟨ds,g⟩,μ1,e1,h⟩:=h.bind
  refine⟨ι,σ,μ,hS,hL,?_⟩
  rw[e1]
  intro ι1 H1 J p1 x1 s1 wk
  refine⟨λi m σv' H'=>m=ds.length-i/\i<=ds.length/\∃ι' σ' μ',ι1 <+: ι'/\Ext H1 H'/\Sim X.K ι' H' μ'/\tj X.K ι' H' σ' σv'/\σ'.length=σv'.length /\
   o5 X.K ι' H' (kg g (λd σ μ=>qm (gf xt d σ) λσ'=>qa φ xb σ' μ) (ds.drop i) σ' μ') E,⟨ds.length,by simp,CS _,ι1,σ,μ1,AO _,.refl _,s1,hL.mono p1 x1,hl,?_⟩,?_⟩
  ·simpa using(show o5 _ _ _ (kg g _ ds σ μ1) _ from h).mono p1 x1
  ·rintro i m σv' H' ⟨rfl,hi,ι',σ',μ',p',x',s',l',z',h'⟩
   by_cases hlt:i<ds.length
   ·obtain⟨d,ed⟩:∃d,ds[i]? = some d:=⟨ds[i],AB hlt⟩
    have edrop:ds.drop i=d::ds.drop (i+1):=by
     rw[DU hlt]
     rw[AB hlt]at ed
     cases ed;rfl
    rw[edrop]at h'
    simp![kg]at h'
    split at h'
    ·rename_i hgd
     right
     refine⟨wk.go i ι' H' μ' p' x' s' hgd hlt,?_⟩
     obtain⟨fl,μ2,e2,h2⟩:=h'.bind
     refine⟨λσ2 H2=>ds.length-(i+1)<ds.length-i/\∃ι2 σs,ι1 <+: ι2/\Ext H1 H2/\Sim X.K ι2 H2 μ2/\tj X.K ι2 H2 σs σ2/\σs.length=σ2.length /\
      o5 X.K ι2 H2 (kg g (λd σ μ=>qm (gf xt d σ) λσ'=>qa φ xb σ' μ) (ds.drop (i+1)) σs μ2) E,?_,?_⟩
     ·rintro σ2 H2 ⟨_,ι2,σs,q1,q2,q3,q4,q5,q6⟩
      exact⟨ds.length-(i+1),by lia,rfl,hlt,ι2,σs,μ2,q1,q2,q3,q4,q5,q6⟩
     ·intro v H2 hy
      obtain⟨x2,s2,d',ed',hd'⟩:=wk.yld i ι' H' μ' v H2 p' x' s' hgd hlt hy
      rw[ed]at ed';cases ed'
      cases eb:gf xt d σ' with
      | none=>rw[eb]at e2;cases e2
      | some σb =>
       rw[eb]at e2
       refine⟨ι',σ',d,σb,l'.mono (AO _) x2,z',hd',eb,λσv2 l2 z2 _ _=>⟨ι',σb,μ',s2,l2,z2,?_⟩⟩
       have e2':qa φ xb σb μ'=.ok fl μ2:=e2
       rw[e2']
       cases fl with
       | nx σ3=>exact λι3 σv3 H3 p3 x3 s3 l3 z3=>⟨by lia,ι3,σ3,p'.trans p3,(x'.trans x2).trans x3,s3,l3,z3,(show o5 _ _ _ (kg g _ (ds.drop (i+1)) σ3 μ2) _ from h2).mono p3 (x2.trans x3)⟩
       | ct σ3=>exact λι3 σv3 H3 p3 x3 s3 l3 z3=>⟨by lia,ι3,σ3,p'.trans p3,(x'.trans x2).trans x3,s3,l3,z3,(show o5 _ _ _ (kg g _ (ds.drop (i+1)) σ3 μ2) _ from h2).mono p3 (x2.trans x3)⟩
       | bk σ3=>exact(show o5 _ _ _ (.ok (.nx σ3) μ2) _ from h2).mono (AO _) x2
       | rt w=>exact(show o5 _ _ _ (.ok (.rt w) μ2) _ from h2).mono (AO _) x2
    ·exact h'.elim
   ·have ei:i=ds.length:=by lia
    subst ei
    simp![HC,kg]at h'
    split at h'
    ·rename_i hgd
     exact .inl ⟨wk.stop ι' H' μ' p' x' s' hgd,h' ι' σv' H' (AO _) (.refl _) s' l' z'⟩
    ·exact h'.elim
end
theorem l6:lim=sizeLine:=by rw[P8];rfl
section
variable {X : Cx} {pins : List (Addr × Obj)} {σ : St} {H : Hp} {s : Shared} {φ : Phi}
theorem _root_.L2.Inv.freeze {p:Addr} {xs:List V} (I:Inv X pins σ H s) (h:H p=some (.lst xs)):∃o,Inv X pins σ (upd H p (.frz o (.lst xs))) s:=by
 have hp:=I.hok p _ h
 obtain⟨hz,its,n,hv,hget⟩:=id hp
 refine⟨{cls:=.type "list",data:=.seq its.toArray n},I.ok,I.os,I.bare,⟨I.base.keep,I.base.slot,λb o e hn hx=>?_,I.base.there,λb ys e=>?_,λb o u e=>?_,λb ps e=>?_⟩,I.loc,I.cell,?_,λx c e=>?_,λq hq=>?_,λb u e=>?_,I.len⟩
 ·have q:=I.base.free b o e hn hx
  rw[a8 (λz=>by subst z;rw[h]at q;cases q)]
  exact q
 ·have q:=I.base.tups b ys e
  rw[a8 (qw q h (by intro z;cases z))];exact q
 ·have q:=I.base.frzs b o u e
  rw[a8 (qw q h (by intro z;cases z))];exact q
 ·obtain⟨more,q⟩:=I.base.tbls b ps e
  exact⟨more,by rw[a8 (qw q h (by intro z;cases z))];exact q⟩
 ·rw[a8 (λz=>by rw[<-z,I.free]at h;cases h)];exact I.free
 ·rw[a8 (λz=>by rw[<-z,I.freeC x c e]at h;cases h)];exact I.freeC x c e
 ·obtain⟨e1,e2,e3⟩:=I.pin q hq
  refine⟨e1,?_,e3⟩
  rw[a8 (λz=>by rw[<-z,e2]at h;cases h)];exact e2
 ·by_cases hb:b=p
  ·subst hb
   rw[bf]at e;cases e
   exact⟨hget,hz,its,n,hv,hget⟩
  ·rw[a8 hb]at e
   refine(I.hok b u e).stay (λc v _ q=>q) (λc q=>?_) (λc ys q=>?_)
   ·rw[a8 (qw q h (by intro z;cases z))];exact q
   ·rw[a8 (qw q h (by intro z;cases z))];exact q
def FQ (Q:VK):VK:=λv H=>Q v H\/∃p xs,v=.ref p/\H p=some (.lst xs)/\∀o,Q v (upd H p (.frz o (.lst xs)))
theorem G9 {Q:VK} {u:Value} (h:EP X pins σ (FQ Q) u s):EP X pins σ Q u s:=by
 obtain⟨v,H',I,r,q⟩:=h
 rcases q with q | ⟨p,xs,rfl,e,q⟩
 ·exact⟨v,H',I,r,q⟩
 ·obtain⟨o,I'⟩:=L2.Inv.freeze I e
  exact⟨_,_,I',r,q o⟩
theorem E2 {A:Around} {E:Value->Shared->Prop} {M:Model} {t:Sem Value} {Q:VK} (h:wpAny M A t (EP X pins σ (FQ Q)) E s):wpAny M A t (EP X pins σ Q) E s:=thn h λ_ _ z=>G9 z
theorem PE.fq {e:Expr} {t:TE} (h:PE X e t):PE X e (λσ H Q=>t σ H (FQ Q)):=λpins s σ H Q I q=>thn (h pins s σ H _ I q) λ_ _ z=>G9 z
theorem gr.fq {f:Value} {r:List V->Hp->VK->Prop} (h:gr X f r):gr X f (λxs H Q=>r xs H (FQ Q)):=by
 intro pins s σ H xs us Q I rx q
 exact thn (h pins s σ H xs us _ I rx q) λ_ _ z=>G9 z
theorem SlR.fq {r:V->Option Int->Option Int->Hp->VK->Prop} (h:SlR X r):SlR X (λx l u H Q=>r x l u H (FQ Q)):=by
 intro pins s σ H x v vl vu lo hi sl Q I rx h1 h2 h3 q
 obtain⟨T,id,e1,e2,e3⟩:=h pins s σ H x v vl vu lo hi sl _ I rx h1 h2 h3 q
 exact⟨T,id,e1,e2,thn e3 λ_ _ z=>G9 z⟩
theorem mq {K:PySem.W.Frag} {ι:List Addr} {μ:Sto} {ds:List D} {xs:List V} {m:Mk} {Q:VK} {p:Addr} (hS:Sim K ι H μ) (hd:ar K ι H ds xs) (h:i5 K (RD K) ι H (mkL m ds μ) Q) (hp:H p=none) :
  FQ Q (.ref p) (upd H p (.lst xs)):=by
 cases m with
 | z =>
  refine .inr ⟨p,xs,rfl,bf,λo=>?_⟩
  rw[Ip]
  refine h ι (.ref p) _ (AO _) (.new hp) (hS.new hp) ?_
  show IsD _ _ _ _ _
  simp![IsD]
  exact⟨p,xs,rfl,.inl ⟨o,bf⟩,ar.mono (AO _) (.new hp) ds xs hd⟩
 | l =>
  simp![mkL]at h
  split at h
  ·rename_i hpure
   refine .inl (h (ι++[p]) (.ref p) _ ⟨[p],rfl⟩ (.new hp) (hS.push hp ⟨xs,bf,ar.pur hpure (ar.mono (AO _) (.new hp) ds xs hd)⟩) ?_)
   show IsD _ _ _ _ _
   simp![IsD]
   exact⟨p,rfl,by rw[<-hS.len];simp⟩
  ·exact h.elim
 | r =>
  simp![mkL]at h
  refine .inl (h (ι++[p]) (.ref p) _ ⟨[p],rfl⟩ (.new hp) (hS.push hp ⟨xs,bf,ar.mono ⟨[p],rfl⟩ (.new hp) ds xs hd⟩) ?_)
  show IsD _ _ _ _ _
  simp![IsD]
  exact⟨p,rfl,by rw[<-hS.len];simp⟩
theorem Z8 {es:List Expr} {xs:Exs} {m:Mk} {pos:Pos} (h:PA X es (tEs X.K φ xs)) (hl:∀σ μ ds μ',jh φ xs σ μ=.ok ds μ'->ds.length<=sizeLine):PE X (.List es pos) (tE X.K φ (.lst m xs)) :=
 PE.imp (PE.fq (Vw h)) λσv H Q ⟨ι,σ,μ,hS,hL,h⟩=>by
  simp![evE]at h
  obtain⟨ds,μ1,e1,h⟩:=h.bind
  refine⟨ι,σ,μ,hS,hL,?_⟩
  rw[e1]
  intro ι1 vs H1 p1 x1 s1 d1
  have hd:ar X.K ι1 H1 ds vs:=d1
  exact⟨by rw[hd.length];exact hl σ μ ds μ1 e1,λp hp=>mq s1 hd (h.mono p1 x1) hp⟩
theorem yi {K:PySem.W.Frag} {ι:List Addr} {μ:Sto} {d:D} {v:V} {ds:List D} (hS:Sim K ι H μ) (hd:IsD K ι H d v) (h:cv μ d=some ds) :
  ∃a xs,v=.ref a/\(LsL K H a xs\/SqT K H a xs)/\ar K ι H ds xs:=by
 cases d with
 | tup es =>
  cases h
  simp![IsD]at hd
  obtain⟨a,xs,e,q,r⟩:=hd
  exact⟨a,xs,e,.inr q,r⟩
 | lst es =>
  cases h
  simp![IsD]at hd
  obtain⟨a,xs,e,q,r⟩:=hd
  exact⟨a,xs,e,.inl (.inr q),r⟩
 | loc n =>
  simp![IsD]at hd
  obtain⟨a,e,q⟩:=hd
  simp![cv]at h
  split at h
  ·rename_i es em
   cases h
   obtain⟨a',q',ho⟩:=hS.at em
   rw[q]at q';cases q'
   obtain⟨xs,e1,e2⟩:=ho
   exact⟨a,xs,e,.inl (.inl e1),ar.mono (CN) (.refl _) _ _ e2⟩
  ·rename_i es em
   cases h
   obtain⟨a',q',ho⟩:=hS.at em
   rw[q]at q';cases q'
   obtain⟨xs,e1,e2⟩:=ho
   exact⟨a,xs,e,.inl (.inl e1),e2⟩
  ·cases h
 | _=>simp[cv]at h
theorem mr {K:PySem.W.Frag} {ι:List Addr} {μ:Sto} {d:D} {v:V} {ds:List D} (hS:Sim K ι H μ) (hd:IsD K ι H d v) (h:listOf μ d=some ds) :
  ∃a xs,v=.ref a/\LsL K H a xs/\ar K ι H ds xs:=by
 cases d with
 | lst es =>
  cases h
  simp![IsD]at hd
  obtain⟨a,xs,e,q,r⟩:=hd
  exact⟨a,xs,e,.inr q,r⟩
 | loc n =>
  simp![IsD]at hd
  obtain⟨a,e,q⟩:=hd
  simp![listOf]at h
  split at h
  ·rename_i es em
   cases h
   obtain⟨a',q',ho⟩:=hS.at em
   rw[q]at q';cases q'
   obtain⟨xs,e1,e2⟩:=ho
   exact⟨a,xs,e,.inl e1,ar.mono (CN) (.refl _) _ _ e2⟩
  ·rename_i es em
   cases h
   obtain⟨a',q',ho⟩:=hS.at em
   rw[q]at q';cases q'
   obtain⟨xs,e1,e2⟩:=ho
   exact⟨a,xs,e,.inl e1,e2⟩
  ·cases h
 | _=>simp[listOf]at h
theorem Z9 {i:Nat} {x:Str} {pos:Pos} (hN:X.N[i]? = some x) (hv:Vis X.env.scope x) (hd:(x==("__debug__":Str))=false) (hcd:(x==("__classdict__":Str))=false):PE X (.Name x pos) (tE X.K φ (.frz i)) :=
 PE.imp (PE.fq (yd hN hv hd hcd)) λσv H Q ⟨ι,σ,μ,hS,hL,h⟩=>by
  simp![evE]at h
  split at h
  ·rename_i n e
   obtain⟨v,e1,e2⟩:=hL i _ e
   refine⟨v,e1,?_⟩
   simp![IsD]at e2
   obtain⟨a,rfl,ha⟩:=e2
   split at h
   ·rename_i ds em
    obtain⟨a',q',ho⟩:=hS.at em
    rw[ha]at q';cases q'
    obtain⟨xs,f1,f2⟩:=ho
    refine .inr ⟨a,xs,rfl,f1,λo=>?_⟩
    refine h ι (.ref a) _ (AO _) (.lst f1) (hS.put ha (.lst f1) ⟨_,bf⟩) ?_
    show IsD _ _ _ _ _
    simp![IsD]
    exact⟨a,xs,rfl,.inl ⟨o,bf⟩,ar.mono (CN) (.lst f1) ds xs f2⟩
   ·rename_i ds em
    obtain⟨a',q',ho⟩:=hS.at em
    rw[ha]at q';cases q'
    obtain⟨xs,f1,f2⟩:=ho
    refine .inr ⟨a,xs,rfl,f1,λo=>?_⟩
    refine h ι (.ref a) _ (AO _) (.lst f1) (hS.put ha (.lst f1) ⟨_,bf⟩) ?_
    show IsD _ _ _ _ _
    simp![IsD]
    exact⟨a,xs,rfl,.inl ⟨o,bf⟩,ar.mono (AO _) (.lst f1) ds xs f2⟩
   ·exact h.elim
  ·exact h.elim
theorem OpR.imp {f:Value->Value->Sem Value} {r r':R2} (h:OpR X f r) (i:∀x y H Q,r' x y H Q->r x y H Q):OpR X f r':=λpins s σ H x y v u Q I rx ry q=>h pins s σ H x y v u Q I rx ry (i _ _ _ _ q)
theorem IxR.imp {r r':R2} (h:IxR X r) (i:∀x y H Q,r' x y H Q->r x y H Q):IxR X r':=λe1 e2 pins s σ H x y v u Q I rx ry q=>h e1 e2 pins s σ H x y v u Q I rx ry (i _ _ _ _ q)
theorem gr.imp {f:Value} {r r':List V->Hp->VK->Prop} (h:gr X f r) (i:∀xs H Q,r' xs H Q->r xs H Q):gr X f r':=λpins s σ H xs us Q I rx q=>h pins s σ H xs us Q I rx (i _ _ _ q)
theorem MtR.imp {id:String} {r r':V->List V->Hp->VK->Prop} (h:MtR X id r) (i:∀x xs H Q,r' x xs H Q->r x xs H Q):MtR X id r':=λpins s σ H x xs v us Q I rx rr q=>h pins s σ H x xs v us Q I rx rr (i _ _ _ _ q)
theorem Wn {K:PySem.W.Frag} {ι:List Addr} {ds:List D} {xs:List V} {i:Int} {j:Nat} {d:D} (h:ar K ι H ds xs) (hi:Lp.ixN ds.length i=some j) (hj:ds[j]? = some d):∃v,atI xs i=some v/\IsD K ι H d v:=by
 obtain⟨v,e,q⟩:=h.get hj
 refine⟨v,?_,q⟩
 unfold atI
 rw[h.length,show L2.ixN ds.length i=some j from hi]
 exact e
theorem aaa:IxR X (rOp X.K ixD):=IxR.imp V4 λx y H Q ⟨ι,d,e,μ,hS,hd,he,h⟩=>by
 unfold ixD at h
 split at h
 ·rename_i i
  have hy:y=.int i:=by simpa[IsD]using he
  subst hy
  split at h
  ·rename_i ds es
   obtain⟨a,xs,rfl,hq,hds⟩:=yi hS hd es
   split at h
   ·rename_i j ej
    split at h
    ·rename_i d' ed
     obtain⟨v,ev,hv⟩:=Wn hds ej ed
     have qv:=h.ok hS hv
     rcases hq with hq | hq
     ·exact .inl ⟨a,xs,i,v,rfl,rfl,hq.sq,ev,qv⟩
     ·exact .inr (.inl ⟨a,xs,i,v,rfl,rfl,hq,ev,qv⟩)
    ·exact h.elim
   ·exact h.elim
  ·exact h.elim
 ·exact h.elim
theorem Qd {K:PySem.W.Frag} {ι:List Addr} {ds:List D} {xs:List V} (h:ar K ι H ds xs) (lo hi:Option Int):ar K ι H (cut ds lo hi) (Pz xs lo hi):=by
 have e1:∀n d o,Lp.sIx n d o=HT.sIx n d o:=λn d o=>by cases o<;>rfl
 unfold cut Pz
 rw[h.length,e1,e1]
 exact(h.drop _).take _
end
def Il (env:Env):List (Str×NameKind)->List (Str×Addr)->List (Str×Addr)
 | [],acc=>acc
 | (n,k)::r,acc=>Il env r (if k==.free then(n,(env.cells.lookup n).getD 0)::acc else acc)
def ui (env:Env) (x:Str×NameKind) (cs:List (Str×Addr)):Sem (ForInStep (List (Str×Addr))):=match x with
 | (name,kind)=>if kind==.free then(do let a <-cellOf env name;pure (ForInStep.yield ((name,a)::cs)))else pure (ForInStep.yield cs)
theorem tw {env:Env}:∀(names:List (Str×NameKind)) (acc:List (Str×Addr)),(∀n,(n,NameKind.free)∈names->∃c,env.cells.lookup n=some c) ->
  forIn names acc (ui env)=pure (Il env names acc)
 | [],acc,_=>rfl
 | (n,k)::r,acc,h=>by
  rw[GH]
  by_cases hk:k=.free
  ·subst hk
   obtain⟨c,hc⟩:=h n AQ
   have e:ui env (n,.free) acc=pure (ForInStep.yield ((n,c)::acc)):=by
    simp![ui,cellOf,hc,beq_self_eq_true,if_true]
    rfl
   rw[e]
   refine Eq.trans (b:=forIn r ((n,c)::acc) (ui env)) rfl ?_
   rw[tw r ((n,c)::acc) λm hm=>h m (AH _ hm)]
   simp[Il,hc]
  ·have hb:(k==NameKind.free)=false:=by simpa using hk
   have e:ui env (n,k) acc=pure (ForInStep.yield acc):=by
    unfold ui
    simp![hb,AS,if_false]
   rw[e]
   refine Eq.trans (b:=forIn r acc (ui env)) rfl ?_
   rw[tw r acc λm hm=>h m (AH _ hm)]
   simp[Il,hb]
theorem yj {env:Env} {scope:Scope} (h:∀n,(n,NameKind.free)∈scope.names->∃c,env.cells.lookup n=some c):closureFor scope env=pure (Il env scope.names []):=by
 have e:=tw (env:=env) scope.names [] h
 have e2:closureFor scope env=(forIn scope.names [] (ui env)>>=λcs=>pure cs):=rfl
 rw[e2,e]
 rfl
theorem u5 {env:Env}:∀(names:List (Str×NameKind)) (acc:List (Str×Addr)) (x:Str) (c:Addr),(∀n,(n,NameKind.free)∈names->∃c,env.cells.lookup n=some c)->(Il env names acc).lookup x=some c->acc.lookup x=some c\/env.cells.lookup x=some c
 | [],acc,x,c,_,h=>.inl h
 | (n,k)::r,acc,x,c,hh,h=>by
  rcases u5 r _ x c (λm hm=>hh m (AH _ hm)) h with q | q
  ·by_cases hk:k=.free
   ·subst hk
    obtain⟨c',hc⟩:=hh n AQ
    simp![beq_self_eq_true,if_true,EZ]at q
    by_cases hx:x=n
    ·subst hx
     simp![beq_self_eq_true,hc,FA,BN]at q
     subst q
     exact .inr hc
    ·have hb:(x==n)=false:=beq_eq_false_iff_ne.mpr hx
     rw[hb]at q
     exact .inl q
   ·have hb:(k==NameKind.free)=false:=by simpa using hk
    simp![hb,AS,if_false]at q
    exact .inl q
  ·exact .inr q
theorem Bh {env:Env}:∀(names:List (Str×NameKind)) (acc:List (Str×Addr)) (x:Str),(∃c,acc.lookup x=some c)->∃c,(Il env names acc).lookup x=some c
 | [],acc,x,h=>h
 | (n,k)::r,acc,x,h=>by
  refine Bh r _ x ?_
  by_cases hk:(k==NameKind.free)=true
  ·rw[if_pos hk,EZ]
   cases hx:x==n with
   | true=>exact⟨_,rfl⟩
   | false=>exact h
  ·rw[if_neg hk];exact h
theorem zm {env:Env}:∀(names:List (Str×NameKind)) (acc:List (Str×Addr)) (x:Str),(x,NameKind.free)∈names->∃c,(Il env names acc).lookup x=some c
 | [],acc,x,h=>by cases h
 | (n,k)::r,acc,x,h=>by
  rcases AL.mp h with e | e
  ·cases e
   refine Bh r _ n ?_
   exact⟨(env.cells.lookup n).getD 0,by simp⟩
  ·exact zm r _ x e
def rg (X:Cx) (scope:Scope) (Nb:List Str) (C:Addr) (s:Shared) (H:Hp) (fp:List Addr):Cx :=
 {X with N:=Nb,s₀:=s,H₀:=H,env:=compEnvC scope (Il X.env scope.names []) C X.env,outer:=X.stack,stack:=X.stack,ex:=fp,fn:=λ_=>false,pn:=[],xe:=λ_ _=>False}
structure CompScope (sc scope:Scope) (N Nb:List Str) (cap:List Nat) (nl:Nat):Prop where
 kind:scope.kind=.function
 nocell:∀y∈scope.names,y.2≠.cell
 uniq:∀y∈scope.names,scope.names.lookup y.1=some y.2
 free:∀n,(n,NameKind.free)∈scope.names->sc.names.lookup n=some .cell\/sc.names.lookup n=some .free
 fnames:∀n,(relabel scope {scope:=sc,locals:=0,globals:=0,cells:=[]}).names.lookup n=some .cell\/(relabel scope {scope:=sc,locals:=0,globals:=0,cells:=[]}).names.lookup n=some .free->(n,NameKind.free)∈scope.names
 nd:Nb.Nodup
 len:Nb.length=cap.length+nl
 capt:∀(j:Nat) i,cap[j]? = some i->∃x,Nb[j]? = some x/\N[i]? = some x/\(x,NameKind.free)∈scope.names
theorem Ha (scope:Scope) (env env':Env) (h:env.scope=env'.scope):relabel scope env=relabel scope env':=by
 unfold relabel Env.kindOf
 rw[h]
section
variable {X : Cx} {pins : List (Addr × Obj)} {σ : St} {H : Hp} {s : Shared} {scope : Scope} {Nb : List Str} {cap : List Nat} {nl : Nat}
def nc (cap:List Nat) (nl:Nat) (σ:St):St:=cap.map (λi=>(σ[i]?).getD none)++List.replicate nl none
theorem Jo {fp:List Addr} {h':Heap} {tk:Nat} {C:Addr} {m:Str->Option Value} {D:Addr} {n0:Nat} (I:Inv X pins σ H s) (S:CompScope X.env.scope scope X.N Nb cap nl)
  (hf:∀b∈fp,Gu X pins H b) (hfp:∀b∈fp,∃o,s.heap.get? b=some o) (hk:∀b o,s.heap.get? b=some o->h'.get? b=some o) (hC:s.heap.objs.size<=C) (hD:s.heap.objs.size<=D) (hDC:D≠C)
  (hns:h'.Ns C m) (hm:∀x,m x=none) (hDo:h'.get? D=some {cls:=.type "list",data:=.seq #[] n0}) :
  Inv (rg X scope Nb C s H fp) [(D,{cls:=.type "list",data:=.seq #[] n0})] (nc cap nl σ) H {s with heap:=h',toks:=tk}:=by
 have hcells:∀n,(n,NameKind.free)∈scope.names->∃c,X.env.cells.lookup n=some c:=λn hn=>by
  rcases S.free n hn with e | e
  ·exact I.ok.has n (.inl e)
  ·exact I.ok.has n (.inr e)
 have sub:∀x c,(Il X.env scope.names []).lookup x=some c->X.env.cells.lookup x=some c:=λx c e=>by
  rcases u5 scope.names [] x c hcells e with q | q
  ·cases q
  ·exact q
 have hlt:∀b∈fp,b<s.heap.objs.size:=λb hb=>let ⟨o,e⟩:=hfp b hb;AM e
 have hrel:relabel scope X.env=relabel scope {scope:=X.env.scope,locals:=0,globals:=0,cells:=[]}:=Ha _ _ _ rfl
 have hcm:∀x c,X.env.cells.lookup x=some c->c<s.heap.objs.size:=λx c e=>let ⟨v,q⟩:=I.cell x c e;q.lt
 refine⟨⟨I.ok.mod,by show(relabel scope X.env).kind=_;unfold relabel;exact S.kind,I.ok.glob,I.ok.blt,hC,λx y c e1 e2=>I.ok.inj x y c (sub x c e1) (sub y c e2),λx hx=>?_,λx c hfn=>?_,I.ok.hd,I.ok.frames,.inl rfl,
  λb hb=>⟨AT (AX (hlt b hb) hC),λx c e=>(hf b hb).2.2.2.2.1 x c (sub x c e)⟩,I.bs,CL I.ok.bsz I.sz,λb o e hb=>?_,λb hb hb2=>?_,I.stack,I.stkFree⟩,
  rfl,I.bare,Un.kept hk,⟨m,hns,λi x v e1 e2 e3=>?_⟩,λx c e=>?_,I.hok.fresh hC,λx c e=>I.freeC x c (sub x c e),λp hp=>?_,I.hok.kept hk,?_⟩
 ·have hx':(relabel scope {scope:=X.env.scope,locals:=0,globals:=0,cells:=[]}).names.lookup x=some .cell\/(relabel scope {scope:=X.env.scope,locals:=0,globals:=0,cells:=[]}).names.lookup x=some .free:=by
   rw[<-hrel];exact hx
  exact zm scope.names [] x (S.fnames x hx')
 ·cases hfn
 ·rcases(hf b hb).2.2.2.1 with z | z
  ·exact I.ok.noex b o e z
  ·have:=AM e
   exact absurd (AX this (CL I.ok.bsz z)) (DN _)
 ·rcases AL.mp (I.stkSub b hb2)with z | z
  ·exact(hf b hb).2.1 z
  ·exact(hf b hb).2.2.1 z
 ·-- a captured name
  have hi:i<cap.length:=by
   by_cases hi:i<cap.length
   ·exact hi
   ·unfold nc at e2
    rw[BQ (by simpa using hi),EA]at e2
    split at e2<;>cases e2
  unfold nc at e2
  rw[AV (by simpa using hi),AW,AB hi]at e2
  simp![JS,BN]at e2
  obtain⟨y,q1,q2,q3⟩:=S.capt i _ (AB hi)
  have ey:y=x:=CH (q1.symm.trans e1)
  subst ey
  have e4:σ[cap[i]]? = some (some v):=by
   cases e5:σ[cap[i]]? with
   | none=>rw[e5]at e2;cases e2
   | some w=>rw[e5]at e2;simp at e2;rw[e2]
  obtain⟨m0,hn0,hl0⟩:=I.loc
  have hkind:X.env.kindOf y=some .cell\/X.env.kindOf y=some .free:=S.free y q3
  obtain⟨u,r,l⟩:=hl0 _ y v q2 e4 (by rcases hkind with z | z;exact .inr (.inl z);exact .inr (.inr z))
  refine⟨u,r,.inr ?_⟩
  rcases l with⟨z,_⟩ | ⟨_,c,ec,hc⟩
  ·rcases hkind with w | w<;>(rw[w]at z;cases z)
  ·obtain⟨c',ec'⟩:=zm (env:=X.env) scope.names [] y q3
   have:c'=c:=by have:=sub y c' ec';rw[ec]at this;cases this;rfl
   subst this
   obtain⟨o,ho,hd⟩:=hc
   refine⟨?_,c',ec',o,hk _ _ ho,hd⟩
   -- a free name is seen as a cell or as free
   have hv:(rg X scope Nb C s H fp).env.kindOf y=some .local\/(rg X scope Nb C s H fp).env.kindOf y=some .cell\/(rg X scope Nb C s H fp).env.kindOf y=some .free:=e3
   rcases hv with z | z | z
   ·exfalso
    have hl:(relabel scope X.env).names.lookup y=some .local:=z
    have mem:∀(l:List (Str×NameKind)) (y:Str),(l.map fun(n,k)=>if(k==NameKind.free&&X.env.scope.kind==.function&&X.env.kindOf n==some .cell)then(n,NameKind.cell)else(n,k)).lookup y=some .local->l.lookup y=some .local:=by
     intro l
     induction l with
     | nil=>intro y h;simp at h
     | cons a r ih =>
      obtain⟨n,k⟩:=a
      intro y h
      simp![AR]at h
      rw[EZ]
      by_cases hc:(k==NameKind.free&&X.env.scope.kind==.function&&X.env.kindOf n==some .cell)=true
      ·rw[if_pos hc,EZ]at h
       cases hy:y==n with
       | true=>rw[hy]at h;cases h
       | false=>rw[hy]at h;exact ih y h
      ·rw[if_neg hc,EZ]at h
       cases hy:y==n with
       | true=>rw[hy]at h;exact h
       | false=>rw[hy]at h;exact ih y h
    have hloc:=mem scope.names y hl
    rw[S.uniq (y,NameKind.free) q3]at hloc
    cases hloc
   ·exact .inl z
   ·exact .inr z
 ·obtain⟨v,o,ho,hd⟩:=I.cell x c (sub x c e)
  exact⟨v,o,hk _ _ ho,hd⟩
 ·have e:p=(D,{cls:=.type "list",data:=.seq #[] n0}):=by
   have:p∈([]:List (Addr×Obj))++[(D,{cls:=.type "list",data:=.seq #[] n0})]:=hp
   simpa using this
  subst e
  refine⟨hDo,I.hok.fresh hD,hDC,λz=>?_,λv z=>by cases z⟩
  have z':D∈frs X.stack:=z
  rcases AL.mp (I.stkSub D z')with w | w
  ·exact absurd (AX I.lt hD) (by rw[w];exact DN _)
  ·exact I.nofs hD w
 ·show(nc cap nl σ).length=Nb.length
  rw[S.len];simp[nc]
end
abbrev C7 (ifs:List Expr) (env:Env) (b:Bool):Sem Bool:=forIn ifs b λc r=>if r=true then do let ok <-isTrue c env (eval c env);pure (ForInStep.yield ok)else pure (ForInStep.yield r)
def PTs (X:Cx) (ifs:List Expr) (t:TT):Prop :=
 ∀(pins:List (Addr×Obj)) (s:Shared) (σ:St) (H:Hp) (Q:Bool->Hp->Prop),Inv X pins σ H s->t σ H Q->wpAny (model X.prog X.w) X.A (C7 ifs X.env true) (TP X pins σ Q) X.xe s
theorem vn {M:Model} {A:Around} {E:Value->Shared->Prop} {env:Env} {Q:Bool->Shared->Prop}:∀(ifs:List Expr) {s:Shared},Q false s->wpAny M A (C7 ifs env false) Q E s
 | [],s,h=>AE h
 | c::r,s,h=>by
  show wpAny M A (forIn (c::r) false _) Q E s
  rw[GH]
  exact AA (AE (vn r h))
def tTsNil:TT:=λ_ H Q=>Q true H
def S5 (t u:TT):TT:=λσ H Q=>t σ H λb H1=>if b=true then u σ H1 Q else Q false H1
theorem S6 {X:Cx}:PTs X [] tTsNil:=λpins s σ H Q I h=>AE ⟨H,I,h⟩
theorem Nz {X:Cx} {c:Expr} {r:List Expr} {t u:TT} (h1:PT X c t) (h2:PTs X r u):PTs X (c::r) (S5 t u):=λpins s σ H Q I h=>by
 show wpAny _ _ (forIn (c::r) true _) _ _ s
 rw[GH]
 refine AA (AA (thn (h1 pins s σ H _ I h) λb s1 ⟨H1,I1,q1⟩=>AE ?_))
 cases b with
 | true=>exact h2 pins s1 σ H1 Q I1 q1
 | false=>exact vn r ⟨H1,I1,q1⟩
def Kept (σ σ':St):Prop:=σ.length=σ'.length/\∀(i:Nat) v,σ[i]? = some (some v)->σ'[i]? = some (some v)
def S7 (wi:TI) (g:TG) (ts:TT) (te:TE) (σb:St->St):TE:=λσ H Q=>wi σ H λJ H1=>∃W:Nat->Nat->Hp->List V->Prop,(∃m,W 0 m H1 [])/\∀i m H acc,W i m H acc ->
 (J.stop i H/\acc.length<=sizeLine/\∀p,H p=none->Q (.ref p) (upd H p (.lst acc))) \/
 (J.go i H/\acc.length<sizeLine/\∀x H',J.yld i H x H'->g x (σb σ) H' λσ2 H2=>Kept (σb σ) σ2/\ts σ2 H2 λb H3=>if b=true then te σ2 H3 λv H4=>∃m',m'<m/\W (i+1) m' H4 (acc++[v])else ∃m',m'<m/\W (i+1) m' H3 acc)
section
variable {X : Cx} {scope : Scope} {Nb : List Str} {cap : List Nat} {nl : Nat}
theorem _root_.L2.HOk.track {P:Program} {w:World} {H:Hp} {h:Heap} {p:Addr} {o:HO} (x:HOk P w H h) (hp:H p=none) (new:ji P w (upd H p o) h p o):HOk P w (upd H p o) h:=λb u e=>by
 by_cases hb:b=p
 ·subst hb;rw[bf]at e;cases e;exact new
 ·rw[a8 hb]at e
  exact(x b u e).stay (λc v _ q=>q) (λc q=>by rw[a8 (de q hp)];exact q) λc xs q=>by rw[a8 (de q hp)];exact q
theorem Jp {prog:Program} {w:World} {A:Around} {R:Result->Shared->Prop} {s:Shared} {elt target iter:Expr} {ifs:List Expr} {pos:Pos} {it acc:Value} {env:Env} (I:Nat->Shared->Prop)
  (turn:∀n s,I n s->wpAny (model prog w) A (pyNext it) (λr s₁=>match r with
   | none=>R (.ok .next) s₁
   | some v=>wpAny (model prog w) A (letOwnedTupleGo target it v) (λ_ s₀=>wpAny (model prog w) A (assign target env v) (λ_ s₂ =>
     wpAny (model prog w) A (C7 ifs env true) (λok s₃ =>
      if ok=true then wpAny (model prog w) A (eval elt env) (λx s₄ =>
       wpAny (model prog w) A (call (.builtin "list.append") [acc,x]) (λ_ s₅=>∃m,m<n/\I m s₅) (λ_ _=>False) s₄) (λ_ _=>False) s₃
      else ∃m,m<n/\I m s₃) (λ_ _=>False) s₂) (λ_ _=>False) s₀) (λ_ _=>False) s₁) (λ_ _=>False) s)
  (n:Nat) (h:I n s) :
  codeAny (model prog w) A (.compLoop (.ListComp elt [⟨target,iter,ifs,0⟩] scope pos) 0 it acc env) R s:=by
 refine codeAny_loop rfl I (λn s hI=>?_) n h
 show wpAny _ A ((compTurn (.ListComp elt [⟨target,iter,ifs,0⟩] scope pos) 0 it acc env).onRaise (λx=>do noteFrame x env;theTreesLotGoes x)) _ _ s
 refine wpAny_noted ?_
 rw[compTurn_list]
 have no:∀{α:Type} {t:Sem α} {Q:α->Shared->Prop} {E:Value->Shared->Prop} {s:Shared},wpAny (model prog w) A t Q (λ_ _=>False) s->wpAny (model prog w) A t Q E s:=λh=>EJ h (λ_ _ q=>q) λ_ _ q=>q.elim
 refine AA (wpAny_standAt (AA (EJ (turn n s hI) (λr s₁ h₁=>?_) λ_ _ h'=>h'.elim)))
 cases r with
 | none=>exact AE h₁
 | some v =>
  refine AA (EJ h₁ (λ_ s₀ h₀=>?_) λ_ _ h'=>h'.elim)
  refine AA (EJ h₀ (λ_ s₂ h₂=>AA (EJ h₂ (λok s₃ h₃=>?_) λ_ _ h'=>h'.elim)) λ_ _ h'=>h'.elim)
  cases ok with
  | false=>exact AE ⟨rfl,h₃⟩
  | true =>
   exact AA (AA (EJ h₃ (λx s₄ h₄=>AA (EJ h₄ (λ_ s₅ h₅=>AE (AE ⟨rfl,h₅⟩)) λ_ _ h'=>h'.elim)) λ_ _ h'=>h'.elim))
def C8 (X:Cx) (scope:Scope) (Nb:List Str) (target:Expr) (ifs:List Expr) (elt:Expr) (g:TG) (ts:TT) (te:TE):Prop :=
 ∀C s H fp,PG (rg X scope Nb C s H fp) target g/\PTs (rg X scope Nb C s H fp) ifs ts/\PE (rg X scope Nb C s H fp) elt te
theorem yk {elt target iter:Expr} {ifs:List Expr} {pos:Pos} {g:TG} {ts:TT} {te:TE} {pins:List (Addr×Obj)} {σ:St} {H:Hp} {s:Shared} {it:Addr} {fp:List Addr} {tn:Nat->Heap->Prop} {J:L2.It} {Q:VK} {E:Value->Shared->Prop} {use:Option (Value->Sem Unit)} {QQ:Value->Shared->Prop}
  (S:CompScope X.env.scope scope X.N Nb cap nl) (hc:X.calm=true) (B:C8 X scope Nb target ifs elt g ts te) (I:Inv X pins σ H s) (T:Turn X.prog X.w X.K target J fp it tn) (t0:tn 0 s.heap) (hf:∀b∈fp,Gu X pins H b)
  (h:∃W:Nat->Nat->Hp->List V->Prop,(∃m,W 0 m H [])/\∀i m H acc,W i m H acc ->
   (J.stop i H/\acc.length<=sizeLine/\∀p,H p=none->Q (.ref p) (upd H p (.lst acc))) \/
   (J.go i H/\acc.length<sizeLine/\∀x H',J.yld i H x H'->g x (nc cap nl σ) H' λσ2 H2=>Kept (nc cap nl σ) σ2/\ts σ2 H2 λb H3=>if b=true then te σ2 H3 λv H4=>∃m',m'<m/\W (i+1) m' H4 (acc++[v])else ∃m',m'<m/\W (i+1) m' H3 acc))
  (hQ:∀(D C:Addr) (s':Shared) m,s.heap.objs.size<=C->(∀h',Heap.SameBut C s'.heap h'->EP X pins σ (λv H=>H C=none/\Q v H) (.ref D) {s' with heap:=h'})->s'.heap.Ns C m->compPost (model X.prog X.w) X.A E use QQ (.ref D) C (.ok .next) s') :
  wpAny (model X.prog X.w) X.A (newList []) (λacc s₃=>wpAny (model X.prog X.w) X.A (newFunctionEnv scope X.env.globals (Il X.env scope.names []) [] X.env.qual none .none (some X.env)) (λcenv s₄ =>
   codeAny (model X.prog X.w) X.A (.compStart (.ListComp elt [⟨target,iter,ifs,0⟩] scope pos) 0 (.ref it) acc {cenv with scope:=relabel scope X.env}) (compPost (model X.prog X.w) X.A E use QQ acc cenv.locals) s₄) E s₃) E s:=by
 refine BZ (wpAny_newFunctionEnv S.nocell (by intro y hy;simp at hy) (λh₁ hns₁ hsb₁=>?_) S.kind)
 dsimp only at hns₁ hsb₁ ⊢
 generalize hH2:s.heap.push {cls:=.type "list",dict:=none,data:=.seq ([]:List Value).toArray}=H2 at hns₁ hsb₁ ⊢
 have hC:H2.objs.size=s.heap.objs.size+1:=by rw[<-hH2,DF]
 have hDC:s.heap.objs.size≠H2.objs.size:=by rw[hC];exact AT (HD _)
 have hCle:s.heap.objs.size<=H2.objs.size:=by rw[hC];exact EF _
 have old:∀b o,s.heap.get? b=some o->h₁.get? b=some o:=λb o e=>hsb₁.extBut b o (by rw[hC];exact AT (DP (AM e))) (AC _ (hH2 ▸ AC _ e))
 have hDo:h₁.get? s.heap.objs.size=some {cls:=.type "list",data:=.seq #[]}:=hsb₁.extBut _ _ hDC (AC _ (hH2 ▸ AJ _ rfl))
 have hfp:∀b∈fp,∃o,s.heap.get? b=some o:=λb hb=>let ⟨o,e,_⟩:=T.obj 0 _ t0 b hb;⟨o,e⟩
 have hlt:∀b∈fp,b<s.heap.objs.size:=λb hb=>let ⟨o,e⟩:=hfp b hb;AM e
 obtain⟨W,⟨m0,w0⟩,turn⟩:=h
 obtain⟨BG,BT,BE⟩:=B H2.objs.size s H fp
 have I4:=Jo (tk:=s.toks+([]:List (Str×Value)).length) I S hf hfp old hCle (AI _) hDC hns₁ (λx=>by simp) hDo
 have hcells:∀n,(n,NameKind.free)∈scope.names->∃c,X.env.cells.lookup n=some c:=λn hn=>by
  rcases S.free n hn with e | e
  ·exact I.ok.has n (.inl e)
  ·exact I.ok.has n (.inr e)
 -- what the iterator's objects are to the block
 have stat:∀{H':Hp},(∀b∈fp,H' b=none)->∀b∈fp,Gu (rg X scope Nb H2.objs.size s H fp) [] H' b:=λhn b hb=>by
  refine⟨hn b hb,AT (AX (hlt b hb) hCle),λz=>?_,.inl hb,λx c e=>?_,λp hp=>absurd (show p∈([]:List (Addr×Obj))++[]from hp) (by simp)⟩
  ·rcases AL.mp (I.stkSub b z)with z | z
   ·exact(hf b hb).2.1 z
   ·exact(hf b hb).2.2.1 z
  ·rcases u5 scope.names [] x c hcells e with q | q
   ·cases q
   ·exact(hf b hb).2.2.2.2.1 x c q
 have loop:∀s₃:Shared,s₃={s with heap:=h₁,toks:=s.toks+([]:List (Str×Value)).length} ->
   codeAny (model X.prog X.w) X.A (.compLoop (.ListComp elt [⟨target,iter,ifs,0⟩] scope pos) 0 (.ref it) (.ref s.heap.objs.size) (compEnvC scope (Il X.env scope.names []) H2.objs.size X.env))
    (compPost (model X.prog X.w) X.A E use QQ (.ref s.heap.objs.size) H2.objs.size) s₃:=by
  rintro s₃ rfl
  refine Jp (λn s'=>∃i H' acc its n',Inv (rg X scope Nb H2.objs.size s H fp) [] (nc cap nl σ) H' s'/\tn i s'.heap/\(∀b∈fp,H' b=none)/\H' s.heap.objs.size=none /\
   s'.heap.get? s.heap.objs.size=some {cls:=.type "list",data:=.seq (its:List Value).toArray n'}/\cz acc its/\W i n H' acc) ?_ m0
   ⟨0,H,[],[],_,I4.pins_of (λp hp=>absurd hp (by simp)),T.keep _ _ _ t0 λb hb o e=>old b o e,λb hb=>(hf b hb).1,I.hok.fresh (AI _),hDo,.nil,w0⟩
  rintro n s5 ⟨i,H5,acc,its,n5,I5,t5,f5,hD5,hget5,hv5,w5⟩
  rcases turn i n H5 acc w5 with⟨stop,hz,q⟩ | ⟨go,hz,q⟩
  ·refine thn (T.done (rg X scope Nb H2.objs.size s H fp) rfl rfl rfl hc i [(s.heap.objs.size,{cls:=.type "list",data:=.seq its.toArray n5})] s5 _ H5 _ (I5.pins_of ?_) ?_ t5 stop) λr s6 ⟨hr,I6⟩=>?_
   ·intro p hp
    have e:p=(s.heap.objs.size,{cls:=.type "list",data:=.seq its.toArray n5}):=by simpa using hp
    subst e
    refine⟨hget5,hD5,hDC,λz=>?_,λv z=>by cases z⟩
    rcases AL.mp (I.stkSub _ (show s.heap.objs.size∈frs X.stack from z))with w | w
    ·exact absurd I.lt (by rw[<-w];exact DN _)
    ·exact I.nofs (AI _) w
   ·intro b hb
    obtain⟨a1,a2,a3,a4,a5,a6⟩:=stat f5 b hb
    refine⟨a1,a2,a3,a4,a5,λp hp=>?_⟩
    have e:p=(s.heap.objs.size,{cls:=.type "list",data:=.seq its.toArray n5}):=by
     have:p∈([]:List (Addr×Obj))++[(s.heap.objs.size,{cls:=.type "list",data:=.seq its.toArray n5})]:=hp
     simpa using this
    subst e
    exact λz=>absurd (hlt b hb) (by rw[<-z];exact DN _)
   ·subst hr
    have hget6:=(I6.pin (s.heap.objs.size,{cls:=.type "list",data:=.seq its.toArray n5}) (by show _∈([]:List (Addr×Obj))++_;simp)).1
    obtain⟨m6,hn6,_⟩:=I6.loc
    refine hQ _ _ s6 m6 hCle (λh' hs'=>?_) hn6
    have hk6:∀b o,b≠H2.objs.size->s6.heap.get? b=some o->h'.get? b=some o:=λb o hb e=>hs'.extBut b o hb e
    have hgetD:=hk6 _ _ hDC hget6
    have Cn:H5 H2.objs.size=none:=I6.free
    have hok':HOk X.prog X.w H5 h':=λb u e=>by
     refine(I6.hok b u e).stay (λc v hcc q=>hk6 c v ?_ q) (λ_ q=>q) λ_ _ q=>q
     rcases hcc with z | z
     ·rintro rfl;rw[<-z]at e;rw[Cn]at e;cases e
     ·rintro rfl;rw[Cn]at z;cases z
    refine⟨.ref s.heap.objs.size,upd H5 s.heap.objs.size (.lst acc),?_,rfl,by rw[a8 (Ne.symm hDC)];exact Cn,q _ hD5⟩
    have hU:Un (frs X.stack) fp H H5 s.heap s6.heap:=I6.base
    have nC:∀b o,s.heap.get? b=some o->b≠H2.objs.size:=λb o e=>AT (AX (AM e) hCle)
    have nD:∀b o,s.heap.get? b=some o->b≠s.heap.objs.size:=λb o e=>AT (AM e)
    refine I.call' (s':={s6 with heap:=h'}) (ch:=fp) (by show s6.os=s.os;exact I6.os) ⟨λb o e nn hb hx=>hk6 b o (nC b o e) (hU.keep b o e nn hb hx),λb o e nn hb hx=>?_,λb o e nn hx=>?_,λb o e hx=>?_,λb xs e=>?_,λb o u e=>?_,λb ps e=>?_⟩ ?_ I6.bare ?_
    ·obtain⟨sl,e2⟩:=hU.slot b o e nn hb hx
     exact⟨sl,hk6 b _ (nC b o e) e2⟩
    ·rw[a8 (nD b o e)];exact hU.free b o e nn hx
    ·obtain⟨o',e2⟩:=hU.there b o e hx
     exact⟨o',hk6 b _ (nC b o e) e2⟩
    ·have e2:=hU.tups b xs e
     rw[a8 (de e2 hD5)];exact e2
    ·have e2:=hU.frzs b o u e
     rw[a8 (de e2 hD5)];exact e2
    ·obtain⟨more,e2⟩:=hU.tbls b ps e
     exact⟨more,by rw[a8 (de e2 hD5)];exact e2⟩
    ·exact L2.HOk.track hok' hD5 ⟨hz,its,n5,hv5,hgetD⟩
    ·intro b hb
     obtain⟨a1,a2,a3,a4,a5,a6⟩:=hf b hb
     exact⟨a4,a2,a5,a6⟩
  ·-- one more turn
   have notfs:s.heap.objs.size∉frs X.stack:=λz=>by
    rcases AL.mp (I.stkSub _ z)with w | w
    ·exact absurd I.lt (by rw[<-w];exact DN _)
    ·exact I.nofs (AI _) w
   have I5':Inv (rg X scope Nb H2.objs.size s H fp) [(s.heap.objs.size,{cls:=.type "list",data:=.seq its.toArray n5})] (nc cap nl σ) H5 s5:=I5.pins_of λp hp=>by
    have e:p=(s.heap.objs.size,{cls:=.type "list",data:=.seq its.toArray n5}):=by simpa using hp
    subst e
    exact⟨hget5,hD5,hDC,notfs,λv z=>by cases z⟩
   have stat':∀{H':Hp},(∀b∈fp,H' b=none)->∀b∈fp,Gu (rg X scope Nb H2.objs.size s H fp) [(s.heap.objs.size,{cls:=.type "list",data:=.seq its.toArray n5})] H' b:=λhn b hb=>by
    obtain⟨a1,a2,a3,a4,a5,a6⟩:=stat hn b hb
    refine⟨a1,a2,a3,a4,a5,λp hp=>?_⟩
    have e:p=(s.heap.objs.size,{cls:=.type "list",data:=.seq its.toArray n5}):=by
     have:p∈([]:List (Addr×Obj))++[(s.heap.objs.size,{cls:=.type "list",data:=.seq its.toArray n5})]:=hp
     simpa using this
    subst e
    exact λz=>absurd (hlt b hb) (by rw[<-z];exact DN _)
   refine thn (T.item (rg X scope Nb H2.objs.size s H fp) rfl rfl rfl hc i _ s5 _ H5 (λ_ _=>False) I5' (stat' f5) t5 go) λr s6 ⟨u,hr,h6⟩=>?_
   subst hr
   refine thn h6 λ_ s7 ⟨x,H7,I7,r7,y7,t7,f7⟩=>?_
   have I7':=I7.pinned (stat' f7) (T.obj _ _ t7)
   have back:∀{σ':St} {H':Hp} {s':Shared},Inv (rg X scope Nb H2.objs.size s H fp) ([(s.heap.objs.size,{cls:=.type "list",data:=.seq its.toArray n5})]++A2 fp s7.heap) σ' H' s' ->
     tn (i+1) s'.heap/\(∀b∈fp,H' b=none)/\H' s.heap.objs.size=none/\s'.heap.get? s.heap.objs.size=some {cls:=.type "list",data:=.seq its.toArray n5}:=λ{σ' H' s'} J'=>by
    have pD:=J'.pin (s.heap.objs.size,{cls:=.type "list",data:=.seq its.toArray n5}) (by show _∈([]:List (Addr×Obj))++_;simp)
    refine⟨T.keep _ _ _ t7 λb hb o e=>(J'.pin (b,o) (CC _ (CC _ (p8 hb e)))).1,λb hb=>?_,pD.2.1,pD.1⟩
    obtain⟨o,e,d⟩:=T.obj _ _ t7 b hb
    exact(J'.pin (b,o) (CC _ (CC _ (p8 hb e)))).2.1
   refine thn (BG _ s7 _ H7 x u _ I7' r7 (q x H7 y7)) λ_ s8 ⟨σ8,H8,I8,ks,q8⟩=>?_
   refine thn (BT _ s8 σ8 H8 _ I8 q8) λok s9 ⟨H9,I9,q9⟩=>?_
   cases ok with
   | false =>
    obtain⟨m',hm',w9⟩:∃m',m'<n/\W (i+1) m' H9 acc:=q9
    obtain⟨b1,b2,b3,b4⟩:=back I9
    exact⟨m',hm',i+1,H9,acc,its,n5,(I9.weak ks.1 ks.2).pins_of (λp hp=>absurd hp (by simp)),b1,b2,b3,b4,hv5,w9⟩
   | true =>
    refine thn (BE _ s9 σ8 H9 _ I9 q9) λxv s10 ⟨v,H10,I10,r10,m',hm',w10⟩=>?_
    obtain⟨b1,b2,b3,b4⟩:=back I10
    have hl5:=hv5.length
    refine wpAny_list_append_plain (items:=its.toArray) ⟨n5,b4⟩ (λh' hpl hs'=>?_) (by rw[AG,<-hl5];exact FD hz)
    obtain⟨n6,hg6⟩:=hpl
    have I11:Inv (rg X scope Nb H2.objs.size s H fp) [] (nc cap nl σ) H10 {s10 with heap:=h'}:=by
     have I10':=(I10.weak ks.1 ks.2).pins_of (pins':=[]) (λp hp=>absurd hp (by simp))
     refine I10'.turned (t':=s10.toks) (it:=s.heap.objs.size) (λb o hb e=>hs'.extBut b o hb e) b3 hDC (.inr (AI _)) (λx c e=>?_) (λp hp=>absurd (show p∈([]:List (Addr×Obj))++[]from hp) (by simp))
     rcases u5 scope.names [] x c hcells e with q | q
     ·cases q
     ·obtain⟨v,hcc⟩:=I.cell x c q
      exact AT hcc.lt
    refine⟨m',hm',i+1,H10,acc++[v],its++[xv],n6,I11,?_,b2,b3,by rw[hg6];simp,hv5.append (.cons r10 .nil),w10⟩
    exact T.keep _ _ _ b1 λb hb o e=>hs'.extBut b o (AT (hlt b hb)) e
 exact codeAny_compStart_list (loop _ rfl) (T.self X.A 0 _ _ _ (T.keep _ _ _ t0 λb hb o e=>old b o e) (loop _ rfl))
theorem S8 {elt target iter:Expr} {ifs:List Expr} {pos:Pos} {wi:TI} {g:TG} {ts:TT} {te:TE} (S:CompScope X.env.scope scope X.N Nb cap nl) (hc:X.calm=true) (hi:PI X target iter wi) (B:C8 X scope Nb target ifs elt g ts te)
  (hs:∀x,foldedSetIterable iter X.env x=pure x):PE X (.ListComp elt [⟨target,iter,ifs,0⟩] scope pos) (S7 wi g ts te (nc cap nl)):=by
 intro pins s σ H Q I h
 rw[eval_ListComp]
 have hcells:∀n,(n,NameKind.free)∈scope.names->∃c,X.env.cells.lookup n=some c:=λn hn=>by
  rcases S.free n hn with e | e
  ·exact I.ok.has n (.inl e)
  ·exact I.ok.has n (.inr e)
 refine wpAny_comprehension_free (use:=none) rfl hs (yj hcells) S.kind (λy hy hl=>by rw[S.uniq y hy,hl]) ?_
 refine thn (hi pins s σ H _ I h) λv s1 h1=>thn h1 λitv s2 ⟨it,fp,tn,J,H2,e,I2,T,t2,f2,hW⟩=>?_
 subst e
 exact yk (Q:=Q) (QQ:=EP X pins σ Q) S hc B I2 T t2 f2 hW λD C s' m _ hq hn=>⟨m,hn,λh' hs'=>let ⟨v,H',I',r,q⟩:=hq h' hs';⟨v,H',I',r,q.2⟩⟩
theorem Hb {elt target iter:Expr} {ifs:List Expr} {pos spos py:Pos} {y:Str} {i:Nat} {wi:TI} {g:TG} {ts:TT} {te:TE} (S:CompScope X.env.scope scope X.N Nb cap nl) (hc:X.calm=true) (hi:PI X target iter wi) (B:C8 X scope Nb target ifs elt g ts te)
  (hs:∀x,foldedSetIterable iter X.env x=pure x) (hsw:swapsWith (.ListComp elt [⟨target,iter,ifs,0⟩] scope pos) (some (.Name y py)) spos.line X.env=pure true)
  (hN:X.N.Nodup) (hiN:X.N[i]? = some y) (hy:X.env.scope.names.lookup y=some .local) :
  PS X (.Assign [.Name y py] (.ListComp elt [⟨target,iter,ifs,0⟩] scope pos) spos) (λE σ H=>S7 wi g ts te (nc cap nl) σ H (FQ λv H1=>E.nx (σ.set i (some v)) H1)):=by
 intro pins s σ H E I h
 rw[exec_Assign_Name_used _ _ _ _ hsw]
 have hcells:∀n,(n,NameKind.free)∈scope.names->∃c,X.env.cells.lookup n=some c:=λn hn=>by
  rcases S.free n hn with e | e
  ·exact I.ok.has n (.inl e)
  ·exact I.ok.has n (.inr e)
 refine AA (wpAny_standAt (AA ?_))
 show wpAny _ _ (comprehension _ scope X.env _ (newList []) false (eval iter X.env) (some (assign (.Name y py) X.env))>>=λ_=>pure ()) _ _ _
 refine AA (wpAny_comprehension_free (use:=some (assign (.Name y py) X.env)) rfl hs (yj hcells) S.kind (λz hz hl=>by rw[S.uniq z hz,hl]) ?_)
 refine thn (hi pins s σ H _ I h) λv s1 h1=>thn h1 λitv s2 ⟨it,fp,tn,J,H2,e,I2,T,t2,f2,hW⟩=>?_
 subst e
 refine yk (Q:=FQ λv H1=>E.nx (σ.set i (some v)) H1) S hc B I2 T t2 f2 hW λD C s' m hC hq hn=>?_
 obtain⟨v,H',I',r,hCn,q⟩:=hq s'.heap (.refl ..)
 have hep:∃H',Inv X pins σ H' s'/\H' C=none/\E.nx (σ.set i (some v)) H':=by
  rcases q with q | ⟨p,xs,rfl,e,q⟩
  ·exact⟨H',I',hCn,q⟩
  ·obtain⟨o,I''⟩:=L2.Inv.freeze I' e
   exact⟨_,I'',by rw[a8 (λz=>by rw[z,e]at hCn;cases hCn)];exact hCn,q o⟩
 obtain⟨H',I',hCn,q⟩:=hep
 have hCL:C≠X.env.locals:=CU (AX I2.lt hC)
 show wpAny _ _ (assign (.Name y py) X.env (.ref D)) _ _ s'
 refine wpAny_assign_Name (A1 I' hN hiN (.inl hy) r (λs'' I'' ⟨a,hsb,ha⟩=>?_) (.inr hy))
 have haC:C≠a:=by
  rcases ha with z | z
  ·rw[z];exact hCL
  ·obtain⟨w,hc⟩:=I2.cell y a z
   exact CU (AX hc.lt hC)
 refine⟨m,hn.sameBut hsb haC,λh' hs'=>?_⟩
 refine AE (AE ⟨_,H',?_,q⟩)
 refine I''.turned (t':=s''.toks) (it:=C) (λb o hb e=>hs'.extBut b o hb e) hCn hCL (.inr (CL I2.sz hC)) (λx c e=>?_) (λp hp=>?_)
 ·obtain⟨w,hc⟩:=I2.cell x c e
  exact AT (AX hc.lt hC)
 ·exact AT (AX (AM (I2.pin p hp).1) hC)
end
def tTs (K:PySem.W.Frag) (φ:Phi) (x:Exs):TT:=λσv H Q=>∃ι σ μ,Sim K ι H μ/\tj K ι H σ σv/\i5 K RB ι H (G8 φ x σ μ) Q
section
variable {X : Cx} {φ : Phi} {scope : Scope} {Nb : List Str} {cap : List Nat} {nl : Nat}
theorem PTs.imp {ifs:List Expr} {t t':TT} (h:PTs X ifs t) (i:∀σ H Q,t' σ H Q->t σ H Q):PTs X ifs t':=λpins s σ H Q I q=>h pins s σ H Q I (i σ H Q q)
theorem Wo:PTs X [] (tTs X.K φ .nil):=PTs.imp S6 λσv H Q ⟨ι,σ,μ,hS,hL,h⟩=>by
 simp![G8]at h
 exact h.ok hS rfl
theorem S9 {c:Expr} {r:List Expr} {xc:Ex} {xr:Exs} (h1:PT X c (tT X.K φ xc)) (h2:PTs X r (tTs X.K φ xr)):PTs X (c::r) (tTs X.K φ (.cons xc xr)):=PTs.imp (Nz h1 h2) λσv H Q ⟨ι,σ,μ,hS,hL,h⟩=>by
 simp![G8]at h
 obtain⟨d,μ1,e1,h⟩:=h.bind
 refine⟨ι,σ,μ,hS,hL,?_⟩
 rw[e1]
 cases d with
 | bl k =>
  intro ι1 x H1 p1 x1 s1 d1
  cases d1
  cases k with
  | true=>exact⟨ι1,σ,μ1,s1,hL.mono p1 x1,(show i5 _ _ _ _ (G8 φ xr σ μ1) _ from h).mono p1 x1⟩
  | false=>exact h ι1 false H1 p1 x1 s1 rfl
 | _=>exact h.elim
theorem N0 {K:PySem.W.Frag} {ι:List Addr} {H:Hp} {σ:Sl} {σv:St} (hL:tj K ι H σ σv):tj K ι H (cap.map (λi=>(σ[i]?).getD none)++List.replicate nl none) (nc cap nl σv):=λj d e=>by
 by_cases hj:j<cap.length
 ·rw[AV (by simpa using hj),AW,AB hj]at e
  simp![JS,BN]at e
  have e4:σ[cap[j]]? = some (some d):=by
   cases e5:σ[cap[j]]? with
   | none=>rw[e5]at e;cases e
   | some w=>rw[e5]at e;simp at e;rw[e]
  obtain⟨v,q1,q2⟩:=hL _ _ e4
  refine⟨v,?_,q2⟩
  unfold nc
  rw[AV (by simpa using hj),AW,AB hj]
  simp[q1]
 ·rw[BQ (by simpa using hj),EA]at e
  split at e<;>cases e
theorem N1 {σv σv':St} {tg:Tg} (hs:∀j∈slots tg,cap.length<=j) (hl:σv'.length=(nc cap nl σv).length) (h:∀j,j∉slots tg->σv'[j]? = (nc cap nl σv)[j]?):Kept (nc cap nl σv) σv':=by
 refine⟨hl.symm,λi v e=>?_⟩
 have hi:i<cap.length:=by
  by_cases hi:i<cap.length
  ·exact hi
  ·unfold nc at e
   rw[BQ (by simpa using hi),EA]at e
   split at e<;>cases e
 rw[h i λz=>absurd (hs i z) (by lia)]
 exact e
theorem Bi {m:Mk} {tg:Tg} {it:It} {cs:Exs} {elt:Ex} {σv:St} {H:Hp} {Q:VK} (hs:∀j∈slots tg,cap.length<=j) (h:tE X.K φ (.comp m cap nl tg it cs elt) σv H Q) :
  S7 (tI X.K φ it) (tG X.K tg) (tTs X.K φ cs) (tE X.K φ elt) (nc cap nl) σv H (FQ Q):=by
 obtain⟨ι,σ,μ,hS,hL,h⟩:=h
 simp![evE]at h
 obtain⟨⟨ds,g⟩,μ1,e1,h⟩:=h.bind
 refine⟨ι,σ,μ,hS,hL,?_⟩
 rw[e1]
 intro ι1 H1 J p1 x1 s1 wk
 refine⟨λi k H' acc=>k=ds.length-i/\i<=ds.length/\acc.length<=i/\∃ι' μ' ys,ι1 <+: ι'/\Ext H1 H'/\Sim X.K ι' H' μ'/\ar X.K ι' H' ys acc /\
  i5 X.K (RD X.K) ι' H' ((mapR g (λd μ=>qm (gf tg d (cap.map (λi=>(σ[i]?).getD none)++List.replicate nl none)) λσ' =>
    (G8 φ cs σ' μ).bind λb μ=>if b=true then(evE φ elt σ' μ).bind λx μ=>.ok [x] μ else .ok [] μ) (ds.drop i) μ').bind λxs μ=>mkL m (ys++xs) μ) Q,
  ⟨ds.length,by simp,CS _,AI _,ι1,μ1,[],AO _,.refl _,s1,by simp[ar],?_⟩,?_⟩
 ·simpa using h.mono p1 x1
 ·rintro i k H' acc ⟨rfl,hi,hacc,ι',μ',ys,p',x',s',hys,h'⟩
  have wl:=wk.len
  by_cases hlt:i<ds.length
  ·obtain⟨d,ed⟩:∃d,ds[i]? = some d:=⟨ds[i],AB hlt⟩
   have edrop:ds.drop i=d::ds.drop (i+1):=by
    rw[DU hlt]
    rw[AB hlt]at ed
    cases ed;rfl
   rw[edrop]at h'
   simp![mapR]at h'
   split at h'
   ·rename_i hgd
    right
    refine⟨wk.go i ι' H' μ' p' x' s' hgd hlt,by lia,λv H2 hy=>?_⟩
    obtain⟨x2,s2,d',ed',hd'⟩:=wk.yld i ι' H' μ' v H2 p' x' s' hgd hlt hy
    rw[ed]at ed';cases ed'
    rw[Res.bind_assoc]at h'
    cases eb:gf tg d (cap.map (λi=>(σ[i]?).getD none)++List.replicate nl none)with
    | none=>rw[eb]at h';exact h'.elim
    | some σb =>
     rw[eb]at h'
     simp![qz]at h'
     have hLb:=N0 (cap:=cap) (nl:=nl) ((hL.mono (p1.trans p') (x1.trans x')).mono (AO _) x2)
     refine⟨ι',_,d,σb,hLb,?_,hd',eb,λσv2 l2 z2 z3 k2=>⟨N1 hs z3 k2,ι',σb,μ',s2,l2,?_⟩⟩
     ·simp[nc]
     ·rw[Res.bind_assoc]at h'
      obtain⟨b,μ2,e2,h2⟩:=h'.bind
      rw[e2]
      intro ι3 b' H3 p3 x3 s3 d3
      cases d3
      cases b with
      | false =>
       refine⟨ds.length-(i+1),by lia,rfl,hlt,by lia,ι3,μ2,ys,p'.trans p3,(x'.trans x2).trans x3,s3,ar.mono p3 (x2.trans x3) _ _ hys,?_⟩
       have h3:=h2.mono p3 (x2.trans x3)
       simpa[Res.bind_assoc]using h3
      | true =>
       simp![if_true]at h2 ⊢
       rw[Res.bind_assoc]at h2
       obtain⟨y,μ3,e3,h3⟩:=h2.bind
       refine⟨ι3,σb,μ2,s3,l2.mono p3 x3,?_⟩
       rw[e3]
       intro ι4 w H4 p4 x4 s4 d4
       refine⟨ds.length-(i+1),by lia,rfl,hlt,by simp;lia,ι4,μ3,ys++[y],(p'.trans p3).trans p4,((x'.trans x2).trans x3).trans x4,s4,(ar.mono (p3.trans p4) ((x2.trans x3).trans x4) _ _ hys).append (.one d4),?_⟩
       have h4:=h3.mono (p3.trans p4) ((x2.trans x3).trans x4)
       simpa[Res.bind_assoc]using h4
   ·exact h'.elim
  ·have ei:i=ds.length:=by lia
   subst ei
   simp![HC,mapR]at h'
   split at h'
   ·rename_i hgd
    refine .inl ⟨wk.stop ι' H' μ' p' x' s' hgd,by lia,λp hp=>mq s' hys (by simpa using h') hp⟩
   ·exact h'.elim
theorem Wp {e target iter:Expr} {ifs:List Expr} {pos:Pos} {m:Mk} {tg:Tg} {it:It} {cs:Exs} {elt:Ex} (S:CompScope X.env.scope scope X.N Nb cap nl) (hc:X.calm=true) (hi:PI X target iter (tI X.K φ it))
  (B:C8 X scope Nb target ifs e (tG X.K tg) (tTs X.K φ cs) (tE X.K φ elt)) (hf:∀x,foldedSetIterable iter X.env x=pure x) (hs:∀j∈slots tg,cap.length<=j) :
  PE X (.ListComp e [⟨target,iter,ifs,0⟩] scope pos) (tE X.K φ (.comp m cap nl tg it cs elt)) :=
 PE.imp (PE.fq (S8 S hc hi B hf)) λσv H Q h=>Bi hs h
theorem Jq {e target iter:Expr} {ifs:List Expr} {pos spos py:Pos} {y:Str} {i:Nat} {m:Mk} {tg:Tg} {it:It} {cs:Exs} {elt:Ex} (S:CompScope X.env.scope scope X.N Nb cap nl) (hc:X.calm=true) (hi:PI X target iter (tI X.K φ it))
  (B:C8 X scope Nb target ifs e (tG X.K tg) (tTs X.K φ cs) (tE X.K φ elt)) (hf:∀x,foldedSetIterable iter X.env x=pure x) (hs:∀j∈slots tg,cap.length<=j)
  (hsw:swapsWith (.ListComp e [⟨target,iter,ifs,0⟩] scope pos) (some (.Name y py)) spos.line X.env=pure true) (hN:X.N.Nodup) (hiN:X.N[i]? = some y) (hy:X.env.scope.names.lookup y=some .local) :
  PS X (.Assign [.Name y py] (.ListComp e [⟨target,iter,ifs,0⟩] scope pos) spos) (tS X.K φ (.set i (.comp m cap nl tg it cs elt))) :=
 PS.imp (Hb S hc hi B hf hsw hN hiN hy) λE σv H ⟨ι,σ,μ,hS,hL,hl,h⟩=>by
  refine Bi (m:=m) (Q:=λv H1=>E.nx (σv.set i (some v)) H1) hs ?_
  simp![evS]at h
  obtain⟨d,μ1,e1,h⟩:=h.bind
  refine⟨ι,σ,μ,hS,hL,?_⟩
  rw[e1]
  exact λι1 v H1 p1 x1 s1 d1=>h ι1 _ H1 p1 x1 s1 ((hL.mono p1 x1).set hl d1) (by simp[hl])
end
section
variable {X : Cx} {φ : Phi}
theorem jq {K:PySem.W.Frag} {ι:List Addr} {H:Hp} {ds:List D} {v:V} (h:IsD K ι H (.tup ds) v):∃a xs,v=.ref a/\SqT K H a xs/\ar K ι H ds xs:=by
 simpa[IsD]using h
theorem tup_is {K:PySem.W.Frag} {ι:List Addr} {H:Hp} {ds:List D} {a:Addr} {xs:List V} (h:SqT K H a xs) (h2:ar K ι H ds xs):IsD K ι H (.tup ds) (.ref a):=by
 simp![IsD]
 exact⟨a,xs,rfl,h,h2⟩
theorem f6 {K:PySem.W.Frag} {ι:List Addr} {H:Hp} {i:Int} {v:V} (h:IsD K ι H (.int i) v):v=.int i:=by simpa[IsD]using h
theorem Bj {K:PySem.W.Frag} {ι:List Addr} {H:Hp} {i:Bool} {v:V} (h:IsD K ι H (.bl i) v):v=.bl i:=by simpa[IsD]using h
theorem zo {K:PySem.W.Frag} {ι:List Addr} {H:Hp} {μ:Sto} {ds:List D} {xs:List V} {Q:VK} {p:Addr} (hS:Sim K ι H μ) (hd:ar K ι H ds xs) (h:i5 K (RD K) ι H (.ok (.tup ds) μ) Q) (hp:H p=none):Q (.ref p) (upd H p (.tup xs)) :=
 h ι (.ref p) _ (AO _) (.new hp) (hS.new hp) (tup_is (.of bf) (ar.mono (AO _) (.new hp) ds xs hd))
theorem Jr {pins:List (Addr×Obj)} {s:Shared} {σ:St} {H:Hp} {l b:Addr} {xs zs:List V} {Q:VK} (I:Inv X pins σ H s) (hl:LsL X.K H l xs) (hb:LsL X.K H b zs) (hz:xs.length+zs.length<=sizeLine)
  (q:∀p,H p=none->Q (.ref p) (upd H p (.lst (xs++zs)))):wpAny (model X.prog X.w) X.A (binaryOp .Add (.ref l) (.ref b)) (EP X pins σ Q) X.xe s:=by
 obtain⟨z,its,n,r,hl,e⟩:=I.ls hl
 obtain⟨z2,its2,n2,r2,hl2,e2⟩:=I.ls hb
 refine PySem.P.add_list e e2 ?_ (by rw[AG,AG];lia)
 have ea:its.toArray++its2.toArray=(its++its2).toArray:=by simp
 rw[ea]
 exact⟨.ref _,_,I.lnew (t':=s.toks) (r.append r2) (by rw[BU];lia),rfl,q _ I.fresh⟩
theorem N2 {pins:List (Addr×Obj)} {s:Shared} {σ:St} {H:Hp} {l:Addr} {k:Int} {t:Tok} {xs:List V} {Q:VK} (I:Inv X pins σ H s) (hH:LsL X.K H l xs) (h1:-(2 ^ 63)<=k) (h2:k<2 ^ 63) (hz:xs.length*k.toNat<=sizeLine)
  (q:∀p,H p=none->Q (.ref p) (upd H p (.lst (List.replicate k.toNat xs).flatten))):wpAny (model X.prog X.w) X.A (binaryOp .Mult (.ref l) (.int k t)) (EP X pins σ Q) X.xe s:=by
 obtain⟨z,its,n,r,hl,e⟩:=I.ls hH
 have hlen:its.toArray.size*k.toNat<=sizeLine:=by rw[AG,<-hl];exact hz
 have hcap:¬its.toArray.size*k.toNat > (2 ^ 63-1) / 8:=by
  have:(sizeLine:Nat)<=(2 ^ 63-1) / 8:=by decide
  lia
 have hfit:¬(!Builtin.List.listFitsIndex k)=true:=by
  rw[fitsIndex_both h1 h2]
  exact BA
 have hlong:¬Builtin.List.listTooLong (its.toArray.size*k.toNat)=true:=by
  rw[Nm hlen]
  exact BA
 have hnew:List.foldl (λx1 x2=>x1++x2) #[] (List.replicate (if its.toArray.isEmpty=true then 0 else k.toNat) its.toArray)=(List.replicate k.toNat its).flatten.toArray:=by
  have f0:∀m:Nat,List.foldl (λx1 x2=>x1++x2) #[] (List.replicate m its.toArray)=(List.replicate m its).flatten.toArray:=λm=>by
   have:=foldl_rep its m []
   rw[HP]at this
   exact this
  rw[f0]
  cases its with
  | nil=>simp
  | cons a r'=>rw[if_neg (by simp)]
 refine wpAny_binaryOp_repeat_ref (T:="list") (U:="int") (by decide) ⟨_,e,rfl⟩ (λs'=>typeIs_int s' k t) noFill_list_mul F.fills_int_mul F.slot_int_rmul repeat_list F.slot_int_index.lookup
  (FT F.slot_int_rmul (typeIs_int s k t) F.entry_int_rmul (F.args_int_rmul_2 _ _) (int___rmul___int_list k t l its.toArray n)
   ⟨e,rfl,⟨_,e,rfl⟩,FT F.slot_list_mul ⟨_,e,rfl⟩ F.entry_list_mul (F.args_list_mul_2 _ _) (AutoListH.list___mul___list_int_3 l its.toArray n k t hfit hcap hlong) ⟨e,?_⟩⟩)
 rw[hnew]
 exact⟨.ref _,_,I.lnew (t':=s.toks) (r.rep k.toNat) (by rw[len_rep,Nat.mul_comm];exact hz),rfl,q _ I.fresh⟩
theorem Ta {pins:List (Addr×Obj)} {s:Shared} {σ:St} {H:Hp} {a b:Addr} {ys:List V} {Q:VK} (I:Inv X pins σ H s) (ha:SqT X.K H a []) (hb:SqT X.K H b ys) (q:Q (.ref b) H) :
  wpAny (model X.prog X.w) X.A (binaryOp .Add (.ref a) (.ref b)) (EP X pins σ Q) X.xe s:=by
 obtain⟨its,r1,p1,_⟩:=I.tuple ha
 obtain⟨its2,r2,p2,_⟩:=I.tuple hb
 have e1:its=[]:=by cases r1;rfl
 subst e1
 obtain⟨⟨cls,dd,data,sl⟩,ho,hc,n,hd⟩:=id p1
 obtain⟨⟨cls2,dd2,data2,sl2⟩,ho2,hc2,n2,hd2⟩:=id p2
 simp only at hc hd hc2 hd2
 subst hc hd hc2 hd2
 exact concat_meets ⟨_,ho,rfl⟩ ⟨_,ho2,rfl⟩ IZ seq_tuple_add GQ GK (Gt _ _)
   (tuple_addW0 a b ([]:List Value).toArray its2.toArray n n2 dd dd2 sl sl2 (by simp)) ⟨ho,ho2,⟨.ref b,H,I,rfl,q⟩⟩
theorem Wq {op:Operator} {m:Mk}:OpR X (binaryOp op) (rOp X.K (opD op m)):=by
 intro pins s σ H x y v u Q I rx ry ⟨ι,d,e,μ,hS,hd,he,h⟩
 unfold opD at h
 split at h
 ·rename_i i j
  cases f6 hd
  cases f6 he
  unfold opI at h
  split at h
  ·exact op_add pins s σ H _ _ v u Q I rx ry ⟨i,j,rfl,rfl,h.ok hS (by simp[IsD])⟩
  ·exact op_sub pins s σ H _ _ v u Q I rx ry ⟨i,j,rfl,rfl,h.ok hS (by simp[IsD])⟩
  ·split at h
   ·rename_i hc
    exact op_mul pins s σ H _ _ v u Q I rx ry ⟨i,j,rfl,rfl,hc,h.ok hS (by simp[IsD])⟩
   ·exact h.elim
  ·split at h
   ·rename_i hc
    exact Sa pins s σ H _ _ v u Q I rx ry ⟨i,j,rfl,rfl,hc,h.ok hS (by simp[IsD])⟩
   ·exact h.elim
  ·split at h
   ·rename_i hc
    exact op_mod pins s σ H _ _ v u Q I rx ry ⟨i,j,rfl,rfl,hc,h.ok hS (by simp[IsD])⟩
   ·exact h.elim
  ·split at h
   ·rename_i hc
    exact op_pow pins s σ H _ _ v u Q I rx ry ⟨i,j,rfl,rfl,hc,h.ok hS (by simp[IsD])⟩
   ·exact h.elim
  ·split at h
   ·rename_i hc
    exact op_shr pins s σ H _ _ v u Q I rx ry ⟨i,j,rfl,rfl,hc,h.ok hS (by simp[IsD])⟩
   ·exact h.elim
  ·exact h.elim
 ·rename_i xs ys
  split at h
  ·split at h
   ·rename_i hz
    obtain⟨a,vs,rfl,ha,hvs⟩:=jq hd
    obtain⟨b,ws,rfl,hb,hws⟩:=jq he
    cases rx
    cases ry
    rw[l6]at hz
    by_cases hx:vs=[]
    ·subst hx
     have e1:xs=[]:=by have:=hvs.length;simpa using this.symm
     subst e1
     exact Ta I ha hb (h.ok hS he)
    ·refine Si pins s σ H (.ref a) (.ref b) _ _ Q I rfl rfl ⟨a,b,vs,ws,rfl,rfl,ha,hb,hx,by rw[hvs.length,hws.length];exact hz,λz=>?_,λz p hp=>zo hS (hvs.append hws) h hp⟩
     subst z
     have e1:ys=[]:=by have:=hws.length;simpa using this.symm
     subst e1
     exact h.ok hS (by simpa using hd)
   ·exact h.elim
  ·exact h.elim
 ·rename_i j _
  cases f6 he
  split at h
  ·rename_i es
   split at h
   ·rename_i hz
    obtain⟨a,xs,rfl,ha,hxs⟩:=mr hS hd es
    cases rx
    obtain⟨t,rfl⟩:=ry
    rw[l6]at hz
    exact E2 (N2 I ha hz.2.1 hz.2.2 (by rw[hxs.length];exact hz.1) λp hp=>mq hS (hxs.rep _) h hp)
   ·exact h.elim
  ·exact h.elim
 ·split at h
  ·rename_i es1 es2
   split at h
   ·rename_i hz
    obtain⟨a,xs,rfl,ha,hxs⟩:=mr hS hd es1
    obtain⟨b,ys,rfl,hb,hys⟩:=mr hS he es2
    cases rx
    cases ry
    rw[l6]at hz
    exact E2 (Jr I ha hb (by rw[hxs.length,hys.length];exact hz) λp hp=>mq hS (hxs.append hys) h hp)
   ·exact h.elim
  ·exact h.elim
end
section
variable (K : PySem.W.Frag) (H : Hp)
mutual
def IsW:D->V->Prop
 | .non,v=>v=.non
 | .bl b,v=>v=.bl b
 | .int i,v=>v=.int i
 | .str x,v=>v=.str x
 | .tup ds,v=>∃a xs,v=.ref a/\SqT K H a xs/\ou ds xs
 | .lst ds,v=>∃a xs,v=.ref a/\LsL K H a xs/\ou ds xs
 | .loc _,_=>False
def ou:List D->List V->Prop
 | [],xs=>xs=[]
 | d::ds,xs=>∃v r,xs=v::r/\IsW d v/\ou ds r
end
end
section
variable {K : PySem.W.Frag} {H : Hp}
theorem ou.length:∀{ds:List D} {xs:List V},ou K H ds xs->xs.length=ds.length
 | [],xs,h=>by simp![ou]at h;subst h;rfl
 | d::ds,xs,h=>by
  simp![ou]at h
  obtain⟨v,r,rfl,_,t⟩:=h
  simp[ou.length t]
theorem ou.get:∀{ds:List D} {xs:List V} {i:Nat} {d:D},ou K H ds xs->ds[i]? = some d->∃v,xs[i]? = some v/\IsW K H d v
 | [],_,_,_,_,e=>by simp at e
 | d::ds,xs,0,_,h,e=>by
  simp![ou]at h
  obtain⟨v,r,rfl,q,_⟩:=h
  simp at e;subst e
  exact⟨v,rfl,q⟩
 | d::ds,xs,i+1,x,h,e=>by
  simp![ou]at h
  obtain⟨v,r,rfl,_,t⟩:=h
  obtain⟨w,h1,h2⟩:=ou.get (i:=i) (d:=x) t (by simpa using e)
  exact⟨w,by simpa using h1,h2⟩
theorem vo {ds:List D} {v:V} (h:IsW K H (.tup ds) v):∃a xs,v=.ref a/\SqT K H a xs/\ou K H ds xs:=by simpa[IsW]using h
theorem C9 {ι:List Addr} {μ:Sto} (S:Sim K ι H μ) (f:D->Option D) (hf:∀d e v,f d=some e->IsD K ι H d v->IsW K H e v):∀{ds es:List D} {xs:List V},cj (ds.map f)=some es->ar K ι H ds xs->ou K H es xs
 | [],es,xs,h,hd=>by
  simp![DJ,cj,BN]at h
  subst h
  simpa[ar,ou]using hd
 | d::ds,es,xs,h,hd=>by
  simp![AR]at h
  cases e1:f d with
  | none=>rw[e1]at h;simp[cj]at h
  | some e =>
   rw[e1]at h
   simp![cj]at h
   cases e2:cj (ds.map f)with
   | none=>rw[e2]at h;cases h
   | some r =>
    rw[e2]at h
    cases h
    simp![ar]at hd
    obtain⟨v,t,rfl,q,hd⟩:=hd
    simp![ou]
    exact⟨v,t,rfl,hf d e v e1 q,C9 S f hf e2 hd⟩
theorem vp {ι:List Addr} {μ:Sto} (S:Sim K ι H μ):∀(k:Nat) (d e:D) (v:V),bx μ k d=some e->IsD K ι H d v->IsW K H e v
 | 0,d,e,v,h,hd=>by
  cases d<;>simp_all[bx,flat,IsD,IsW]<;>(subst h;simp[IsW])
 | k+1,d,e,v,h,hd=>by
  have ih:=vp S k
  have sub:∀{ι':List Addr} {ds es:List D} {xs:List V},ι' <+: ι->cj (ds.map (bx μ k))=some es->ar K ι' H ds xs->ou K H es xs:=λp h hd=>C9 S _ ih h (ar.mono p (.refl _) _ _ hd)
  cases d with
  | tup ds =>
   simp![bx]at h
   cases e1:cj (ds.map (bx μ k))with
   | none=>rw[e1]at h;cases h
   | some es =>
    rw[e1]at h;cases h
    obtain⟨a,xs,rfl,hq,hds⟩:=jq hd
    simp![IsW]
    exact⟨a,xs,rfl,hq,sub (AO _) e1 hds⟩
  | lst ds =>
   simp![bx]at h
   cases e1:cj (ds.map (bx μ k))with
   | none=>rw[e1]at h;cases h
   | some es =>
    rw[e1]at h;cases h
    obtain⟨a,xs,rfl,hq,hds⟩:∃a xs,v=.ref a/\FzL K H a xs/\ar K ι H ds xs:=by simpa[IsD]using hd
    simp![IsW]
    exact⟨a,xs,rfl,.inr hq,sub (AO _) e1 hds⟩
  | loc n =>
   obtain⟨a,rfl,hn⟩:∃a,v=.ref a/\ι[n]? = some a:=by simpa[IsD]using hd
   simp![bx]at h
   cases em:μ[n]? with
   | none=>rw[em]at h;cases h
   | some o =>
    obtain⟨a',q',ho⟩:=S.at em
    rw[hn]at q';cases q'
    rw[em]at h
    cases o with
    | l ds =>
     simp only at h
     obtain⟨xs,f1,f2⟩:=ho
     cases e1:cj (ds.map (bx μ k))with
     | none=>rw[e1]at h;cases h
     | some es =>
      rw[e1]at h;cases h
      simp![IsW]
      exact⟨a,xs,rfl,(.inl f1),sub CN e1 f2⟩
    | r ds =>
     simp only at h
     obtain⟨xs,f1,f2⟩:=ho
     cases e1:cj (ds.map (bx μ k))with
     | none=>rw[e1]at h;cases h
     | some es =>
      rw[e1]at h;cases h
      simp![IsW]
      exact⟨a,xs,rfl,(.inl f1),sub (AO _) e1 f2⟩
    | _=>cases h
  | _=>simp![bx]at h;cases h;simpa[IsD,IsW]using hd
mutual
theorem IsW.ofD:∀{d:D} {v:V},IsD K [] H d v->IsW K H d v
 | .non,v,h=>by simpa[IsD,IsW]using h
 | .bl _,v,h=>by simpa[IsD,IsW]using h
 | .int _,v,h=>by simpa[IsD,IsW]using h
 | .str _,v,h=>by simpa[IsD,IsW]using h
 | .tup ds,v,h=>by
  obtain⟨a,xs,rfl,hq,hds⟩:=jq h
  simp![IsW]
  exact⟨a,xs,rfl,hq,ou.ofD hds⟩
 | .lst ds,v,h=>by
  obtain⟨a,xs,rfl,hq,hds⟩:∃a xs,v=.ref a/\FzL K H a xs/\ar K [] H ds xs:=by simpa[IsD]using h
  simp![IsW]
  exact⟨a,xs,rfl,.inr hq,ou.ofD hds⟩
 | .loc n,v,h=>by simp[IsD]at h
theorem ou.ofD:∀{ds:List D} {xs:List V},ar K [] H ds xs->ou K H ds xs
 | [],xs,h=>by simpa[ar,ou]using h
 | d::ds,xs,h=>by
  simp![ar]at h
  obtain⟨v,r,rfl,q,t⟩:=h
  simp![ou]
  exact⟨v,r,rfl,IsW.ofD q,ou.ofD t⟩
end
theorem vq {μ:Sto} {k:Nat} (ih:∀d e,bx μ k d=some e->D.pureN k e=true):∀{ds es:List D},cj (ds.map (bx μ k))=some es->es.all (D.pureN k)=true
 | [],es,h=>by simp![DJ,cj,BN]at h;subst h;rfl
 | d::ds,es,h=>by
  simp![AR]at h
  cases e1:bx μ k d with
  | none=>rw[e1]at h;simp[cj]at h
  | some e =>
   rw[e1]at h
   simp![cj]at h
   cases e2:cj (ds.map (bx μ k))with
   | none=>rw[e2]at h;cases h
   | some r =>
    rw[e2]at h;cases h
    simp![BB,ih d e e1,vq ih e2,GA]
theorem i6 {μ:Sto}:∀(k:Nat) (d e:D),bx μ k d=some e->D.pureN k e=true
 | 0,d,e,h=>by
  cases d<;>simp_all[bx,flat]<;>(subst h;rfl)
 | k+1,d,e,h=>by
  have ih:=i6 (μ:=μ) k
  have mp:∀{ds:List D} {c:List D->D},(∀es,es.all (D.pureN k)=true->D.pureN (k+1) (c es)=true)->(cj (ds.map (bx μ k))).map c=some e->D.pureN (k+1) e=true:=λ{ds c} hc h=>by
   cases e1:cj (ds.map (bx μ k))with
   | none=>rw[e1]at h;cases h
   | some es=>rw[e1]at h;cases h;exact hc es (vq ih e1)
  cases d with
  | tup ds=>simp![bx]at h;exact mp (c:=.tup) (λes h=>h) h
  | lst ds=>simp![bx]at h;exact mp (c:=.lst) (λes h=>h) h
  | loc n =>
   simp![bx]at h
   cases em:μ[n]? with
   | none=>rw[em]at h;cases h
   | some o =>
    rw[em]at h
    cases o with
    | l ds=>exact mp (c:=.lst) (λes h=>h) h
    | r ds=>exact mp (c:=.lst) (λes h=>h) h
    | _=>cases h
  | _=>simp![bx]at h;cases h;rfl
end
open PySem.SeqAt (EqAt RcAt RcNeAt)
section
variable {X : Cx} {φ : Phi} {pins : List (Addr × Obj)} {σ : St} {H : Hp} {s : Shared}
theorem in1_units (A:Around):A.in1.units=A.units+1:=by
 first | rfl | simp[Around.in1]
theorem t6:∀(as bs:List D),as.length=bs.length->G6 as bs=(List.range as.length).all λj=>deq (as.getD j .non) (bs.getD j .non)
 | [],[],_=>rfl
 | a::as,b::bs,h=>by
  rw[G6,t6 as bs (by simpa using h),BV,GS,BB,DA]
  rfl
 | [],_::_,h=>by simp at h
 | _::_,[],h=>by simp at h
theorem zp:∀(as bs:List D),as.length≠bs.length->G6 as bs=false
 | [],[],h=>absurd rfl h
 | a::as,b::bs,h=>by rw[G6,zp as bs (by simpa using h),Bool.and_false]
 | [],_::_,_=>rfl
 | _::_,[],_=>rfl
theorem Dc:∀(k:Nat) (a b:D) (v:V),D.pureN k a=true->D.pureN k b=true->IsW X.K H a v->IsW X.K H b v->Inv X pins σ H s->deq a b=true:=by
 intro k
 have list:∀k,(∀(a b:D) (v:V),D.pureN k a=true->D.pureN k b=true->IsW X.K H a v->IsW X.K H b v->Inv X pins σ H s->deq a b=true) ->
   ∀(as bs:List D) (xs:List V),as.all (D.pureN k)=true->bs.all (D.pureN k)=true->ou X.K H as xs->ou X.K H bs xs->Inv X pins σ H s->G6 as bs=true:=by
  intro k ih as
  induction as with
  | nil =>
   intro bs xs _ _ ha hb _
   have e:xs=[]:=by simpa[ou]using ha
   subst e
   have:=hb.length
   have e2:bs=[]:=by simpa using this.symm
   subst e2
   rfl
  | cons a as iha =>
   intro bs xs pa pb ha hb I
   cases bs with
   | nil =>
    have e:xs=[]:=by simpa[ou]using hb
    subst e
    have:=ha.length
    simp at this
   | cons b bs =>
    simp![ou]at ha hb
    obtain⟨v,r,e,q,t⟩:=ha
    obtain⟨v',r',e',q',t'⟩:=hb
    rw[e]at e'
    cases e'
    simp![BB,BC]at pa pb
    rw[G6,ih a b v pa.1 pb.1 q q' I,iha bs r pa.2 pb.2 t t' I]
    rfl
 have flat:∀(a b:D) (v:V),(∀ds,a≠.tup ds)->(∀ds,a≠.lst ds)->(∀n,a≠.loc n)->(∀n,b≠.loc n)->IsW X.K H a v->IsW X.K H b v->deq a b=true:=by
  intro a b v h1 h2 h3 h4 ha hb
  cases a with
  | tup ds=>exact absurd rfl (h1 ds)
  | lst ds=>exact absurd rfl (h2 ds)
  | loc n=>exact absurd rfl (h3 n)
  | _=>cases b<;>simp_all[IsW,deq]
 induction k with
 | zero =>
  intro a b v pa pb ha hb I
  refine flat a b v ?_ ?_ ?_ ?_ ha hb
  ·intro z e;subst e;simp[D.pureN]at pa
  ·intro z e;subst e;simp[D.pureN]at pa
  ·intro z e;subst e;simp[D.pureN]at pa
  ·intro z e;subst e;simp[D.pureN]at pb
 | succ k ih =>
  intro a b v pa pb ha hb I
  cases a with
  | loc n=>simp[D.pureN]at pa
  | tup as =>
   simp![IsW]at ha
   obtain⟨p,xs,rfl,hq,hds⟩:=ha
   cases b with
   | tup bs =>
    simp![IsW]at hb
    obtain⟨p',xs',e,hq',hds'⟩:=hb
    cases e
    have:=I.tuple_inj hq hq'
    subst this
    rw[deq]
    exact list k ih as bs xs (by simpa[D.pureN]using pa) (by simpa[D.pureN]using pb) hds hds' I
   | lst bs =>
    simp![IsW]at hb
    obtain⟨p',xs',e,hq',hds'⟩:=hb
    cases e
    exfalso
    obtain⟨its,_,⟨o,e1,c1,_⟩,_⟩:=I.tuple hq
    obtain⟨its',_,⟨o',n',e2,c2,_⟩,_⟩:=I.list hq'.sq
    rw[e1]at e2;cases e2
    rw[c1]at c2
    injection c2 with c3
    exact absurd c3 (by decide)
   | loc n=>simp[D.pureN]at pb
   | _=>simp[IsW]at hb
  | lst as =>
   simp![IsW]at ha
   obtain⟨p,xs,rfl,hq,hds⟩:=ha
   cases b with
   | lst bs =>
    simp![IsW]at hb
    obtain⟨p',xs',e,hq',hds'⟩:=hb
    cases e
    have:=I.list_inj hq.sq hq'.sq
    subst this
    rw[deq]
    exact list k ih as bs xs (by simpa[D.pureN]using pa) (by simpa[D.pureN]using pb) hds hds' I
   | tup bs =>
    simp![IsW]at hb
    obtain⟨p',xs',e,hq',hds'⟩:=hb
    cases e
    exfalso
    obtain⟨its,_,⟨o,e1,c1,_⟩,_⟩:=I.tuple hq'
    obtain⟨its',_,⟨o',n',e2,c2,_⟩,_⟩:=I.list hq.sq
    rw[e1]at e2;cases e2
    rw[c1]at c2
    injection c2 with c3
    exact absurd c3 (by decide)
   | loc n=>simp[D.pureN]at pb
   | _=>simp[IsW]at hb
  | _ =>
   refine flat _ b v (by intro _ z;cases z) (by intro _ z;cases z) (by intro _ z;cases z) ?_ ha hb
   intro z e;subst e;simp[D.pureN]at pb
theorem E3 (I:Inv X pins σ H s) {k:Nat} {A:Around} {a b:D} {x y:V} {u v:Value} (pa:D.pureN k a=true) (pb:D.pureN k b=true) (ha:IsW X.K H a x) (hb:IsW X.K H b y) (ru:RelV x u) (rv:RelV y v) (h:RcAt A s u v (deq a b)):EqAt A s u v (deq a b):=by
 intro prog w E Q q
 have fl:∀b t,u≠.float b t:=λb t z=>by
  subst z
  cases a with
  | non=>cases(show x=.non by simpa[IsW]using ha);exact nomatch (show Value.float b t=.none from ru)
  | bl c=>cases(show x=.bl c by simpa[IsW]using ha);exact nomatch (show Value.float b t=.bool c from ru)
  | int c=>cases(show x=.int c by simpa[IsW]using ha);obtain⟨_,z⟩:=ru;cases z
  | str c=>cases(show x=.str c by simpa[IsW]using ha);obtain⟨_,z⟩:=ru;cases z
  | loc n=>simp[IsW]at ha
  | tup _=>obtain⟨c,_,rfl,_⟩:=vo ha;exact nomatch (show Value.float b t=.ref c from ru)
  | lst ds =>
        obtain⟨c,_,rfl,_⟩:∃a xs,x=.ref a/\LsL X.K H a xs/\ou X.K H ds xs:=by simpa[IsW]using ha
        exact nomatch (show Value.float b t=.ref c from ru)
 unfold eqBool
 refine CP ?_
 by_cases e:(u==v)=true
 ·rw[if_pos e]
  have e':u=v:=by simpa using e
  subst e'
  cases ru.inj rv
  rw[Dc k _ _ _ pa pb ha hb I]at q
  exact AA (FU (AE q))
 ·rw[if_neg e]
  have go:wpAny (model prog w) A (do
    let r <-richCompare .Eq u v
    truthOfDropped r) Q E s:=AA (h prog w _ _ (by exact DO q))
  cases u with
  | float b t=>exact absurd rfl (fl b t)
  | _=>exact go
theorem Js (A:Around) (a b:D) (x y:V) (u v:Value) (pa:D.pureN 0 a=true) (pb:D.pureN 0 b=true) (ha:IsW X.K H a x) (hb:IsW X.K H b y) (ru:RelV x u) (rv:RelV y v):RcAt A s u v (deq a b)/\RcNeAt A s u v (!deq a b):=by
 have b2:∀(a b:Int),decide (a=b)=(a==b):=λa b=>(FN a b).symm
 cases a with
 | tup _=>simp[D.pureN]at pa
 | lst _=>simp[D.pureN]at pa
 | loc _=>simp[D.pureN]at pa
 | non =>
  have ex:x=.non:=by simpa[IsW]using ha
  subst ex
  cases(show u=Value.none from ru)
  cases b with
  | tup _=>simp[D.pureN]at pb
  | lst _=>simp[D.pureN]at pb
  | loc _=>simp[D.pureN]at pb
  | non=>cases(show y=.non by simpa[IsW]using hb);cases(show v=Value.none from rv);exact⟨RcAt.none_none,RcNeAt.none_none⟩
  | bl c=>cases(show y=.bl c by simpa[IsW]using hb);cases(show v=Value.bool c from rv);exact⟨RcAt.none_bool _,RcNeAt.none_bool _⟩
  | int c=>cases(show y=.int c by simpa[IsW]using hb);obtain⟨t,rfl⟩:=rv;exact⟨RcAt.none_int _ _,RcNeAt.none_int _ _⟩
  | str c=>cases(show y=.str c by simpa[IsW]using hb);obtain⟨t,rfl⟩:=rv;exact⟨RcAt.none_str _ _,RcNeAt.none_str _ _⟩
 | bl d =>
  have ex:x=.bl d:=by simpa[IsW]using ha
  subst ex
  cases(show u=Value.bool d from ru)
  cases b with
  | tup _=>simp[D.pureN]at pb
  | lst _=>simp[D.pureN]at pb
  | loc _=>simp[D.pureN]at pb
  | non=>cases(show y=.non by simpa[IsW]using hb);cases(show v=Value.none from rv);exact⟨RcAt.bool_none _,RcNeAt.bool_none _⟩
  | bl c=>cases(show y=.bl c by simpa[IsW]using hb);cases(show v=Value.bool c from rv);exact⟨RcAt.bool_bool _ _,RcNeAt.bool_bool _ _⟩
  | int c=>cases(show y=.int c by simpa[IsW]using hb);obtain⟨t,rfl⟩:=rv;rw[deq,b2];exact⟨RcAt.bool_int _ _ _,RcNeAt.bool_int _ _ _⟩
  | str c=>cases(show y=.str c by simpa[IsW]using hb);obtain⟨t,rfl⟩:=rv;exact⟨RcAt.bool_str _ _ _,RcNeAt.bool_str _ _ _⟩
 | int d =>
  have ex:x=.int d:=by simpa[IsW]using ha
  subst ex
  obtain⟨t',rfl⟩:=ru
  cases b with
  | tup _=>simp[D.pureN]at pb
  | lst _=>simp[D.pureN]at pb
  | loc _=>simp[D.pureN]at pb
  | non=>cases(show y=.non by simpa[IsW]using hb);cases(show v=Value.none from rv);exact⟨RcAt.int_none _ _,RcNeAt.int_none _ _⟩
  | bl c=>cases(show y=.bl c by simpa[IsW]using hb);cases(show v=Value.bool c from rv);rw[deq,b2];exact⟨RcAt.int_bool _ _ _,RcNeAt.int_bool _ _ _⟩
  | int c=>cases(show y=.int c by simpa[IsW]using hb);obtain⟨t,rfl⟩:=rv;rw[deq,b2];exact⟨RcAt.int_int _ _ _ _,RcNeAt.int_int _ _ _ _⟩
  | str c=>cases(show y=.str c by simpa[IsW]using hb);obtain⟨t,rfl⟩:=rv;exact⟨RcAt.int_str _ _ _ _,RcNeAt.int_str _ _ _ _⟩
 | str d =>
  have ex:x=.str d:=by simpa[IsW]using ha
  subst ex
  obtain⟨t',rfl⟩:=ru
  cases b with
  | tup _=>simp[D.pureN]at pb
  | lst _=>simp[D.pureN]at pb
  | loc _=>simp[D.pureN]at pb
  | non=>cases(show y=.non by simpa[IsW]using hb);cases(show v=Value.none from rv);exact⟨RcAt.str_none _ _,RcNeAt.str_none _ _⟩
  | bl c=>cases(show y=.bl c by simpa[IsW]using hb);cases(show v=Value.bool c from rv);exact⟨RcAt.str_bool _ _ _,RcNeAt.str_bool _ _ _⟩
  | int c=>cases(show y=.int c by simpa[IsW]using hb);obtain⟨t,rfl⟩:=rv;exact⟨RcAt.str_int _ _ _ _,RcNeAt.str_int _ _ _ _⟩
  | str c =>
   cases(show y=.str c by simpa[IsW]using hb);obtain⟨t,rfl⟩:=rv
   have e:deq (.str d) (.str c)=(d==c):=by rw[deq];exact(FN d c).symm
   rw[e];exact⟨RcAt.str_str _ _ _ _,RcNeAt.str_str _ _ _ _⟩
theorem Wr (I:Inv X pins σ H s):∀(k:Nat) (A:Around) (a b:D) (x y:V) (u v:Value),A.units+k<cLine->D.pureN k a=true->D.pureN k b=true->IsW X.K H a x->IsW X.K H b y->RelV x u->RelV y v->RcAt A s u v (deq a b)/\RcNeAt A s u v (!deq a b):=by
 intro k
 induction k with
 | zero=>exact λA a b x y u v _ pa pb ha hb ru rv=>Js A a b x y u v pa pb ha hb ru rv
 | succ k ih =>
  intro A a b x y u v hu pa pb ha hb ru rv
  have hu0:A.units<cLine:=by lia
  have each:∀(as bs:List D) (xs ys:List V) (is js:List Value),as.all (D.pureN k)=true->bs.all (D.pureN k)=true->ou X.K H as xs->ou X.K H bs ys->cz xs is->cz ys js ->
    ∀j (h1:j<is.toArray.size) (h2:j<js.toArray.size),EqAt A.in1 s is.toArray[j] js.toArray[j] (deq (as.getD j .non) (bs.getD j .non)):=by
   intro as bs xs ys is js pas pbs has hbs hvx hvy j h1 h2
   have l1:as.length=is.length:=by rw[<-has.length,hvx.length]
   have l2:bs.length=js.length:=by rw[<-hbs.length,hvy.length]
   have j1:j<as.length:=by rw[l1];simpa using h1
   have j2:j<bs.length:=by rw[l2];simpa using h2
   obtain⟨p,e1,q1⟩:=has.get (AB j1)
   obtain⟨p',e1',q1'⟩:=hbs.get (AB j2)
   obtain⟨w,e2,q2⟩:=hvx.get e1
   obtain⟨w',e2',q2'⟩:=hvy.get e1'
   have g1:is.toArray[j]=w:=by
    have:is[j]? = some is.toArray[j]:=by simp[AB (show j<is.length by lia)]
    rw[this]at e2;exact CH e2
   have g2:js.toArray[j]=w':=by
    have:js[j]? = some js.toArray[j]:=by simp[AB (show j<js.length by lia)]
    rw[this]at e2';exact CH e2'
   rw[g1,g2,BF,BF,AB j1,AB j2]
   have pa:=AN.mp pas _ (CB j1)
   have pb:=AN.mp pbs _ (CB j2)
   exact E3 I pa pb q1 q1' q2 q2' (ih A.in1 _ _ p p' w w' (by rw[in1_units];lia) pa pb q1 q1' q2 q2').1
  have flat0:∀d:D,D.pureN (k+1) d=true->(∀ds,d≠.tup ds)->(∀ds,d≠.lst ds)->D.pureN 0 d=true:=λd h h1 h2=>by
   cases d with
   | tup ds=>exact absurd rfl (h1 ds)
   | lst ds=>exact absurd rfl (h2 ds)
   | loc n=>simp[D.pureN]at h
   | _=>rfl
  cases a with
  | loc n=>simp[D.pureN]at pa
  | tup as =>
   have pas:as.all (D.pureN k)=true:=by simpa[D.pureN]using pa
   obtain⟨p,xs,rfl,hq,hds⟩:=vo ha
   cases(show u=Value.ref p from ru)
   obtain⟨its,hv,ht,hz⟩:=I.tuple hq
   have ht':s.heap.IsTuple p its.toArray:=ht
   cases b with
   | loc n=>simp[D.pureN]at pb
   | tup bs =>
    have pbs:bs.all (D.pureN k)=true:=by simpa[D.pureN]using pb
    obtain⟨p',xs',rfl,hq',hds'⟩:=vo hb
    cases(show v=Value.ref p' from rv)
    obtain⟨its',hv',ht2,hz'⟩:=I.tuple hq'
    ·skip
     have ea:=each as bs xs xs' its its' pas pbs hds hds' hv hv'
     have q:=RcAt.tuples (A:=A) ht' (show s.heap.IsTuple p' its'.toArray from ht2) hu0 ea
     have q':=RcNeAt.tuples (A:=A) ht' (show s.heap.IsTuple p' its'.toArray from ht2) hu0 ea
     have l1:as.length=its.length:=by rw[<-hds.length,hv.length]
     have l2:bs.length=its'.length:=by rw[<-hds'.length,hv'.length]
     have e:((List.range (min its.toArray.size its'.toArray.size)).all (λj=>deq (as.getD j .non) (bs.getD j .non))&&its.toArray.size==its'.toArray.size)=deq (.tup as) (.tup bs):=by
      rw[deq]
      simp![AG,<-l1,<-l2]
      by_cases hl:as.length=bs.length
      ·rw[t6 as bs hl,<-hl];simp
      ·rw[zp as bs hl];simp[hl]
     rw[e]at q q'
     exact⟨q,q'⟩
   | lst bs =>
    obtain⟨p',xs',rfl,hq',hds'⟩:∃a xs,y=.ref a/\LsL X.K H a xs/\ou X.K H bs xs:=by simpa[IsW]using hb
    cases(show v=Value.ref p' from rv)
    obtain⟨z,its',n',hv',_,hg⟩:=I.ls hq'
    exact⟨RcAt.tuple_list ht' ⟨_,hg,rfl,n',rfl⟩ hu0,RcNeAt.tuple_list ht' ⟨_,hg,rfl,n',rfl⟩ hu0⟩
   | non=>cases(show y=.non by simpa[IsW]using hb);cases(show v=Value.none from rv);exact⟨RcAt.tuple_none ht' hu0,RcNeAt.tuple_none ht' hu0⟩
   | bl c=>cases(show y=.bl c by simpa[IsW]using hb);cases(show v=Value.bool c from rv);exact⟨RcAt.tuple_bool _ ht' hu0,RcNeAt.tuple_bool _ ht' hu0⟩
   | int c=>cases(show y=.int c by simpa[IsW]using hb);obtain⟨t,rfl⟩:=rv;exact⟨RcAt.tuple_int _ _ ht' hu0,RcNeAt.tuple_int _ _ ht' hu0⟩
   | str c=>cases(show y=.str c by simpa[IsW]using hb);obtain⟨t,rfl⟩:=rv;exact⟨RcAt.tuple_str _ _ ht' hu0,RcNeAt.tuple_str _ _ ht' hu0⟩
  | lst as =>
   have pas:as.all (D.pureN k)=true:=by simpa[D.pureN]using pa
   obtain⟨p,xs,rfl,hq,hds⟩:∃a xs,x=.ref a/\LsL X.K H a xs/\ou X.K H as xs:=by simpa[IsW]using ha
   cases(show u=Value.ref p from ru)
   obtain⟨z,its,n,hv,_,hg⟩:=I.ls hq
   have hl':s.heap.IsList p its.toArray:=⟨_,hg,rfl,n,rfl⟩
   cases b with
   | loc n=>simp[D.pureN]at pb
   | lst bs =>
    have pbs:bs.all (D.pureN k)=true:=by simpa[D.pureN]using pb
    obtain⟨p',xs',rfl,hq',hds'⟩:∃a xs,y=.ref a/\LsL X.K H a xs/\ou X.K H bs xs:=by simpa[IsW]using hb
    cases(show v=Value.ref p' from rv)
    obtain⟨z',its',n',hv',_,hg'⟩:=I.ls hq'
    have hl2:s.heap.IsList p' its'.toArray:=⟨_,hg',rfl,n',rfl⟩
    ·skip
     have l1:as.length=its.length:=by rw[<-hds.length,hv.length]
     have l2:bs.length=its'.length:=by rw[<-hds'.length,hv'.length]
     by_cases hl:as.length=bs.length
     ·have ea:=each as bs xs xs' its its' pas pbs hds hds' hv hv'
      have ez:its.toArray.size=its'.toArray.size:=by simp![AG];lia
      have q:=RcAt.lists (A:=A) hl' hl2 ez hu0 ea
      have q':=RcNeAt.lists (A:=A) hl' hl2 ez hu0 ea
      have e:(List.range its.toArray.size).all (λj=>deq (as.getD j .non) (bs.getD j .non))=deq (.lst as) (.lst bs):=by
       rw[deq,t6 as bs hl]
       simp![AG,<-l1]
      rw[e]at q q'
      exact⟨q,q'⟩
     ·rw[deq,zp as bs hl]
      exact⟨RcAt.lists_lengths hl' hl2 (by simp![AG];simp;lia) hu0,RcNeAt.lists_lengths hl' hl2 (by simp![AG];simp;lia) hu0⟩
   | tup bs =>
    obtain⟨p',xs',rfl,hq',hds'⟩:=vo hb
    cases(show v=Value.ref p' from rv)
    obtain⟨its',hv',ht2,hz'⟩:=I.tuple hq'
    exact⟨RcAt.list_tuple hl' (show s.heap.IsTuple p' its'.toArray from ht2) hu0,RcNeAt.list_tuple hl' (show s.heap.IsTuple p' its'.toArray from ht2) hu0⟩
   | non=>cases(show y=.non by simpa[IsW]using hb);cases(show v=Value.none from rv);exact⟨RcAt.list_none hl' hu0,RcNeAt.list_none hl' hu0⟩
   | bl c=>cases(show y=.bl c by simpa[IsW]using hb);cases(show v=Value.bool c from rv);exact⟨RcAt.list_bool _ hl' hu0,RcNeAt.list_bool _ hl' hu0⟩
   | int c=>cases(show y=.int c by simpa[IsW]using hb);obtain⟨t,rfl⟩:=rv;exact⟨RcAt.list_int _ _ hl' hu0,RcNeAt.list_int _ _ hl' hu0⟩
   | str c=>cases(show y=.str c by simpa[IsW]using hb);obtain⟨t,rfl⟩:=rv;exact⟨RcAt.list_str _ _ hl' hu0,RcNeAt.list_str _ _ hl' hu0⟩
  | _ =>
   cases b with
   | loc n=>simp[D.pureN]at pb
   | tup bs =>
    obtain⟨p',xs',rfl,hq',hds'⟩:=vo hb
    cases(show v=Value.ref p' from rv)
    obtain⟨its',hv',ht2,hz'⟩:=I.tuple hq'
    have ht':s.heap.IsTuple p' its'.toArray:=ht2
    first
    | (cases(show x=.non by simpa[IsW]using ha);cases(show u=Value.none from ru);exact⟨RcAt.none_tuple ht' hu0,RcNeAt.none_tuple ht' hu0⟩)
    | (cases(show x=.bl _ by simpa[IsW]using ha);cases(show u=Value.bool _ from ru);exact⟨RcAt.bool_tuple _ ht' hu0,RcNeAt.bool_tuple _ ht' hu0⟩)
    | (cases(show x=.int _ by simpa[IsW]using ha);obtain⟨t,rfl⟩:=ru;exact⟨RcAt.int_tuple _ _ ht' hu0,RcNeAt.int_tuple _ _ ht' hu0⟩)
    | (cases(show x=.str _ by simpa[IsW]using ha);obtain⟨t,rfl⟩:=ru;exact⟨RcAt.str_tuple _ _ ht' hu0,RcNeAt.str_tuple _ _ ht' hu0⟩)
   | lst bs =>
    obtain⟨p',xs',rfl,hq',hds'⟩:∃a xs,y=.ref a/\LsL X.K H a xs/\ou X.K H bs xs:=by simpa[IsW]using hb
    cases(show v=Value.ref p' from rv)
    obtain⟨z',its',n',hv',_,hg'⟩:=I.ls hq'
    have hl':s.heap.IsList p' its'.toArray:=⟨_,hg',rfl,n',rfl⟩
    first
    | (cases(show x=.non by simpa[IsW]using ha);cases(show u=Value.none from ru);exact⟨RcAt.none_list hl' hu0,RcNeAt.none_list hl' hu0⟩)
    | (cases(show x=.bl _ by simpa[IsW]using ha);cases(show u=Value.bool _ from ru);exact⟨RcAt.bool_list _ hl' hu0,RcNeAt.bool_list _ hl' hu0⟩)
    | (cases(show x=.int _ by simpa[IsW]using ha);obtain⟨t,rfl⟩:=ru;exact⟨RcAt.int_list _ _ hl' hu0,RcNeAt.int_list _ _ hl' hu0⟩)
    | (cases(show x=.str _ by simpa[IsW]using ha);obtain⟨t,rfl⟩:=ru;exact⟨RcAt.str_list _ _ hl' hu0,RcNeAt.str_list _ _ hl' hu0⟩)
   | _=>exact Js A _ _ x y u v rfl rfl ha hb ru rv
theorem Ws (I:Inv X pins σ H s) (k:Nat) (A:Around) (a b:D) (x y:V) (u v:Value) (hu:A.units+k<cLine) (pa:D.pureN k a=true) (pb:D.pureN k b=true) (ha:IsW X.K H a x) (hb:IsW X.K H b y) (ru:RelV x u) (rv:RelV y v):EqAt A s u v (deq a b) :=
 E3 I pa pb ha hb ru rv (Wr I k A a b x y u v hu pa pb ha hb ru rv).1
end
open PySem.SeqAt (EqAt RcAt)
section
variable {X : Cx} {φ : Phi} {pins : List (Addr × Obj)} {σ : St} {H : Hp} {s : Shared}
theorem Wt (hu:X.A.units+8<cLine):OpR X (compareOp .Eq) (rOp X.K (cpD .eq)):=by
 intro pins s σ H x y v u Q I rx ry ⟨ι,a,b,μ,hS,ha,hb,h⟩
 unfold cpD at h
 simp only at h
 split at h
 ·rename_i hp
  exact(Wr I 8 X.A a b x y v u hu hp.1 hp.2 (IsW.ofD (IsD.pur hp.1 ha)) (IsW.ofD (IsD.pur hp.2 hb)) rx ry).1 _ _ _ _ ⟨.bl (deq a b),H,I,rfl,h.ok hS (by simp[IsD])⟩
 ·exact h.elim
end
open PySem.SeqAt (EqAt RcNeAt)
section
variable {X : Cx} {φ : Phi} {pins : List (Addr × Obj)} {σ : St} {H : Hp} {s : Shared}
theorem Wu (hu:X.A.units+8<cLine):OpR X (compareOp .NotEq) (rOp X.K (cpD .ne)):=by
 intro pins s σ H x y v u Q I rx ry ⟨ι,a,b,μ,hS,ha,hb,h⟩
 unfold cpD at h
 simp only at h
 split at h
 ·rename_i hp
  exact(Wr I 8 X.A a b x y v u hu hp.1 hp.2 (IsW.ofD (IsD.pur hp.1 ha)) (IsW.ofD (IsD.pur hp.2 hb)) rx ry).2 _ _ _ _ ⟨.bl (!deq a b),H,I,rfl,h.ok hS (by simp[IsD])⟩
 ·exact h.elim
end
end Lp
namespace LT
open PySem PySem.Spec PyProof.Rows HT
open PySem.SeqAt
open PySem.AutoSeq1 (wpAny_loadPart')
open PySem.MeetsSeq PySem.MeetsSeq2 PySem.MeetsSeq3
theorem acx (A:Around) (s:Shared) (a:Int) (t:Tok) (c:Int) (u:Tok) (prog:Program) (w:World) (E:Value->Shared->Prop) (Q:Value->Shared->Prop) (h:Q (.bool (decide (a<=c))) s) :
  wpAny (model prog w) A (richCompare .LtE (.int a t) (.int c u)) Q E s :=
 (PyProof.Rows.le_int h:wpAny (model prog w) A (compareOp .LtE (.int a t) (.int c u)) Q E s)
theorem N3 (l b:Addr) (items items2:Array Value) (n n2:Nat) (dd dd2:Option Addr) (sl sl2:Array (Option Value)) (ns ms:List Int) (ii:IntsAre items.toList ns) (jj:IntsAre items2.toList ms) :
  Meets (Builtin.«tuple.__le__» ⟨[.ref l,.ref b],[]⟩) (λ_ R s=>s.heap.get? l=some {cls:=.type "tuple",dict:=dd,data:=.seq items n,slots:=sl}/\s.heap.get? b=some {cls:=.type "tuple",dict:=dd2,data:=.seq items2 n2,slots:=sl2}/\R (.ok (.ret (.bool (!lexLt ms ns)))) s) :=
 .of_wp λprog w A R s h=>by
  obtain⟨hh0,g,d,tk0,os0⟩:=s;obtain⟨ql,hb,h⟩:=h
  have sub0:=Go
  have n1:ns.length=items.size:=by rw[<-ii.length,BJ]
  have n2e:ms.length=items2.size:=by rw[<-jj.length,BJ]
  wp_walk using DI ql,DI hb,IY _ (λrest b s'=>b.1=none/\s'=⟨hh0,g,d,tk0,os0⟩/\∃(us1 us2:List Value) (ms1 ms2:List Int),rest=us1.zip us2 /\
   IntsAre us1 ms1/\IntsAre us2 ms2/\ms1.length+items2.size=ms2.length+items.size/\R (.ok (.ret (.bool (!lexLt ms2 ms1)))) ⟨hh0,g,d,tk0,os0⟩) _
  case turn =>
   rintro⟨y,x⟩ rest b s' ⟨p0,rfl,us1,us2,ms1,ms2,pz,pv,pw,pl,fin0⟩
   cases pv with
   | nil=>rw[II]at pz;cases pz
   | cons a t pv1 =>
    cases pw with
    | nil=>rw[GI]at pz;cases pz
    | cons c u pw1 =>
     rw[DY]at pz
     injection pz with pyx pr
     injection pyx with py px
     subst py px
     rw[ka]at fin0
     simp![BV]at pl
     obtain⟨same,eq0,eqi⟩:=zf A.in1 ⟨hh0,g,d,tk0,os0⟩ a t c u
     refine AA (eq0 prog w _ _ ?_)
     cases same with
     | true =>
      rw[if_pos (eqi.mp rfl).symm]at fin0
      wp_walk
      exact⟨rfl,rfl,_,_,_,_,pr,pv1,pw1,by lia,fin0⟩
     | false =>
      have hne:¬c=a:=λq=>absurd (eqi.mpr q.symm) BA
      rw[if_neg hne]at fin0
      have ed:(!decide (c<a))=decide (a<=c):=by
       by_cases hc:c<a
       ·rw[decide_eq_true hc,decide_eq_false (by lia)];rfl
       ·rw[decide_eq_false hc,decide_eq_true (by lia)];rfl
      rw[ed]at fin0
      have low:=acx A.in1 ⟨hh0,g,d,tk0,os0⟩ a t c u prog w
      wp_walk using low
      exact⟨_,rfl,by simpa using fin0⟩
  case fin =>
   rintro⟨c1,c2⟩ s' ⟨p0,rfl,us1,us2,ms1,ms2,pz,pv,pw,pl,fin0⟩
   simp only at p0
   subst p0
   have hv:(!lexLt ms2 ms1)=decide (items.size<=items2.size):=by
    cases pv with
    | nil =>
     cases pw with
     | nil =>
      simp![CW]at pl
      rw[nu,decide_eq_true (by lia)];rfl
     | cons c u hw =>
      simp![CW,BV]at pl
      rw[mj,decide_eq_true (by lia)];rfl
    | cons a t hv =>
     cases pw with
     | nil =>
      simp![CW,BV]at pl
      rw[mh,decide_eq_false (by lia)];rfl
     | cons c u hw =>
      rw[DY]at pz
      cases pz
   rw[hv]at fin0
   wp_walk
   exact⟨_,rfl,by simpa[Builtin.Tuple.tupleCompareSizes]using fin0⟩
  case h =>
   exact⟨rfl,rfl,items.toList,items2.toList,ns,ms,rfl,ii,jj,by lia,h⟩
theorem Wv {prog:Program} {w:World} {A:Around} {E:Value->Shared->Prop} {s:Shared} {l b:Addr} {items items2:Array Value} {ns ms:List Int} {Q:Value->Shared->Prop} (hl:IsTup s.heap l items) (hb:IsTup s.heap b items2) (hi:IntsAre items.toList ns) (hj:IntsAre items2.toList ms)
  (hu:A.units<cLine) (h:Q (.bool (!lexLt ms ns)) s):wpAny (model prog w) A (compareOp .LtE (.ref l) (.ref b)) Q E s:=by
 obtain⟨⟨_,dd,_,sl⟩,ho,rfl,n,rfl⟩:=id hl
 obtain⟨⟨_,dd2,_,sl2⟩,ho2,rfl,n2,rfl⟩:=id hb
 exact GP (op:=.LtE) ⟨_,ho,rfl⟩ ⟨_,ho2,rfl⟩ PySem.F.slot_tuple_le PySem.F.entry_tuple_le (PySem.F.args_tuple_le_2 _ _) (N3 l b items items2 n n2 dd dd2 sl sl2 ns ms hi hj)
  ⟨ho,ho2,show Value.bool (!lexLt ms ns)≠Value.notImplemented/\Q (.bool (!lexLt ms ns)) s from⟨(λx=>nomatch x),h⟩⟩ hu
theorem acy (A:Around) (s:Shared) (a:Int) (t:Tok) (c:Int) (u:Tok) (prog:Program) (w:World) (E:Value->Shared->Prop) (Q:Value->Shared->Prop) (h:Q (.bool (decide (c<=a))) s) :
  wpAny (model prog w) A (richCompare .GtE (.int a t) (.int c u)) Q E s :=
 (PyProof.Rows.ge_int h:wpAny (model prog w) A (compareOp .GtE (.int a t) (.int c u)) Q E s)
theorem N4 (l b:Addr) (items items2:Array Value) (n n2:Nat) (dd dd2:Option Addr) (sl sl2:Array (Option Value)) (ns ms:List Int) (ii:IntsAre items.toList ns) (jj:IntsAre items2.toList ms) :
  Meets (Builtin.«tuple.__ge__» ⟨[.ref l,.ref b],[]⟩) (λ_ R s=>s.heap.get? l=some {cls:=.type "tuple",dict:=dd,data:=.seq items n,slots:=sl}/\s.heap.get? b=some {cls:=.type "tuple",dict:=dd2,data:=.seq items2 n2,slots:=sl2}/\R (.ok (.ret (.bool (!lexLt ns ms)))) s) :=
 .of_wp λprog w A R s h=>by
  obtain⟨hh0,g,d,tk0,os0⟩:=s;obtain⟨ql,hb,h⟩:=h
  have sub0:=Go
  have n1:ns.length=items.size:=by rw[<-ii.length,BJ]
  have n2e:ms.length=items2.size:=by rw[<-jj.length,BJ]
  wp_walk using DI ql,DI hb,IY _ (λrest b s'=>b.1=none/\s'=⟨hh0,g,d,tk0,os0⟩/\∃(us1 us2:List Value) (ms1 ms2:List Int),rest=us1.zip us2 /\
   IntsAre us1 ms1/\IntsAre us2 ms2/\ms1.length+items2.size=ms2.length+items.size/\R (.ok (.ret (.bool (!lexLt ms1 ms2)))) ⟨hh0,g,d,tk0,os0⟩) _
  case turn =>
   rintro⟨y,x⟩ rest b s' ⟨p0,rfl,us1,us2,ms1,ms2,pz,pv,pw,pl,fin0⟩
   cases pv with
   | nil=>rw[II]at pz;cases pz
   | cons a t pv1 =>
    cases pw with
    | nil=>rw[GI]at pz;cases pz
    | cons c u pw1 =>
     rw[DY]at pz
     injection pz with pyx pr
     injection pyx with py px
     subst py px
     rw[ka]at fin0
     simp![BV]at pl
     obtain⟨same,eq0,eqi⟩:=zf A.in1 ⟨hh0,g,d,tk0,os0⟩ a t c u
     refine AA (eq0 prog w _ _ ?_)
     cases same with
     | true =>
      rw[if_pos (eqi.mp rfl)]at fin0
      wp_walk
      exact⟨rfl,rfl,_,_,_,_,pr,pv1,pw1,by lia,fin0⟩
     | false =>
      have hne:¬a=c:=λq=>absurd (eqi.mpr q) BA
      rw[if_neg hne]at fin0
      have ed:(!decide (a<c))=decide (c<=a):=by
       by_cases hc:a<c
       ·rw[decide_eq_true hc,decide_eq_false (by lia)];rfl
       ·rw[decide_eq_false hc,decide_eq_true (by lia)];rfl
      rw[ed]at fin0
      have low:=acy A.in1 ⟨hh0,g,d,tk0,os0⟩ a t c u prog w
      wp_walk using low
      exact⟨_,rfl,by simpa using fin0⟩
  case fin =>
   rintro⟨c1,c2⟩ s' ⟨p0,rfl,us1,us2,ms1,ms2,pz,pv,pw,pl,fin0⟩
   simp only at p0
   subst p0
   have hv:(!lexLt ms1 ms2)=decide (items2.size<=items.size):=by
    cases pv with
    | nil =>
     cases pw with
     | nil =>
      simp![CW]at pl
      rw[nu,decide_eq_true (by lia)];rfl
     | cons c u hw =>
      simp![CW,BV]at pl
      rw[mh,decide_eq_false (by lia)];rfl
    | cons a t hv =>
     cases pw with
     | nil =>
      simp![CW,BV]at pl
      rw[mj,decide_eq_true (by lia)];rfl
     | cons c u hw =>
      rw[DY]at pz
      cases pz
   rw[hv]at fin0
   wp_walk
   exact⟨_,rfl,by simpa[Builtin.Tuple.tupleCompareSizes]using fin0⟩
  case h =>
   exact⟨rfl,rfl,items.toList,items2.toList,ns,ms,rfl,ii,jj,by lia,h⟩
theorem Ww {prog:Program} {w:World} {A:Around} {E:Value->Shared->Prop} {s:Shared} {l b:Addr} {items items2:Array Value} {ns ms:List Int} {Q:Value->Shared->Prop} (hl:IsTup s.heap l items) (hb:IsTup s.heap b items2) (hi:IntsAre items.toList ns) (hj:IntsAre items2.toList ms)
  (hu:A.units<cLine) (h:Q (.bool (!lexLt ns ms)) s):wpAny (model prog w) A (compareOp .GtE (.ref l) (.ref b)) Q E s:=by
 obtain⟨⟨_,dd,_,sl⟩,ho,rfl,n,rfl⟩:=id hl
 obtain⟨⟨_,dd2,_,sl2⟩,ho2,rfl,n2,rfl⟩:=id hb
 exact GP (op:=.GtE) ⟨_,ho,rfl⟩ ⟨_,ho2,rfl⟩ PySem.F.slot_tuple_ge PySem.F.entry_tuple_ge (PySem.F.args_tuple_ge_2 _ _) (N4 l b items items2 n n2 dd dd2 sl sl2 ns ms hi hj)
  ⟨ho,ho2,show Value.bool (!lexLt ns ms)≠Value.notImplemented/\Q (.bool (!lexLt ns ms)) s from⟨(λx=>nomatch x),h⟩⟩ hu
end LT
namespace L2
open PySem PySem.Spec PyProof.Rows
variable {X : Cx}
theorem Wx (hu:X.A.units<cLine) {pins s σ H x y v u Q} (I:Inv X pins σ H s) (rx:RelV x v) (ry:RelV y u) (h:∃a b ns ms,x=.ref a/\y=.ref b/\SqT X.K H a (ns.map V.int)/\SqT X.K H b (ms.map V.int)/\Q (.bl (!HT.lexLt ms ns)) H) :
  wpAny (model X.prog X.w) X.A (compareOp .LtE v u) (EP X pins σ Q) X.xe s:=by
 obtain⟨c,d,ns,ms,rfl,rfl,hc,hd,q⟩:=h
 cases rx
 cases ry
 obtain⟨us,r1,p1,_⟩:=I.tuple hc
 obtain⟨us2,r2,p2,_⟩:=I.tuple hd
 exact LT.Wv p1 p2 (intsAre_of r1) (intsAre_of r2) hu ⟨.bl (!HT.lexLt ms ns),H,I,rfl,q⟩
theorem Wy (hu:X.A.units<cLine) {pins s σ H x y v u Q} (I:Inv X pins σ H s) (rx:RelV x v) (ry:RelV y u) (h:∃a b ns ms,x=.ref a/\y=.ref b/\SqT X.K H a (ns.map V.int)/\SqT X.K H b (ms.map V.int)/\Q (.bl (!HT.lexLt ns ms)) H) :
  wpAny (model X.prog X.w) X.A (compareOp .GtE v u) (EP X pins σ Q) X.xe s:=by
 obtain⟨c,d,ns,ms,rfl,rfl,hc,hd,q⟩:=h
 cases rx
 cases ry
 obtain⟨us,r1,p1,_⟩:=I.tuple hc
 obtain⟨us2,r2,p2,_⟩:=I.tuple hd
 exact LT.Ww p1 p2 (intsAre_of r1) (intsAre_of r2) hu ⟨.bl (!HT.lexLt ns ms),H,I,rfl,q⟩
end L2
namespace Lp
open PySem PySem.Spec PyProof.Rows L2
open PySem.SeqAt (EqAt RcAt)
def opOf:Cp->CmpOp
 | .eq=>.Eq
 | .ne=>.NotEq
 | .eqM=>.Eq
 | .neM=>.NotEq
 | .lt=>.Lt
 | .le=>.LtE
 | .gt=>.Gt
 | .ge=>.GtE
 | .is=>.Is
 | .isnot=>.IsNot
 | .in_=>.In
 | .notin=>.NotIn
section
variable {X : Cx} {φ : Phi} {pins : List (Addr × Obj)} {σ : St} {H : Hp} {s : Shared}
theorem ints_of {K:PySem.W.Frag} {ι:List Addr}:∀{ds:List D} {xs:List V} {ns:List Int},ar K ι H ds xs->gb ds=some ns->xs=ns.map V.int
 | [],xs,ns,h,e=>by
  simp![gb,BN]at e
  subst e
  simpa[ar]using h
 | d::ds,xs,ns,h,e=>by
  simp![ar]at h
  obtain⟨v,r,rfl,q,t⟩:=h
  cases d with
  | int i =>
   simp![gb,ED]at e
   obtain⟨ms,e1,rfl⟩:=e
   cases f6 q
   rw[ints_of t e1]
   rfl
  | _=>simp[gb]at e
theorem E4 {K:PySem.W.Frag} {ι:List Addr}:∀{ds:List D} {xs:List V} {ns:List Bool},ar K ι H ds xs->qo ds=some ns->xs=ns.map V.bl
 | [],xs,ns,h,e=>by
  simp![qo,BN]at e
  subst e
  simpa[ar]using h
 | d::ds,xs,ns,h,e=>by
  simp![ar]at h
  obtain⟨v,r,rfl,q,t⟩:=h
  cases d with
  | bl i =>
   simp![qo,ED]at e
   obtain⟨ms,e1,rfl⟩:=e
   cases Bj q
   rw[E4 t e1]
   rfl
  | _=>simp[qo]at e
theorem Dd {K:PySem.W.Frag} {ι:List Addr} {d:D} {v:V} (h:IsD K ι H d v) (hf:flat d=true):x6 v=true:=by
 cases d with
 | tup _=>simp[flat]at hf
 | lst _=>simp[flat]at hf
 | loc _=>simp[flat]at hf
 | _=>have e:=h;simp![IsD]at e;subst e;rfl
theorem zq {K:PySem.W.Frag} {ι:List Addr}:∀{ds:List D} {xs:List V},ar K ι H ds xs->ds.all flat=true->xs.all x6=true
 | [],xs,h,_=>by
  have e:xs=[]:=by simpa[ar]using h
  subst e
  rfl
 | d::ds,xs,h,hf=>by
  simp![ar]at h
  obtain⟨v,r,rfl,q,t⟩:=h
  simp![BB,BC]at hf ⊢
  exact⟨Dd q hf.1,zq t hf.2⟩
theorem Wz {K:PySem.W.Frag} {ι:List Addr} {d e:D} {v w:V} (hd:IsD K ι H d v) (he:IsD K ι H e w) (fd:flat d=true) (fe:flat e=true):eqV v w=deq d e:=by
 have b2:∀(a b:Int),decide (a=b)=(a==b):=λa b=>(FN a b).symm
 have b3:∀(a b:Str),decide (a=b)=(a==b):=λa b=>(FN a b).symm
 cases d with
 | tup _=>simp[flat]at fd
 | lst _=>simp[flat]at fd
 | loc _=>simp[flat]at fd
 | _ =>
  cases e with
  | tup _=>simp[flat]at fe
  | lst _=>simp[flat]at fe
  | loc _=>simp[flat]at fe
  | _ =>
   simp![IsD]at hd he
   subst hd he
   simp![eqV,deq,b2,b3]
theorem Jt {K:PySem.W.Frag} {ι:List Addr} {e:D} {w:V} (he:IsD K ι H e w) (fe:flat e=true):∀{ds:List D} {xs:List V},ar K ι H ds xs->ds.all flat=true->inV w xs=ds.any λy=>deq y e
 | [],xs,h,_=>by
  have e:xs=[]:=by simpa[ar]using h
  subst e
  rfl
 | d::ds,xs,h,hf=>by
  simp![ar]at h
  obtain⟨v,r,rfl,q,t⟩:=h
  simp![BB,BC]at hf
  have ih:=Jt he fe t hf.2
  unfold inV at ih ⊢
  rw[Do,Do,Wz q he hf.1 fe,ih]
theorem is_bool {u:Bool} {v:Bool} {Q:VK} (I:Inv X pins σ H s) (q:Q (.bl (u==v)) H):wpAny (model X.prog X.w) X.A (compareOp .Is (.bool u) (.bool v)) (EP X pins σ Q) X.xe s:=by
 cases u<;>cases v<;>exact AE ⟨.bl _,H,I,rfl,q⟩
theorem isnot_bool {u:Bool} {v:Bool} {Q:VK} (I:Inv X pins σ H s) (q:Q (.bl (!(u==v))) H):wpAny (model X.prog X.w) X.A (compareOp .IsNot (.bool u) (.bool v)) (EP X pins σ Q) X.xe s:=by
 cases u<;>cases v<;>exact AE ⟨.bl _,H,I,rfl,q⟩
theorem Bl {v:Bool} {Q:VK} (I:Inv X pins σ H s) (q:Q (.bl false) H):wpAny (model X.prog X.w) X.A (compareOp .Is .none (.bool v)) (EP X pins σ Q) X.xe s:=by
 cases v<;>exact AE ⟨.bl _,H,I,rfl,q⟩
theorem vt {v:Bool} {Q:VK} (I:Inv X pins σ H s) (q:Q (.bl true) H):wpAny (model X.prog X.w) X.A (compareOp .IsNot .none (.bool v)) (EP X pins σ Q) X.xe s:=by
 cases v<;>exact AE ⟨.bl _,H,I,rfl,q⟩
def kD:Key->D
 | .inl i=>.int i
 | .inr x=>.str x
theorem Ju {K:PySem.W.Frag} {ι:List Addr} {d:D} {x:V} (hk:M7 d=true) (h:IsD K ι H d x):∃k,d=kD k/\x=kV k:=by
 cases d with
 | int i=>exact⟨.inl i,rfl,by simpa[IsD,kV]using h⟩
 | str i=>exact⟨.inr i,rfl,by simpa[IsD,kV]using h⟩
 | _=>simp[M7]at hk
theorem De {K:PySem.W.Frag} {ι:List Addr} {d:D} {k:Key} (h:IsD K ι H d (kV k)):d=kD k:=by
 cases k with
 | inl i=>cases d<;>simp_all[IsD,kV,kD]
 | inr i=>cases d<;>simp_all[IsD,kV,kD]
theorem Bm (a b:Key):deq (kD a) (kD b)=decide (a=b):=by
 cases a<;>cases b<;>simp[kD,deq]
def OR (K:PySem.W.Frag) (H:Hp):Option D->Option V->Prop
 | some d,some v=>IsD K [] H d v
 | none,none=>True
 | _,_=>False
theorem OR.isSome {K:PySem.W.Frag} {o:Option D} {p:Option V} (h:OR K H o p):p.isSome=o.isSome:=by
 cases o<;>cases p<;>first | rfl | exact h.elim
theorem OR.getD {K:PySem.W.Frag} {ι:List Addr} {o:Option D} {p:Option V} {d:D} {v:V} (h:OR K H o p) (hd:IsD K ι H d v):IsD K ι H (o.getD d) (p.getD v):=by
 cases o with
 | none=>cases p with
  | none=>exact hd
  | some _=>exact h.elim
 | some _=>cases p with
  | none=>exact h.elim
  | some _=>exact IsD.mono (CN) (.refl _) _ _ h
theorem u6 {K:PySem.W.Frag} {k:Key}:∀{kvs:List (D×D)} {xs:List (Key×V)},Nx K H kvs xs->OR K H (Jl (kD k) kvs) (Eu xs k)
 | _,_,.nil=>True.intro
 | p::kvs,q::xs,.cons h t=>by
  obtain⟨d,e⟩:=p
  have hk:=De h.1
  dsimp only at hk
  subst hk
  have ih:=u6 (k:=k) (kvs:=kvs) (xs:=xs) t
  by_cases z:q.1=k
  ·rw[u3 z,Jl,Bm,if_pos (by simpa using z)]
   exact h.2
  ·rw[u4 z,Jl,Bm,if_neg (by simpa using z)]
   exact ih
theorem Jv {K:PySem.W.Frag} {k:Key}:∀{kvs:List (D×D)} {xs:List (Key×V)},Nx K H kvs xs->(kvs.any λp=>deq p.1 (kD k))=xs.any λkv=>decide (kv.1=k)
 | _,_,.nil=>rfl
 | p::kvs,q::xs,.cons h t=>by
  obtain⟨d,e⟩:=p
  have hk:=De h.1
  dsimp only at hk
  subst hk
  rw[Do,Do,Jv t,Bm]
theorem E5 {K:PySem.W.Frag} {k:Key} {d:D} {v:V} (hv:IsD K [] H d v):∀{kvs:List (D×D)} {xs:List (Key×V)},Nx K H kvs xs ->
  Nx K H (kvs.map λp=>if deq p.1 (kD k)=true then(p.1,d)else p) (xs.map λkv=>if kv.1=k then(kv.1,v)else kv)
 | _,_,.nil=>.nil
 | p::kvs,q::xs,.cons h t=>by
  obtain⟨e,w⟩:=p
  have hk:=De h.1
  dsimp only at hk
  subst hk
  rw[AR,AR]
  refine .cons ?_ (E5 hv t)
  by_cases z:q.1=k
  ·rw[if_pos z,Bm,if_pos (by simpa using z)]
   exact⟨h.1,hv⟩
  ·rw[if_neg z,Bm,if_neg (by simpa using z)]
   exact h
theorem vx {α β:Type} {F:α->β->Prop}:∀{xs:List α} {ys:List β} {x:α} {y:β},Paired F xs ys->F x y->Paired F (xs++[x]) (ys++[y])
 | _,_,_,_,.nil,h=>.cons h .nil
 | _,_,_,_,.cons a t,h=>.cons a (vx t h)
theorem E6 {K:PySem.W.Frag} {k:Key} {d:D} {v:V} (hv:IsD K [] H d v) {kvs:List (D×D)} {xs:List (Key×V)} (h:Nx K H kvs xs):Nx K H (dput (kD k) d kvs) (putK xs k v):=by
 unfold dput putK
 rw[Jv h]
 split
 ·exact E5 hv h
 ·refine vx h ⟨?_,hv⟩
  cases k<;>simp[kD,kV,IsD]
theorem Dg {K:PySem.W.Frag} {ι:List Addr} {μ:Sto} {o k:D} {x y:V} {kvs:List (D×D)} (hS:Sim K ι H μ) (ho:IsD K ι H o x) (hk:IsD K ι H k y) (h:dictAt μ o k=some kvs) :
  ∃p q xs,x=.ref p/\y=kV q/\k=kD q/\H p=some (.dK xs)/\Nx K H kvs xs:=by
 cases o with
 | loc n =>
  simp![dictAt]at h
  split at h
  ·rename_i kvs' em
   split at h
   ·rename_i hkey
    cases h
    obtain⟨p,rfl,hp⟩:∃p,x=.ref p/\ι[n]? = some p:=by simpa[IsD]using ho
    obtain⟨a',q',ob⟩:=hS.at em
    rw[hp]at q';cases q'
    obtain⟨xs,e1,e2⟩:=ob
    obtain⟨q,rfl,rfl⟩:=Ju hkey hk
    exact⟨p,q,xs,rfl,rfl,rfl,e1,e2⟩
   ·cases h
  ·cases h
 | _=>simp[dictAt]at h
theorem Jw (cp:Cp) (hu:X.A.units+8<cLine):OpR X (compareOp (opOf cp)) (rOp X.K (cpD cp)):=by
 have hu0:X.A.units<cLine:=by lia
 cases cp with
 | eq=>exact Wt hu
 | ne=>exact Wu hu
 | eqM =>
  intro pins s σ H x y v u Q I rx ry ⟨ι,a,b,μ,hS,ha,hb,h⟩
  simp![cpD]at h
  cases e1:bx μ 8 a with
  | none=>simp![e1]at h;exact h.elim
  | some a1 =>
   cases e2:bx μ 8 b with
   | none=>simp![e1,e2]at h;exact h.elim
   | some b1 =>
    simp![e1,e2]at h
    exact(Wr I 8 X.A a1 b1 x y v u hu (i6 8 _ _ e1) (i6 8 _ _ e2) (vp hS 8 _ _ _ e1 ha) (vp hS 8 _ _ _ e2 hb) rx ry).1 _ _ _ _ ⟨.bl (deq a1 b1),H,I,rfl,h.ok hS (by simp[IsD])⟩
 | neM =>
  intro pins s σ H x y v u Q I rx ry ⟨ι,a,b,μ,hS,ha,hb,h⟩
  simp![cpD]at h
  cases e1:bx μ 8 a with
  | none=>simp![e1]at h;exact h.elim
  | some a1 =>
   cases e2:bx μ 8 b with
   | none=>simp![e1,e2]at h;exact h.elim
   | some b1 =>
    simp![e1,e2]at h
    exact(Wr I 8 X.A a1 b1 x y v u hu (i6 8 _ _ e1) (i6 8 _ _ e2) (vp hS 8 _ _ _ e1 ha) (vp hS 8 _ _ _ e2 hb) rx ry).2 _ _ _ _ ⟨.bl (!deq a1 b1),H,I,rfl,h.ok hS (by simp[IsD])⟩
 | lt =>
  intro pins s σ H x y v u Q I rx ry ⟨ι,a,b,μ,hS,ha,hb,h⟩
  simp![cpD]at h
  split at h
  ·cases f6 ha;cases f6 hb
   exact Zc pins s σ H _ _ v u Q I rx ry ⟨_,_,rfl,rfl,h.ok hS (by simp[IsD])⟩
  ·obtain⟨p,xs,rfl,hq,hds⟩:=jq ha
   obtain⟨p',xs',rfl,hq',hds'⟩:=jq hb
   split at h
   ·rename_i ns ms e1 e2
    have:=ints_of hds e1
    subst this
    have:=ints_of hds' e2
    subst this
    refine V0 hu0 pins s σ H _ _ v u Q I rx ry ⟨p,p',ns,ms,rfl,rfl,hq,hq',?_⟩
    have el:∀(a b:List Int),HT.lexLt a b=Lp.lexLt a b:=by
     intro a
     induction a with
     | nil=>intro b;cases b<;>rfl
     | cons x r ih=>intro b;cases b with
      | nil=>rfl
      | cons y q=>rw[HT.ka,Lp.lexLt,ih]
    rw[el]
    exact h.ok hS (by simp[IsD])
   ·exact h.elim
  ·exact h.elim
 | le =>
  intro pins s σ H x y v u Q I rx ry ⟨ι,a,b,μ,hS,ha,hb,h⟩
  simp![cpD]at h
  split at h
  ·cases f6 ha;cases f6 hb
   exact Zd pins s σ H _ _ v u Q I rx ry ⟨_,_,rfl,rfl,h.ok hS (by simp[IsD])⟩
  ·obtain⟨p,xs,rfl,hq,hds⟩:=jq ha
   obtain⟨p',xs',rfl,hq',hds'⟩:=jq hb
   split at h
   ·rename_i ns ms e1 e2
    have:=ints_of hds e1
    subst this
    have:=ints_of hds' e2
    subst this
    refine Wx hu0 I rx ry ⟨p,p',ns,ms,rfl,rfl,hq,hq',?_⟩
    have el:∀(a b:List Int),HT.lexLt a b=Lp.lexLt a b:=by
     intro a
     induction a with
     | nil=>intro b;cases b<;>rfl
     | cons x r ih=>intro b;cases b with
      | nil=>rfl
      | cons y q=>rw[HT.ka,Lp.lexLt,ih]
    rw[el]
    exact h.ok hS (by simp[IsD])
   ·exact h.elim
  ·exact h.elim
 | gt =>
  refine OpR.imp Ze λx y H Q ⟨ι,a,b,μ,hS,ha,hb,h⟩=>?_
  simp![cpD]at h
  split at h
  ·cases f6 ha;cases f6 hb
   exact⟨_,_,rfl,rfl,h.ok hS (by simp[IsD])⟩
  ·exact h.elim
 | ge =>
  intro pins s σ H x y v u Q I rx ry ⟨ι,a,b,μ,hS,ha,hb,h⟩
  simp![cpD]at h
  split at h
  ·cases f6 ha;cases f6 hb
   exact Zf pins s σ H _ _ v u Q I rx ry ⟨_,_,rfl,rfl,h.ok hS (by simp[IsD])⟩
  ·obtain⟨p,xs,rfl,hq,hds⟩:=jq ha
   obtain⟨p',xs',rfl,hq',hds'⟩:=jq hb
   split at h
   ·rename_i ns ms e1 e2
    have:=ints_of hds e1
    subst this
    have:=ints_of hds' e2
    subst this
    refine Wy hu0 I rx ry ⟨p,p',ns,ms,rfl,rfl,hq,hq',?_⟩
    have el:∀(a b:List Int),HT.lexLt a b=Lp.lexLt a b:=by
     intro a
     induction a with
     | nil=>intro b;cases b<;>rfl
     | cons x r ih=>intro b;cases b with
      | nil=>rfl
      | cons y q=>rw[HT.ka,Lp.lexLt,ih]
    rw[el]
    exact h.ok hS (by simp[IsD])
   ·exact h.elim
  ·exact h.elim
 | is =>
  intro pins s σ H x y v u Q I rx ry ⟨ι,a,b,μ,hS,ha,hb,h⟩
  simp![cpD]at h
  split at h
  ·refine Vt pins s σ H x y v u Q I rx ry ⟨by simpa[IsD]using hb,?_⟩
   cases a with
   | tup ds=>obtain⟨p,xs,rfl,_⟩:=jq ha;exact h.ok hS (by simp[IsD])
   | lst ds =>
         obtain⟨p,xs,rfl,_⟩:∃p xs,x=V.ref p/\FzL X.K H p xs/\ar X.K ι H ds xs:=by simpa[IsD]using ha
         exact h.ok hS (by simp[IsD])
   | loc n =>
        obtain⟨p,rfl,_⟩:∃p,x=V.ref p/\ι[n]? = some p:=by simpa[IsD]using ha
        exact h.ok hS (by simp[IsD])
   | _=>have e:=ha;simp![IsD]at e;subst e;exact h.ok hS (by simp[IsD])
  ·cases Bj hb
   cases(show u=Value.bool _ from ry)
   split at h
   ·cases Bj ha
    cases(show v=Value.bool _ from rx)
    exact is_bool I (h.ok hS (by simp[IsD]))
   ·cases(show x=.non by simpa[IsD]using ha)
    cases(show v=Value.none from rx)
    exact Bl I (h.ok hS (by simp[IsD]))
   ·exact h.elim
  ·exact h.elim
 | isnot =>
  intro pins s σ H x y v u Q I rx ry ⟨ι,a,b,μ,hS,ha,hb,h⟩
  simp![cpD]at h
  split at h
  ·refine Sb pins s σ H x y v u Q I rx ry ⟨by simpa[IsD]using hb,?_⟩
   cases a with
   | tup ds=>obtain⟨p,xs,rfl,_⟩:=jq ha;exact h.ok hS (by simp[IsD])
   | lst ds =>
         obtain⟨p,xs,rfl,_⟩:∃p xs,x=V.ref p/\FzL X.K H p xs/\ar X.K ι H ds xs:=by simpa[IsD]using ha
         exact h.ok hS (by simp[IsD])
   | loc n =>
        obtain⟨p,rfl,_⟩:∃p,x=V.ref p/\ι[n]? = some p:=by simpa[IsD]using ha
        exact h.ok hS (by simp[IsD])
   | _=>have e:=ha;simp![IsD]at e;subst e;exact h.ok hS (by simp[IsD])
  ·cases Bj hb
   cases(show u=Value.bool _ from ry)
   split at h
   ·cases Bj ha
    cases(show v=Value.bool _ from rx)
    exact isnot_bool I (h.ok hS (by simp[IsD]))
   ·cases(show x=.non by simpa[IsD]using ha)
    cases(show v=Value.none from rx)
    exact vt I (h.ok hS (by simp[IsD]))
   ·exact h.elim
  ·exact h.elim
 | in_ =>
  intro pins s σ H x y v u Q I rx ry ⟨ι,a,b,μ,hS,ha,hb,h⟩
  simp![cpD]at h
  split at h
  ·rename_i ds e
   obtain⟨p,xs,rfl,hq,hds⟩:=yi hS hb e
   split at h
   ·rename_i hf
    refine Jd pins s σ H _ _ v u Q I rx ry ⟨p,xs,rfl,hq.imp (·.sq) id,Dd ha hf.1,zq hds hf.2,?_⟩
    simp![AS,if_false]
    rw[Jt ha hf.1 hds hf.2]
    exact h.ok hS (by simp[IsD])
   ·exact h.elim
  ·split at h
   ·rename_i kvs e
    obtain⟨p,q,xs,rfl,rfl,rfl,hp,hk⟩:=Dg hS hb ha e
    cases(show u=Value.ref p from ry)
    refine acn (by lia) I (Np.k hp) rx λs' I'=>⟨.bl (Eu xs q).isSome,H,I',rfl,?_⟩
    rw[(u6 hk).isSome]
    exact h.ok hS (by simp[IsD])
   ·exact h.elim
 | notin =>
  intro pins s σ H x y v u Q I rx ry ⟨ι,a,b,μ,hS,ha,hb,h⟩
  simp![cpD]at h
  split at h
  ·rename_i ds e
   obtain⟨p,xs,rfl,hq,hds⟩:=yi hS hb e
   split at h
   ·rename_i hf
    refine A9 pins s σ H _ _ v u Q I rx ry ⟨p,xs,rfl,hq.imp (·.sq) id,Dd ha hf.1,zq hds hf.2,?_⟩
    simp![if_true]
    rw[Jt ha hf.1 hds hf.2]
    exact h.ok hS (by simp[IsD])
   ·exact h.elim
  ·split at h
   ·rename_i kvs e
    obtain⟨p,q,xs,rfl,rfl,rfl,hp,hk⟩:=Dg hS hb ha e
    cases(show u=Value.ref p from ry)
    refine Sr (by lia) I (Np.k hp) rx λs' I'=>⟨.bl (!(Eu xs q).isSome),H,I',rfl,?_⟩
    rw[(u6 hk).isSome]
    exact h.ok hS (by simp[IsD])
   ·exact h.elim
end
open PySem.SeqAt (EqAt RcAt)
section
variable {X : Cx} {φ : Phi} {pins : List (Addr × Obj)} {σ : St} {H : Hp} {s : Shared}
def PCh (X:Cx) (ops:List CmpOp) (es:List Expr) (t:V->TE):Prop :=
 ∀(pos:Pos) (pins:List (Addr×Obj)) (s:Shared) (σ:St) (H:Hp) (Q:VK) (x:V) (v:Value),Inv X pins σ H s->RelV x v->t x σ H Q ->
  wpAny (model X.prog X.w) X.A (compareChain pos v ops (evalEach es X.env)) (EP X pins σ Q) X.xe s
def PTh (X:Cx) (ops:List CmpOp) (es:List Expr) (t:V->TT):Prop :=
 ∀(pos:Pos) (pins:List (Addr×Obj)) (s:Shared) (σ:St) (H:Hp) (Q:Bool->Hp->Prop) (x:V) (v:Value),Inv X pins σ H s->RelV x v->t x σ H Q ->
  wpAny (model X.prog X.w) X.A (testChain pos v ops (evalEach es X.env)) (TP X pins σ Q) X.xe s
def tCh (K:PySem.W.Frag) (φ:Phi) (r:Cps):V->TE:=λx σv H Q=>∃ι σ μ d,Sim K ι H μ/\tj K ι H σ σv/\IsD K ι H d x/\i5 K (RD K) ι H (evC φ r d σ μ) Q
def tTh (K:PySem.W.Frag) (φ:Phi) (r:Cps):V->TT:=λx σv H Q=>∃ι σ μ d,Sim K ι H μ/\tj K ι H σ σv/\IsD K ι H d x/\i5 K RB ι H ((evC φ r d σ μ).bind λz μ=>aa8 z μ) Q
theorem Jx {op:Cp} {xe:Ex} {d:D} {σ:Sl} {μ:Sto}:evC φ (.cons op xe .nil) d σ μ=(evE φ xe σ μ).bind λy μ=>cpD op d y μ:=by
 simp![evC]
 cases evE φ xe σ μ with
 | ok y μ1 =>
  simp![Res.bg]
  cases cpD op d y μ1<;>rfl
 | exc _ _ _=>rfl
 | stuck=>rfl
theorem N5 {op op':Cp} {xe xe':Ex} {r:Cps} {d:D} {σ:Sl} {μ:Sto}:evC φ (.cons op xe (.cons op' xe' r)) d σ μ=(evE φ xe σ μ).bind λy μ=>(cpD op d y μ).bind λz μ=>match z with
  | .bl b=>if b=true then evC φ (.cons op' xe' r) y σ μ else .ok (.bl false) μ
  | _=>.stuck:=by
 rw[evC]
 all_goals rfl
theorem Tb {op:Cp} {e:Expr} {xe:Ex} (ho:OpR X (compareOp (opOf op)) (rOp X.K (cpD op))) (he:PE X e (tE X.K φ xe)):PCh X [opOf op] [e] (tCh X.K φ (.cons op xe .nil)):=by
 intro pos pins s σv H Q x v I rx ⟨ι,σ,μ,d,hS,hL,hd,h⟩
 rw[Jx]at h
 obtain⟨y,μ1,e1,h⟩:=h.bind
 refine chain_last (thn (he pins s σv H (λw H1=>rOp X.K (cpD op) x w H1 Q) I ⟨ι,σ,μ,hS,hL,?_⟩) λu s1 ⟨w,H1,I1,r1,q1⟩=>ho pins s1 σv H1 x w v u Q I1 rx r1 q1)
 rw[e1]
 exact λι1 w H1 p1 x1 s1 d1=>⟨ι1,d,y,μ1,s1,IsD.mono p1 x1 _ _ hd,d1,h.mono p1 x1⟩
theorem Tc {op:Cp} {e:Expr} {xe:Ex} (ho:OpR X (compareOp (opOf op)) (rOp X.K (cpD op))) (he:PE X e (tE X.K φ xe)):PTh X [opOf op] [e] (tTh X.K φ (.cons op xe .nil)):=by
 intro pos pins s σv H Q x v I rx ⟨ι,σ,μ,d,hS,hL,hd,h⟩
 rw[Jx,Res.bind_assoc]at h
 obtain⟨y,μ1,e1,h⟩:=h.bind
 refine test_last (thn (he pins s σv H (λw H1=>rOp X.K (cpD op) x w H1 (λz H2=>∃k,z=.bl k/\Q k H2)) I ⟨ι,σ,μ,hS,hL,?_⟩) λu s1 ⟨w,H1,I1,r1,q1⟩=>thn (ho pins s1 σv H1 x w v u _ I1 rx r1 q1) λc s2 ⟨z,H2,I2,r2,k,ek,q2⟩=>?_)
 ·rw[e1]
  intro ι1 w H1 p1 x1 s1 d1
  obtain⟨z,μ2,e2,h⟩:=h.bind
  refine⟨ι1,d,y,μ1,s1,IsD.mono p1 x1 _ _ hd,d1,?_⟩
  rw[e2]
  intro ι2 z' H2 p2 x2 s2 d2
  cases z with
  | bl k=>exact⟨k,Bj d2,h ι2 k H2 (p1.trans p2) (x1.trans x2) s2 rfl⟩
  | _=>exact h.elim
 ·subst ek
  cases r2
  exact DO ⟨H2,I2,q2⟩
theorem Td {op op':Cp} {e e':Expr} {es:List Expr} {ops:List CmpOp} {xe xe':Ex} {r:Cps} (ho:OpR X (compareOp (opOf op)) (rOp X.K (cpD op))) (he:PE X e (tE X.K φ xe)) (hr:PTh X (opOf op'::ops) (e'::es) (tTh X.K φ (.cons op' xe' r))) :
  PTh X (opOf op::opOf op'::ops) (e::e'::es) (tTh X.K φ (.cons op xe (.cons op' xe' r))):=by
 intro pos pins s σv H Q x v I rx ⟨ι,σ,μ,d,hS,hL,hd,h⟩
 rw[N5,Res.bind_assoc]at h
 obtain⟨y,μ1,e1,h⟩:=h.bind
 refine test_link (thn (he pins s σv H (λw H1=>rOp X.K (cpD op) x w H1 (λz H2=>∃k,z=.bl k/\if k=true then tTh X.K φ (.cons op' xe' r) w σv H2 Q else Q false H2)) I ⟨ι,σ,μ,hS,hL,?_⟩) λu s1 ⟨w,H1,I1,r1,q1⟩ =>
  thn (ho pins s1 σv H1 x w v u _ I1 rx r1 q1) λc s2 ⟨z,H2,I2,r2,k,ek,q2⟩=>?_)
 ·rw[e1]
  intro ι1 w H1 p1 x1 s1 d1
  rw[Res.bind_assoc]at h
  obtain⟨z,μ2,e2,h⟩:=h.bind
  refine⟨ι1,d,y,μ1,s1,IsD.mono p1 x1 _ _ hd,d1,?_⟩
  rw[e2]
  intro ι2 z' H2 p2 x2 s2 d2
  cases z with
  | bl k =>
   refine⟨k,Bj d2,?_⟩
   cases k with
   | true=>exact⟨ι2,σ,μ2,y,s2,(hL.mono p1 x1).mono p2 x2,IsD.mono p2 x2 _ _ d1,(show i5 _ _ _ _ ((evC φ (.cons op' xe' r) y σ μ2).bind _) _ from h).mono (p1.trans p2) (x1.trans x2)⟩
   | false=>exact h ι2 false H2 (p1.trans p2) (x1.trans x2) s2 rfl
  | _=>exact h.elim
 ·subst ek
  cases r2
  refine DO ?_
  cases k with
  | false=>exact ite_ff ⟨H2,I2,q2⟩
  | true=>exact ite_tt (hr pos pins s2 σv H2 Q w u I2 r1 q2)
theorem aab {a:Expr} {xa:Ex} {ops:List CmpOp} {es:List Expr} {r:Cps} {pos:Pos} (ha:PE X a (tE X.K φ xa)) (hr:PCh X ops es (tCh X.K φ r)) (hm:lastMarks ops es=false):PE X (.Compare a ops es pos) (tE X.K φ (.cmp xa r)):=by
 intro pins s σv H Q I ⟨ι,σ,μ,hS,hL,h⟩
 simp![evE]at h
 obtain⟨d,μ1,e1,h⟩:=h.bind
 show wpAny _ _ (do compareChain pos (<-eval a X.env) ops (markedEach ops es (evalEach es X.env))) _ _ _
 rw[markedEach_of_false _ _ _ hm]
 refine AA (thn (ha pins s σv H (λx H1=>tCh X.K φ r x σv H1 Q) I ⟨ι,σ,μ,hS,hL,?_⟩) λv s1 ⟨x,H1,I1,r1,q1⟩=>hr pos pins s1 σv H1 Q x v I1 r1 q1)
 rw[e1]
 exact λι1 x H1 p1 x1 s1 d1=>⟨ι1,σ,μ1,d,s1,hL.mono p1 x1,d1,h.mono p1 x1⟩
theorem W0 {a:Expr} {xa:Ex} {ops:List CmpOp} {es:List Expr} {r:Cps} {pos:Pos} (ha:PE X a (tE X.K φ xa)) (hr:PTh X ops es (tTh X.K φ r)) (hm:lastMarks ops es=false):PT X (.Compare a ops es pos) (tT X.K φ (.cmp xa r)):=by
 intro pins s σv H Q I ⟨ι,σ,μ,hS,hL,h⟩
 simp![evE]at h
 rw[Res.bind_assoc]at h
 obtain⟨d,μ1,e1,h⟩:=h.bind
 show wpAny _ _ (do testChain pos (<-eval a X.env) ops (markedEach ops es (evalEach es X.env))) _ _ _
 rw[markedEach_of_false _ _ _ hm]
 refine AA (thn (ha pins s σv H (λx H1=>tTh X.K φ r x σv H1 Q) I ⟨ι,σ,μ,hS,hL,?_⟩) λv s1 ⟨x,H1,I1,r1,q1⟩=>hr pos pins s1 σv H1 Q x v I1 r1 q1)
 rw[e1]
 exact λι1 x H1 p1 x1 s1 d1=>⟨ι1,σ,μ1,d,s1,hL.mono p1 x1,d1,h.mono p1 x1⟩
theorem W1 {l:Expr} {xl:Ex} {tg:Expr} (hl:PE X l (tE X.K φ xl)):PI X tg l (tI X.K φ (.seq xl)):=by
 intro pins s σv H R I ⟨ι,σ,μ,hS,hL,h⟩
 simp![evI]at h
 cases e1:evE φ xl σ μ with
 | exc _ _ _=>rw[e1]at h;exact h.elim
 | stuck=>rw[e1]at h;exact h.elim
 | ok d μ1 =>
 rw[e1]at h
 simp![Res.bg]at h
 have hq:tE X.K φ xl σv H (λv H1=>∃ι1,ι <+: ι1/\Ext H H1/\Sim X.K ι1 H1 μ1/\IsD X.K ι1 H1 d v):=⟨ι,σ,μ,hS,hL,by rw[e1];exact λι1 v H1 p1 x1 s1 d1=>⟨ι1,p1,x1,s1,d1⟩⟩
 refine thn (hl pins s σv H _ I hq) λu s1 ⟨v,H1,I1,r1,ι1,p1,x1,S1,d1⟩=>?_
 -- a list,at a,whatever its items
 have lst:∀(a:Addr) (xs:List V) (ds:List D) (g:Gd),v=.ref a->LsL X.K H1 a xs->ar X.K ι1 H1 ds xs->(∀ι2 H2 μ2,ι1 <+: ι2->Ext H1 H2->Sim X.K ι2 H2 μ2->gd g μ2->∃ys,LsL X.K H2 a ys/\ar X.K ι2 H2 ds ys) ->
   (∀ι' H' J,ι <+: ι'->Ext H H'->Sim X.K ι' H' μ1->Walk X.K ι' H' J ds g->R J H')->wpAny (model X.prog X.w) X.A (pyIter u) (PIE X pins σv tg R) X.xe s1:=by
  intro a xs ds g ev hls hds stay hR
  subst ev
  cases(show u=Value.ref a from r1)
  obtain⟨its,rv,p,hz⟩:=I1.list hls.sq
  refine IM p.isList ?_
  refine⟨s1.heap.objs.size,[s1.heap.objs.size],_,_,H1,rfl,I1.kept (t':=s1.toks) λb o e=>AC _ e,Iu a _,⟨_,AJ _ rfl,rfl,rfl⟩,λb hb=>?_,hR ι1 H1 _ p1 x1 S1 ?_⟩
  ·have e:b=s1.heap.objs.size:=by simpa using hb
   subst e
   exact I1.fpOk (AI _) (I1.hok.fresh (AI _))
  ·refine⟨by rw[<-hds.length];exact hz,λi ι2 H2 μ2 q1 q2 q3 q4 hi=>?_,λi ι2 H2 μ2 w H3 q1 q2 q3 q4 hi hy=>?_,λι2 H2 μ2 q1 q2 q3 q4=>?_⟩
   ·obtain⟨ys,y1,y2⟩:=stay ι2 H2 μ2 q1 q2 q3 q4
    obtain⟨w,e,_⟩:=y2.get (AB hi)
    exact⟨ys,w,y1.sq,e⟩
   ·obtain⟨ys,y1,y2⟩:=stay ι2 H2 μ2 q1 q2 q3 q4
    obtain⟨e,hy⟩:=hy
    subst e
    obtain⟨w',e',q'⟩:=y2.get (AB hi)
    have:=hy ys y1.sq
    rw[e']at this;cases this
    exact⟨.refl _,q3,_,AB hi,q'⟩
   ·obtain⟨ys,y1,y2⟩:=stay ι2 H2 μ2 q1 q2 q3 q4
    exact⟨ys,y1.sq,by rw[y2.length];exact AI _⟩
 cases d with
 | tup ds =>
  simp![du]at h
  obtain⟨a,xs,rfl,hq,hds⟩:=jq d1
  cases(show u=Value.ref a from r1)
  obtain⟨its,rv,p,hz⟩:=I1.tuple hq
  refine EK (show s1.heap.IsTuple a its.toArray from p) ?_
  refine⟨s1.heap.objs.size,[s1.heap.objs.size],_,_,H1,rfl,I1.kept (t':=s1.toks) λb o e=>AC _ e,Gv a _,⟨_,AJ _ rfl,rfl,rfl⟩,λb hb=>?_,h ι1 H1 _ p1 x1 S1 ?_⟩
  ·have e:b=s1.heap.objs.size:=by simpa using hb
   subst e
   exact I1.fpOk (AI _) (I1.hok.fresh (AI _))
  ·refine⟨by rw[<-hds.length];exact hz,λi ι2 H2 μ2 q1 q2 q3 q4 hi=>?_,λi ι2 H2 μ2 w H3 q1 q2 q3 q4 hi hy=>?_,λι2 H2 μ2 q1 q2 q3 q4=>?_⟩
   ·obtain⟨w,e,_⟩:=hds.get (AB hi)
    exact⟨xs,w,hq.ext q2,e⟩
   ·obtain⟨e,hy⟩:=hy
    subst e
    obtain⟨w',e',q'⟩:=hds.get (AB hi)
    have:=hy xs (hq.ext q2)
    rw[e']at this;cases this
    exact⟨.refl _,q3,_,AB hi,IsD.mono q1 q2 _ _ q'⟩
   ·exact⟨xs,hq.ext q2,by rw[hds.length];exact AI _⟩
 | lst ds =>
  simp![du]at h
  obtain⟨a,xs,rfl,hq,hds⟩:∃a xs,v=.ref a/\FzL X.K H1 a xs/\ar X.K ι1 H1 ds xs:=by simpa[IsD]using d1
  exact lst a xs ds none rfl (.inr hq) hds (λι2 H2 μ2 q1 q2 q3 q4=>⟨xs,.inr (hq.ext q2),ar.mono q1 q2 _ _ hds⟩) h
 | loc n =>
  obtain⟨a,rfl,hn⟩:∃a,v=.ref a/\ι1[n]? = some a:=by simpa[IsD]using d1
  have pre:∀{ι2:List Addr},ι1 <+: ι2->ι2[n]? = some a:=λhp=>by
   obtain⟨t,rfl⟩:=hp
   rw[AV (AF.mp hn).1];exact hn
  cases em:μ1[n]? with
  | none=>simp![du,em]at h
  | some o =>
   simp![du,em]at h
   cases o with
   | l ds =>
    simp only at h
    obtain⟨a',q',ho⟩:=S1.at em
    rw[hn]at q';cases q'
    obtain⟨xs,f1,f2⟩:=ho
    refine lst a xs ds (some (n,.l ds)) rfl (.inl f1) (ar.mono (CN) (.refl _) _ _ f2) (λι2 H2 μ2 q1 q2 q3 q4=>?_) h
    obtain⟨a2,e2,o2⟩:=q3.at (show μ2[n]? = some (.l ds)from q4)
    rw[pre q1]at e2;cases e2
    obtain⟨ys,g1,g2⟩:=o2
    exact⟨ys,.inl g1,ar.mono (CN) (.refl _) _ _ g2⟩
   | r ds =>
    simp only at h
    obtain⟨a',q',ho⟩:=S1.at em
    rw[hn]at q';cases q'
    obtain⟨xs,f1,f2⟩:=ho
    refine lst a xs ds (some (n,.r ds)) rfl (.inl f1) f2 (λι2 H2 μ2 q1 q2 q3 q4=>?_) h
    obtain⟨a2,e2,o2⟩:=q3.at (show μ2[n]? = some (.r ds)from q4)
    rw[pre q1]at e2;cases e2
    obtain⟨ys,g1,g2⟩:=o2
    exact⟨ys,.inl g1,g2⟩
   | d kvs=>simp only at h
   | dt kvs=>simp only at h
   | dead=>simp only at h
 | _=>simp![du]at h
theorem Hc {K:PySem.W.Frag} {ι:List Addr} {H:Hp} (lo:Int) (n:Nat) (hn:n<=sizeLine):Walk K ι H (Itr lo n) ((List.range n).map fun(k:Nat)=>D.int (lo+k)) none:=by
 refine⟨by simpa using hn,λi ι2 H2 μ2 q1 q2 q3 q4 hi=>by simpa[Itr]using hi,λi ι2 H2 μ2 w H3 q1 q2 q3 q4 hi hy=>?_,λι2 H2 μ2 q1 q2 q3 q4=>by simp[Itr]⟩
 obtain⟨e,hy⟩:=hy
 subst e
 have hi':i<n:=by simpa using hi
 exact⟨.refl _,q3,.int (lo+i),by simp[hi'],by simp[IsD,hy]⟩
theorem W2 {a:Expr} {xa:Ex} {tg:Expr} {p pos:Pos} (hg:Gl X "range") (hm:X.mg "range"=none) (ha:PE X a (tE X.K φ xa)) (hs:starEach [a] X.env=[(false,eval a X.env)]):PI X tg (.Call (.Name "range" p) [a] [] pos) (tI X.K φ (.rng xa)) :=
 PI.imp (Iv hg hm (Bg ha Ny hs) hs) λσv H R ⟨ι,σ,μ,hS,hL,h⟩=>by
  simp![evI]at h
  refine⟨ι,σ,μ,hS,hL,?_⟩
  simp![jh]
  cases e1:evE φ xa σ μ with
  | exc _ _ _=>rw[e1]at h;exact h.elim
  | stuck=>rw[e1]at h;exact h.elim
  | ok d μ1 =>
   rw[e1]at h
   simp![Res.bg]at h ⊢
   cases d with
   | int j =>
    simp only at h
    by_cases hj:-(lim:Int)<=j/\j<=lim
    ·rw[if_pos hj]at h
     rw[l6]at hj
     have h24:sizeLine=16777216:=Db
     rw[h24]at hj
     intro ι1 vs H1 p1 x1 s1 d1
     have e:vs=[.int j]:=by
      have q:ar X.K ι1 H1 [.int j] vs:=d1
      simp![ar]at q
      obtain⟨v,r,rfl,q1,rfl⟩:=q
      cases f6 q1
      rfl
     refine⟨j,e,by lia,by lia,h ι1 H1 _ p1 x1 s1 ?_⟩
     have w:=Hc (K:=X.K) (ι:=ι1) (H:=H1) 0 j.toNat (by lia)
     simpa using w
    ·rw[if_neg hj]at h
     exact h.elim
   | _=>exact h.elim
def uv (K:PySem.W.Frag) (f:List D->Sto->Res D):List V->Hp->VK->Prop:=λxs H Q=>∃ι ds μ,Sim K ι H μ/\ar K ι H ds xs/\i5 K (RD K) ι H (f ds μ) Q
theorem Qe {K:PySem.W.Frag} {ι:List Addr} {d:D} {xs:List V} (h:ar K ι H [d] xs):∃v,xs=[v]/\IsD K ι H d v:=by
 simp![ar]at h
 obtain⟨v,r,rfl,q,rfl⟩:=h
 exact⟨v,rfl,q⟩
theorem Jy {K:PySem.W.Frag} {ι:List Addr} {d e:D} {xs:List V} (h:ar K ι H [d,e] xs):∃v w,xs=[v,w]/\IsD K ι H d v/\IsD K ι H e w:=by
 simp![ar]at h
 obtain⟨v,r,rfl,q,w,r2,rfl,q2,rfl⟩:=h
 exact⟨v,w,rfl,q,q2⟩
theorem kh {K:PySem.W.Frag} {ι:List Addr} {ds:List D} {xs:List V} {μ:Sto} {f:D->Sto->Res D} {Q:VK} (hds:ar K ι H ds xs) (h:i5 K (RD K) ι H (vm f ds μ) Q) :
  ∃d v,xs=[v]/\IsD K ι H d v/\i5 K (RD K) ι H (f d μ) Q:=by
 unfold vm at h
 split at h
 ·rename_i d
  obtain⟨v,rfl,hv⟩:=Qe hds
  exact⟨d,v,rfl,hv,h⟩
 ·exact h.elim
theorem Dh {K:PySem.W.Frag} {ι:List Addr} {d:D} {v:V} {μ:Sto} {f:List D->Sto->Res D} {Q:VK} (hS:Sim K ι H μ) (hd:IsD K ι H d v) (h:i5 K (RD K) ι H (seq1 f d μ) Q) :
  ∃a xs ds,v=.ref a/\(LsL K H a xs\/SqT K H a xs)/\ar K ι H ds xs/\i5 K (RD K) ι H (f ds μ) Q:=by
 unfold seq1 at h
 split at h
 ·rename_i ds e
  obtain⟨a,xs,rfl,hq,hxs⟩:=yi hS hd e
  exact⟨a,xs,ds,rfl,hq,hxs,h⟩
 ·exact h.elim
theorem Di {K:PySem.W.Frag} {ι:List Addr} {d:D} {v:V} {μ:Sto} {f:List Int->Sto->Res D} {Q:VK} (hS:Sim K ι H μ) (hd:IsD K ι H d v) (h:i5 K (RD K) ι H (Nw f d μ) Q) :
  ∃a ns,v=.ref a/\(LsL K H a (ns.map V.int)\/SqT K H a (ns.map V.int))/\i5 K (RD K) ι H (f ns μ) Q:=by
 unfold Nw at h
 cases e:cv μ d with
 | none=>rw[e]at h;exact h.elim
 | some ds =>
  rw[e]at h
  simp![FX]at h
  split at h
  ·rename_i ns e2
   obtain⟨a,xs,rfl,hq,hxs⟩:=yi hS hd e
   rw[ints_of hxs e2]at hq
   exact⟨a,ns,rfl,hq,h⟩
  ·exact h.elim
theorem E7 {K:PySem.W.Frag} {ι:List Addr} {d:D} {v:V} {μ:Sto} {f:List Bool->Sto->Res D} {Q:VK} (hS:Sim K ι H μ) (hd:IsD K ι H d v) (h:i5 K (RD K) ι H (G7 f d μ) Q) :
  ∃a ns,v=.ref a/\(LsL K H a (ns.map V.bl)\/SqT K H a (ns.map V.bl))/\i5 K (RD K) ι H (f ns μ) Q:=by
 unfold G7 at h
 cases e:cv μ d with
 | none=>rw[e]at h;exact h.elim
 | some ds =>
  rw[e]at h
  simp![FX]at h
  split at h
  ·rename_i ns e2
   obtain⟨a,xs,rfl,hq,hxs⟩:=yi hS hd e
   rw[E4 hxs e2]at hq
   exact⟨a,ns,rfl,hq,h⟩
  ·exact h.elim
theorem bt_len {m:Mk}:gr X (.builtin "len") (uv X.K (btD .len m)):=gr.imp Ba λxs H Q ⟨ι,ds,μ,hS,hds,h⟩=>by
 obtain⟨d,v,rfl,hv,h⟩:=kh hds h
 obtain⟨a,xs,es,rfl,hq,hxs,h⟩:=Dh hS hv h
 exact⟨a,xs,rfl,hq.imp (·.sq) id,by rw[hxs.length];exact h.ok hS (by simp[IsD])⟩
theorem bt_tuple {m:Mk}:gr X (.type "tuple") (uv X.K (btD .tuple m)):=gr.imp zi λxs H Q ⟨ι,ds,μ,hS,hds,h⟩=>by
 obtain⟨d,v,rfl,hv,h⟩:=kh hds h
 obtain⟨a,xs,es,rfl,hq,hxs,h⟩:=Dh hS hv h
 refine⟨a,xs,rfl,?_⟩
 rcases hq with hq | hq
 ·exact .inl ⟨hq.sq,λl hl=>zo hS hxs h hl⟩
 ·exact .inr ⟨hq,h.ok hS (tup_is hq hxs)⟩
theorem bt_list {m:Mk}:gr X (.type "list") (uv X.K (btD .list m)):=gr.imp (gr.fq Bb) λxs H Q ⟨ι,ds,μ,hS,hds,h⟩=>by
 obtain⟨d,v,rfl,hv,h⟩:=kh hds h
 obtain⟨a,xs,es,rfl,hq,hxs,h⟩:=Dh hS hv h
 exact⟨a,xs,rfl,hq.imp (·.sq) id,λl hl=>mq hS hxs h hl⟩
theorem bt_min {m:Mk} (hc:X.calm=true):gr X (.builtin "min") (uv X.K (btD .min m)):=gr.imp (Iz hc) λxs H Q ⟨ι,ds,μ,hS,hds,h⟩=>by
 simp![btD,minD]at h
 split at h
 ·rename_i i j
  obtain⟨v,w,rfl,hv,hw⟩:=Jy hds
  cases f6 hv
  cases f6 hw
  exact⟨i,j,rfl,h.ok hS (by simp[IsD])⟩
 ·exact h.elim
theorem bt_max {m:Mk} (hc:X.calm=true):gr X (.builtin "max") (uv X.K (btD .max m)):=gr.imp (Iy hc) λxs H Q ⟨ι,ds,μ,hS,hds,h⟩=>by
 simp![btD,maxD]at h
 split at h
 ·rename_i i j
  obtain⟨v,w,rfl,hv,hw⟩:=Jy hds
  cases f6 hv
  cases f6 hw
  exact⟨i,j,rfl,h.ok hS (by simp[IsD])⟩
 ·exact h.elim
theorem u7 {A:Around} {E:Value->Shared->Prop} {a:Addr} {xs:List V} (I:Inv X pins σ H s) (hq:LsL X.K H a xs\/SqT X.K H a xs) (hh:A.handled=none) {Q:Value->Shared->Prop}
  (h:∀(it:Addr) (fp:List Addr) (its:List Value) St s2,cz xs its->Walks X.prog X.w A it fp [it] its.length (λi v=>its[i]? = some v) St->St 0 s2.heap->(∀b∈fp,b<s2.heap.objs.size) ->
   (∀h' tk,(∀b o,b∉[it]->s2.heap.get? b=some o->h'.get? b=some o)->Inv X pins σ H {s2 with heap:=h',toks:=tk})->Q (.ref it) s2) :
  wpAny (model X.prog X.w) A (pyIter (.ref a)) Q E s:=by
 have fin:∀(ob:Obj) (h':Heap) (tk:Nat),(∀b o,b∉[s.heap.objs.size]->(s.heap.push ob).get? b=some o->h'.get? b=some o)->Inv X pins σ H {s with heap:=h',toks:=tk}:=λob h' tk hk =>
  I.kept λb u e=>hk b u (by simp;exact AT (AM e)) (AC _ e)
 rcases hq with hq | hq
 ·obtain⟨z,its,n,hv,hl,hg⟩:=I.ls hq
  have hil:s.heap.IsList a its.toArray:=⟨_,hg,rfl,n,rfl⟩
  refine IM hil ?_
  have hne:a≠s.heap.objs.size:=AT (AM hg)
  have W:=Walks.list (prog:=X.prog) (w:=X.w) (A:=A) hh s.heap.objs.size a hne its.toArray
  simp![AG,HA]at W
  refine h s.heap.objs.size _ its _ _ hv W ⟨⟨_,AJ _ rfl,rfl,rfl⟩,hil.at λo e=>AC _ e⟩ (λb hb=>?_) (λh' tk hk=>fin _ h' tk hk)
  simp![AL,BI,or_false]at hb
  rw[DF]
  rcases hb with rfl | rfl
  ·exact HD _
  ·exact DP (AM hg)
 ·obtain⟨its,hv,ht,hz⟩:=I.tuple hq
  have hit:s.heap.IsTuple a its.toArray:=ht
  refine EK hit ?_
  obtain⟨o,ho,_⟩:=id hit
  have hne:a≠s.heap.objs.size:=AT (AM ho)
  have W:=Walks.tuple (prog:=X.prog) (w:=X.w) (A:=A) hh s.heap.objs.size a hne its.toArray
  simp![AG,HA]at W
  refine h s.heap.objs.size _ its _ _ hv W ⟨⟨_,AJ _ rfl,rfl,rfl⟩,hit.at λo e=>AC _ e⟩ (λb hb=>?_) (λh' tk hk=>fin _ h' tk hk)
  simp![AL,BI,or_false]at hb
  rw[DF]
  rcases hb with rfl | rfl
  ·exact HD _
  ·exact DP (AM ho)
theorem Bn (ns:List Int):∀k,k<=ns.length->preSum (λi=>ns.getD i 0) k=(ns.take k).sum
 | 0,_=>by simp[preSum]
 | k+1,h=>by
  rw[preSum,Bn ns k (by lia),List.take_succ,EN,BF,AB (by lia)]
  simp
theorem bt_sum {m:Mk} (hc:X.calm=true):gr X (.builtin "sum") (uv X.K (btD .sum m)):=by
 intro pins s σ H xs us Q I r ⟨ι,ds,μ,hS,hds,h⟩
 obtain⟨d,v,rfl,hv,h⟩:=kh hds h
 obtain⟨a,ns,rfl,hq,h⟩:=Di hS hv h
 obtain⟨u,rfl,ru⟩:=vals1 r
 cases(show u=Value.ref a from ru)
 refine call_sum_walkG (u7 I hq (show X.A.in1.handled=none from I.ok.hd hc) λit fp its St s2 hvs W st hfp hI=>?_)
 have hl:ns.length=its.length:=by have:=hvs.length;simpa using this
 refine⟨it,fp,[it],its.length,_,St,λi=>ns.getD i 0,rfl,W,st,hfp,λi w e=>?_,λh' tk t' hk=>?_⟩
 ·have hi:i<ns.length:=by rw[hl];exact(AF.mp e).1
  obtain⟨u',e1,⟨t,e2⟩⟩:=hvs.get (i:=i) (x:=.int ns[i]) (by simp[AB hi])
  rw[e]at e1;cases e1
  exact⟨t,by rw[e2];simp[BF,AB hi]⟩
 ·refine⟨.int ns.sum,H,hI h' tk hk,⟨t',?_⟩,h.ok hS (by simp[IsD])⟩
  rw[<-hl,Bn ns ns.length (AI _),List.take_length]
theorem all_range (bs:List Bool):(List.range bs.length).all (λi=>bs.getD i false)=bs.all id:=by
 induction bs with
 | nil=>rfl
 | cons b r ih=>rw[BV,GS,BB,DA,BB];exact congrArg _ ih
theorem any_range (bs:List Bool):(List.range bs.length).any (λi=>bs.getD i false)=bs.any id:=by
 induction bs with
 | nil=>rfl
 | cons b r ih=>rw[BV,GS,Do,KO,Do];exact congrArg _ ih
theorem E8 {A:Around} {bs:List Bool} {its:List Value} (hvs:cz (bs.map V.bl) its):TruthOf X.prog X.w A (λi v=>its[i]? = some v) (λi=>bs.getD i false):=by
 intro i v s Q E e q
 have hl:bs.length=its.length:=by have:=hvs.length;simpa using this
 have hi:i<bs.length:=by rw[hl];exact(AF.mp e).1
 obtain⟨u',e1,e2⟩:=hvs.get (i:=i) (x:=.bl bs[i]) (by simp[AB hi])
 rw[e]at e1;cases e1
 cases(show v=Value.bool bs[i]from e2)
 refine DO ?_
 simpa[BF,AB hi]using q
theorem bt_all {m:Mk} (hc:X.calm=true):gr X (.builtin "all") (uv X.K (btD .all m)):=by
 intro pins s σ H xs us Q I r ⟨ι,ds,μ,hS,hds,h⟩
 obtain⟨d,v,rfl,hv,h⟩:=kh hds h
 obtain⟨a,bs,rfl,hq,h⟩:=E7 hS hv h
 obtain⟨u,rfl,ru⟩:=vals1 r
 cases(show u=Value.ref a from ru)
 refine call_all_walk (u7 I hq (show X.A.in1.handled=none from I.ok.hd hc) λit fp its St s2 hvs W st hfp hI=>?_)
 have hl:bs.length=its.length:=by have:=hvs.length;simpa using this
 refine⟨it,fp,[it],its.length,_,St,λi=>bs.getD i false,rfl,W,st,E8 hvs,λh' tk hk=>?_⟩
 refine⟨.bl (bs.all id),H,hI h' tk hk,?_,h.ok hS (by simp[IsD])⟩
 rw[<-hl,all_range]
 rfl
theorem bt_any {m:Mk} (hc:X.calm=true):gr X (.builtin "any") (uv X.K (btD .any m)):=by
 intro pins s σ H xs us Q I r ⟨ι,ds,μ,hS,hds,h⟩
 obtain⟨d,v,rfl,hv,h⟩:=kh hds h
 obtain⟨a,bs,rfl,hq,h⟩:=E7 hS hv h
 obtain⟨u,rfl,ru⟩:=vals1 r
 cases(show u=Value.ref a from ru)
 refine call_any_walk (u7 I hq (show X.A.in1.handled=none from I.ok.hd hc) λit fp its St s2 hvs W st hfp hI=>?_)
 have hl:bs.length=its.length:=by have:=hvs.length;simpa using this
 refine⟨it,fp,[it],its.length,_,St,λi=>bs.getD i false,rfl,W,st,E8 hvs,λh' tk hk=>?_⟩
 refine⟨.bl (bs.any id),H,hI h' tk hk,?_,h.ok hS (by simp[IsD])⟩
 rw[<-hl,any_range]
 rfl
end
theorem Dj {prog:Program} {w:World} {A:Around} {E:Value->Shared->Prop} {s:Shared} {t sl:Addr} {items:Array Value} {vl vu:Value} {lo hi:Option Int} {Q:Value->Shared->Prop} (ht:IsTup s.heap t items) (hs:s.heap.IsSliceOf sl vl vu .none) (pl:IsPart vl lo) (pu:IsPart vu hi)
  (hw:HT.sIx items.size 0 lo=0/\HT.sIx items.size items.size hi=items.size) (h:Q (.ref t) s):wpAny (model prog w) A (getItem (.ref t) (.ref sl)) Q E s:=by
 obtain⟨os,hos,hcs,hds⟩:=id hs
 have hTs:s.TypeIs (.ref sl) "slice":=⟨os,hos,hcs⟩
 unfold getItem
 try with_reducible refine CP ?_
 first | refine AA (AE ?_) | skip
 refine AA (wpAny_sequenceKey ht.typeIs (by decide) ?_)
 refine AA (BO (name:=Str.ofString "__getitem__") ht.typeIs CK
  (BP CK ht.typeIs entry_tuple_getitem ?_ (args_tuple_getitem _ _)))
 show wpAny _ _ (Builtin.Tuple.tupleItemsOf (.ref t)>>=_) _ _ s
 refine AA (tupleItemsOf_ ht ?_)
 refine AA (FE hTs ?_)
 rw[if_pos (by decide)]
 refine AA (HT.oq hs pl pu ?_)
 have hyes:(((HT.sIx items.size 0 lo:Nat):Int)==0&&(1:Int)==1&&(HT.sIx items.size items.size hi-HT.sIx items.size 0 lo)==items.size)=true:=by
  rw[hw.1,hw.2];simp
 show wpAny _ _ (if(((HT.sIx items.size 0 lo:Nat):Int)==0&&(1:Int)==1&&(HT.sIx items.size items.size hi-HT.sIx items.size 0 lo)==items.size)=true then _ else _) _ _ s
 rw[if_pos hyes]
 refine AA ?_
 unfold Builtin.Tuple.tupleIsExact
 refine AA (FE ht.typeIs (AE ?_))
 rw[if_pos (by decide)]
 exact AA (FU (AE ⟨_,rfl,AE h⟩))
section
variable {X : Cx} {φ : Phi} {pins : List (Addr × Obj)} {σ : St} {H : Hp} {s : Shared}
theorem aac {m:Mk}:SlR X (λx lo hi H Q=>∃ι d μ,Sim X.K ι H μ/\IsD X.K ι H d x/\i5 X.K (RD X.K) ι H (slD m d lo hi μ) Q):=by
 intro pins s σ H x v vl vu lo hi sl Q I rx hs pl pu ⟨ι,d,μ,hS,hd,h⟩
 unfold slD at h
 split at h
 ·rename_i ds
  obtain⟨a,xs,rfl,hq,hxs⟩:=jq hd
  by_cases hw:HT.sIx xs.length 0 lo=0/\HT.sIx xs.length xs.length hi=xs.length
  ·cases(show v=Value.ref a from rx)
   obtain⟨its,r,ht,hz⟩:=I.tuple hq
   have hlen:its.toArray.size=xs.length:=by rw[AG];exact r.length.symm
   refine⟨"tuple",_,CK.lookup,ht.typeIs,Dj ht hs pl pu (by rw[hlen];exact hw) ⟨.ref a,H,I,rfl,h.ok hS ?_⟩⟩
   have e1:∀n d o,Lp.sIx n d o=HT.sIx n d o:=λn d o=>by cases o<;>rfl
   have ec:cut ds lo hi=ds:=by
    unfold cut
    rw[e1,e1,<-hxs.length,hw.1,hw.2]
    simp[hxs.length]
   rw[ec]
   exact hd
  ·exact Vz pins s σ H _ v vl vu lo hi sl Q I rx hs pl pu ⟨a,xs,rfl,hq,hw,λp hp=>zo hS (Qd hxs lo hi) h hp⟩
 ·split at h
  ·rename_i es
   obtain⟨a,xs,rfl,ha,hxs⟩:=mr hS hd es
   exact SlR.fq Sk pins s σ H _ v vl vu lo hi sl Q I rx hs pl pu ⟨a,xs,rfl,ha.sq,λp hp=>mq hS (Qd hxs lo hi) h hp⟩
  ·exact h.elim
theorem PO.imp {e:Option Expr} {t t':TO} (h:PO X e t) (i:∀σ H Q,t' σ H Q->t σ H Q):PO X e t':=by
 intro pins s σ H Q I q
 exact h pins s σ H Q I (i _ _ _ q)
theorem acz:PO X none (tEo X.K φ .no):=PO.imp Sg λσv H Q ⟨ι,σ,μ,hS,hL,h⟩=>by
 simp![evO]at h
 exact h.ok hS rfl
theorem ac0 {e:Expr} {x:Ex} (he:PE X e (tE X.K φ x)):PO X (some e) (tEo X.K φ (.so x)):=PO.imp (Sh he) λσv H Q ⟨ι,σ,μ,hS,hL,h⟩=>by
 simp![evO]at h
 obtain⟨d,μ1,e1,h⟩:=h.bind
 refine⟨ι,σ,μ,hS,hL,?_⟩
 rw[e1]
 intro ι1 v H1 p1 x1 s1 d1
 cases d with
 | int i=>exact⟨i,f6 d1,h ι1 (some i) H1 p1 x1 s1 rfl⟩
 | _=>exact h.elim
theorem ac1 {e:Expr} {lo hi:Option Expr} {x:Ex} {xl xh:ExO} {m:Mk} {p2 pos:Pos} (he:PE X e (tE X.K φ x)) (hl:PO X lo (tEo X.K φ xl)) (hh:PO X hi (tEo X.K φ xh)):PE X (.Subscript e (.Slice lo hi none p2) pos) (tE X.K φ (.sl m x xl xh)) :=
 PE.imp (Nl aac he hl hh) λσv H Q ⟨ι,σ,μ,hS,hL,h⟩=>by
  simp![evE]at h
  obtain⟨d,μ1,e1,h⟩:=h.bind
  refine⟨ι,σ,μ,hS,hL,?_⟩
  rw[e1]
  intro ι1 v H1 p1 x1 s1 d1
  obtain⟨l,μ2,e2,h⟩:=h.bind
  refine⟨ι1,σ,μ1,s1,hL.mono p1 x1,?_⟩
  rw[e2]
  intro ι2 l' H2 p2 x2 s2 d2
  cases d2
  obtain⟨u,μ3,e3,h⟩:=h.bind
  refine⟨ι2,σ,μ2,s2,(hL.mono p1 x1).mono p2 x2,?_⟩
  rw[e3]
  intro ι3 u' H3 p3 x3 s3 d3
  cases d3
  exact⟨ι3,d,μ3,s3,IsD.mono p3 x3 _ _ (IsD.mono p2 x2 _ _ d1),h.mono ((p1.trans p2).trans p3) ((x1.trans x2).trans x3)⟩
def uj:Cl->String
 | .int=>"int"
 | .bool=>"bool"
 | .tuple=>"tuple"
 | .list=>"list"
 | .str=>"str"
 | .own _=>""
def zr:String->Cl->Bool
 | "bool",.int=>true
 | "bool",.bool=>true
 | "int",.int=>true
 | "str",.str=>true
 | "tuple",.tuple=>true
 | "list",.list=>true
 | _,_=>false
theorem vy (K:PySem.W.Frag) (t:String) (c:Cl) (hc:∀n,c≠.own n) (ht:t∈["NoneType","bool","int","str","tuple","list"]):PySem.W.kitOne K (.type t) (.type (uj c))=some (zr t c):=by
 simp![AL,BI,or_false]at ht
 rcases ht with rfl | rfl | rfl | rfl | rfl | rfl<;>cases c<;>first | rfl | exact absurd rfl (hc _)
theorem W3 {c:Cl} (hc:∀n,c≠.own n):gr X (.builtin "isinstance") (λxs H Q=>∃ι d μ v,xs=[v,.ty (uj c)]/\Sim X.K ι H μ/\IsD X.K ι H d v/\i5 X.K (RD X.K) ι H (Qb c d μ) Q):=by
 intro pins s σ H xs us Q I r ⟨ι,d,μ,v,e,hS,hd,h⟩
 subst e
 obtain⟨u,w,rfl,ru,rw'⟩:=vals2 r
 cases(show w=Value.type (uj c)from rw')
 have key:∀(t:String),t∈["NoneType","bool","int","str","tuple","list"]->(∀tk,EP X pins σ Q (.bool (zr t c)) {s with toks:=tk})->PySem.W.kitOne X.K (.type t) (.type (uj c))=some (zr t c)/\∀tk,EP X pins σ Q (.bool (zr t c)) {s with toks:=tk}:=λt ht hq=>⟨vy X.K t c hc ht,hq⟩
 have lst:∀a xs,v=.ref a->LsL X.K H a xs->Q (.bl (zr "list" c)) H->wpAny (model X.prog X.w) X.A (call (.builtin "isinstance") [u,.type (uj c)]) (EP X pins σ Q) X.xe s:=λa xs e hq q=>by
  subst e
  cases(show u=Value.ref a from ru)
  obtain⟨z,its,n,hv,_,hg⟩:=I.ls hq
  exact FJ PySem.W.kitx_list I.kIn ⟨_,hg,rfl⟩ (vy X.K "list" c hc (by decide)) (λz=>nomatch z) λtk=>⟨.bl (zr "list" c),H,I.tok tk,rfl,q⟩
 cases d with
 | non =>
  cases(show v=.non by simpa[IsD]using hd)
  cases(show u=Value.none from ru)
  refine FJ PySem.W.kitx_none I.kIn True.intro (vy X.K "NoneType" c hc (by decide)) (λz=>nomatch z) λtk=>⟨.bl (zr "NoneType" c),H,I.tok tk,rfl,?_⟩
  cases c<;>first | exact absurd rfl (hc _) | exact h.ok hS (by simp[IsD,zr])
 | bl b =>
  cases Bj hd
  cases(show u=Value.bool b from ru)
  refine FJ PySem.W.kitx_bool I.kIn True.intro (vy X.K "bool" c hc (by decide)) (λz=>nomatch z) λtk=>⟨.bl (zr "bool" c),H,I.tok tk,rfl,?_⟩
  cases c<;>first | exact absurd rfl (hc _) | exact h.ok hS (by simp[IsD,zr])
 | int i =>
  cases f6 hd
  obtain⟨t,rfl⟩:=(show ∃t,u=Value.int i t from ru)
  refine FJ PySem.W.kitx_int I.kIn True.intro (vy X.K "int" c hc (by decide)) (λz=>nomatch z) λtk=>⟨.bl (zr "int" c),H,I.tok tk,rfl,?_⟩
  cases c<;>first | exact absurd rfl (hc _) | exact h.ok hS (by simp[IsD,zr])
 | str x =>
  cases(show v=.str x by simpa[IsD]using hd)
  obtain⟨t,rfl⟩:=(show ∃t,u=Value.str x t from ru)
  refine FJ PySem.W.kitx_str I.kIn True.intro (vy X.K "str" c hc (by decide)) (λz=>nomatch z) λtk=>⟨.bl (zr "str" c),H,I.tok tk,rfl,?_⟩
  cases c<;>first | exact absurd rfl (hc _) | exact h.ok hS (by simp[IsD,zr])
 | tup ds =>
  obtain⟨a,xs,rfl,hq,hxs⟩:=jq hd
  cases(show u=Value.ref a from ru)
  obtain⟨its,hv,⟨o,h1,h2,_⟩,hz⟩:=I.tuple hq
  refine FJ PySem.W.kitx_tuple I.kIn ⟨o,h1,h2⟩ (vy X.K "tuple" c hc (by decide)) (λz=>nomatch z) λtk=>⟨.bl (zr "tuple" c),H,I.tok tk,rfl,?_⟩
  cases c<;>first | exact absurd rfl (hc _) | exact h.ok hS (by simp[IsD,zr])
 | lst ds =>
  obtain⟨a,xs,rfl,hq,hxs⟩:∃a xs,v=.ref a/\FzL X.K H a xs/\ar X.K ι H ds xs:=by simpa[IsD]using hd
  refine lst a xs rfl (.inr hq) ?_
  cases c<;>first | exact absurd rfl (hc _) | exact h.ok hS (by simp[IsD,zr])
 | loc n =>
  cases c with
  | list =>
   simp![Qb]at h
   split at h
   ·rename_i ds em
    obtain⟨a,xs,rfl,hq,hxs⟩:=mr (ds:=ds) hS hd (by simp[listOf,em])
    exact lst a xs rfl hq (h.ok hS (by simp[IsD,zr]))
   ·rename_i ds em
    obtain⟨a,xs,rfl,hq,hxs⟩:=mr (ds:=ds) hS hd (by simp[listOf,em])
    exact lst a xs rfl hq (h.ok hS (by simp[IsD,zr]))
   ·exact h.elim
  | own k=>exact absurd rfl (hc k)
  | _=>exact h.elim
theorem aad {a:Expr} {xa:Ex} {c:Cl} {cn:Str} {p cp pos:Pos} (hc:∀n,c≠.own n) (ha:PE X a (tE X.K φ xa)) (hgi:Gl X "isinstance") (hmi:X.mg "isinstance"=none) (hgc:Gl X cn) (hmc:X.mg cn=none) (hbc:bootBuiltins cn=some (.type (uj c)))
  (hn:cn≠"__name__") (hd:(cn==("__debug__":Str))=false) (hs:starEach [a,.Name cn cp] X.env=(false,eval a X.env)::starEach [.Name cn cp] X.env) :
  PE X (.Call (.Name "isinstance" p) [a,.Name cn cp] [] pos) (tE X.K φ (.isi xa c)):=by
 have hb:PE X (.Name cn cp) (tC (.ty (uj c))):=R4 hgc hmc hbc rfl hn hd
 refine PE.imp (i9 (W3 hc) hgi hmi boot_isinstance (C1 ha (C1 hb Py) hs) (by decide) (by decide) hs) λσv H Q ⟨ι,σ,μ,hS,hL,h⟩=>?_
 simp![evE]at h
 obtain⟨d,μ1,e1,h⟩:=h.bind
 refine⟨ι,σ,μ,hS,hL,?_⟩
 rw[e1]
 exact λι1 v H1 p1 x1 s1 d1=>⟨ι1,d,μ1,v,rfl,s1,d1,h.mono p1 x1⟩
theorem Qf {K:PySem.W.Frag} {ι:List Addr} {μ:Sto} {n:Nat} {v:V} {ob:O} {xs:List D} (hS:Sim K ι H μ) (hd:IsD K ι H (.loc n) v) (e:μ[n]? = some ob) (hi:gj ob=some xs) :
  ∃a vs,v=.ref a/\ι[n]? = some a/\H a=some (.lst vs)/\ar K ι H xs vs/\(∀ds,ob=.l ds->ar K [] H xs vs):=by
 obtain⟨a,rfl,ha⟩:∃a,v=.ref a/\ι[n]? = some a:=by simpa[IsD]using hd
 obtain⟨a',ea,ho⟩:=hS.at e
 rw[ha]at ea;cases ea
 cases ob with
 | l ds =>
  cases hi
  obtain⟨vs,e1,e2⟩:=ho
  exact⟨a,vs,rfl,ha,e1,ar.mono (CN) (.refl _) _ _ e2,λ_ _=>e2⟩
 | r ds =>
  cases hi
  obtain⟨vs,e1,e2⟩:=ho
  exact⟨a,vs,rfl,ha,e1,e2,λ_ z=>by cases z⟩
 | d _=>cases hi
 | dt _=>cases hi
 | dead=>cases hi
theorem nz {K:PySem.W.Frag} {ι:List Addr} {μ:Sto} {n:Nat} {ob:O} {ys:List D} {vs ws:List V} {d:D} {v:V} {a:Addr} {Q:VK} (hS:Sim K ι H μ) (ha:ι[n]? = some a) (hH:H a=some (.lst vs))
  (hw:ar K ι H ys ws) (hw0:∀ds,ob=.l ds->ar K [] H ys ws) (hd:IsD K ι H d v) (h:i5 K (RD K) ι H (putL n ob ys d μ) Q):Q v (upd H a (.lst ws)):=by
 cases ob with
 | l ds =>
  exact h ι v _ (AO _) (.lst hH) (hS.put ha (.lst hH) ⟨ws,bf,ar.mono (AO _) (.lst hH) _ _ (hw0 ds rfl)⟩) (IsD.mono (AO _) (.lst hH) _ _ hd)
 | r ds =>
  exact h ι v _ (AO _) (.lst hH) (hS.put ha (.lst hH) ⟨ws,bf,ar.mono (AO _) (.lst hH) _ _ hw⟩) (IsD.mono (AO _) (.lst hH) _ _ hd)
 | d _=>exact h.elim
 | dt _=>exact h.elim
 | dead=>exact h.elim
theorem vz {K:PySem.W.Frag} {ι:List Addr} {ob:O} {d:D} {v:V} (hf:fits ob d=true) (hd:IsD K ι H d v):∀ds,ob=.l ds->IsD K [] H d v:=λds e=>by
 subst e
 exact IsD.pur hf hd
def rMt (K:PySem.W.Frag) (mt:Mt):V->List V->Hp->VK->Prop:=λx vs H Q=>∃ι d ds μ,Sim K ι H μ/\IsD K ι H d x/\ar K ι H ds vs/\i5 K (RD K) ι H (mtD mt d ds μ) Q
theorem Jz {mt:Mt} (hne:mt≠.count/\mt≠.countL/\mt≠.get) {x:V} {vs:List V} {Q:VK} (h:rMt X.K mt x vs H Q):∃ι n ob xs ds μ a ws,Sim X.K ι H μ/\ar X.K ι H ds vs/\x=.ref a/\ι[n]? = some a/\H a=some (.lst ws)/\ar X.K ι H xs ws /\
  (∀es,ob=.l es->ar X.K [] H xs ws)/\i5 X.K (RD X.K) ι H (mtL mt n ob xs ds μ) Q:=by
 obtain⟨ι,d,ds,μ,hS,hd,hds,h⟩:=h
 have e0:mtD mt d ds μ=tq mt d ds μ:=by
  cases mt<;>first | exact absurd rfl hne.1 | exact absurd rfl hne.2.1 | exact absurd rfl hne.2.2 | rfl
 rw[e0]at h
 cases d with
 | loc n =>
  simp![tq]at h
  cases em:μ[n]? with
  | none=>rw[em]at h;exact h.elim
  | some ob =>
   rw[em]at h
   simp only at h
   cases ei:gj ob with
   | none=>rw[ei]at h;exact h.elim
   | some xs =>
    rw[ei]at h
    obtain⟨a,ws,ex,ha,hH,h1,h2⟩:=Qf hS hd em ei
    exact⟨ι,n,ob,xs,ds,μ,a,ws,hS,hds,ex,ha,hH,h1,h2,h⟩
 | _=>exact h.elim
theorem N6:MtR X "list.append" (rMt X.K .append):=MtR.imp Je λx vs H Q h0=>by
 obtain⟨ι,n,ob,xs,ds,μ,a,ws,hS,hds,rfl,ha,hH,h1,h2,h⟩:=Jz (by decide) h0
 clear h0
 simp![mtL]at h
 obtain⟨d,v,rfl,hv,h⟩:=kh hds h
 split at h
 ·rename_i hf
  rw[l6]at hf
  refine⟨a,ws,v,rfl,rfl,hH,by rw[h1.length];exact hf.2,nz hS ha hH (h1.append (.one hv)) (λes e=>(h2 es e).append (.one (vz hf.1 hv es e))) (by simp[IsD]) h⟩
 ·exact h.elim
theorem aae:MtR X "list.pop" (rMt X.K .pop):=by
 intro pins s σ H x vs v us Q I rx rv h0
 obtain⟨ι,n,ob,xs,ds,μ,a,ws,hS,hds,rfl,ha,hH,h1,h2,h⟩:=Jz (by decide) h0
 clear h0
 simp![mtL]at h
 split at h
 ·have e:vs=[]:=by simpa[ar]using hds
  subst e
  split at h
  ·rename_i d ed
   have hl:xs[xs.length-1]? = some d:=by rw[<-List.getLast?_eq_getElem?];exact ed
   obtain⟨w,ew,hw⟩:=h1.get hl
   refine V6 pins s σ H _ _ v us Q I rx rv ⟨a,ws,w,rfl,rfl,hH,by rw[h1.length];exact ew,nz hS ha hH h1.dropLast (λes e=>(h2 es e).dropLast) hw h⟩
  ·exact h.elim
 ·rename_i i
  obtain⟨w0,rfl,hw0⟩:=Qe hds
  cases f6 hw0
  split at h
  ·rename_i hi
   rw[l6]at hi
   have h24:sizeLine=16777216:=Db
   rw[h24]at hi
   split at h
   ·rename_i d ed
    obtain⟨w,ew,hw⟩:=h1.get ed
    have hlt:i.toNat<xs.length:=(AF.mp ed).1
    refine Nn pins s σ H _ _ v us Q I rx rv ⟨a,ws,i,i.toNat,w,rfl,rfl,hH,by lia,by lia,?_,ew,nz hS ha hH (h1.eraseIdx _) (λes e=>(h2 es e).eraseIdx _) hw h⟩
    rw[h1.length]
    exact PySem.StrLaws.seqIndex_nonneg hi.1 (by lia)
   ·exact h.elim
  ·exact h.elim
 ·exact h.elim
theorem J0:MtR X "list.reverse" (rMt X.K .reverse):=MtR.imp G4 λx vs H Q h0=>by
 obtain⟨ι,n,ob,xs,ds,μ,a,ws,hS,hds,rfl,ha,hH,h1,h2,h⟩:=Jz (by decide) h0
 clear h0
 simp![mtL]at h
 split at h
 ·have e:vs=[]:=by simpa[ar]using hds
  subst e
  exact⟨a,ws,rfl,rfl,hH,nz hS ha hH h1.reverse (λes e=>(h2 es e).reverse) (by simp[IsD]) h⟩
 ·exact h.elim
end
theorem IsD.belowN {K:PySem.W.Frag} {ι ι':List Addr} {H:Hp} (hp:ι <+: ι'):∀(k:Nat) (d:D) (v:V),D.belowN ι.length k d=true->IsD K ι' H d v->IsD K ι H d v:=by
 have list:∀(k:Nat),(∀(d:D) (v:V),D.belowN ι.length k d=true->IsD K ι' H d v->IsD K ι H d v) ->
   ∀(ds:List D) (xs:List V),ds.all (D.belowN ι.length k)=true->ar K ι' H ds xs->ar K ι H ds xs:=by
  intro k ih ds
  induction ds with
  | nil=>intro xs _ h;simpa[ar]using h
  | cons d ds ihd =>
   intro xs hp h
   simp![ar]at h ⊢
   simp![BB,BC]at hp
   obtain⟨v,r,e,q,t⟩:=h
   exact⟨v,r,e,ih d v hp.1 q,ihd r hp.2 t⟩
 have loc:∀(n:Nat) (v:V),n<ι.length->IsD K ι' H (.loc n) v->IsD K ι H (.loc n) v:=λn v hn h=>by
  simp![IsD]at h ⊢
  obtain⟨a,e,q⟩:=h
  obtain⟨t,rfl⟩:=hp
  rw[AV hn]at q
  exact⟨a,e,q⟩
 intro k
 induction k with
 | zero =>
  intro d v hb h
  cases d with
  | loc n=>exact loc n v (by simpa[D.belowN]using hb) h
  | tup ds=>simp[D.belowN]at hb
  | lst ds=>simp[D.belowN]at hb
  | _=>simpa[IsD]using h
 | succ k ih =>
  intro d v hb h
  cases d with
  | tup ds =>
   simp![D.belowN]at hb
   simp![IsD]at h ⊢
   obtain⟨a,xs,e,q,r⟩:=h
   exact⟨a,xs,e,q,list k ih ds xs hb r⟩
  | lst ds =>
   simp![D.belowN]at hb
   simp![IsD]at h ⊢
   obtain⟨a,xs,e,q,r⟩:=h
   exact⟨a,xs,e,q,list k ih ds xs hb r⟩
  | loc n=>exact loc n v (by simpa[D.belowN]using hb) h
  | _=>simpa[IsD]using h
theorem ar.belowN {K:PySem.W.Frag} {ι ι':List Addr} {H:Hp} (hp:ι <+: ι') {k:Nat}:∀(ds:List D) (xs:List V),ds.all (D.belowN ι.length k)=true->ar K ι' H ds xs->ar K ι H ds xs
 | [],xs,_,h=>by simpa[ar]using h
 | d::ds,xs,hb,h=>by
  simp![ar]at h ⊢
  simp![BB,BC]at hb
  obtain⟨v,r,e,q,t⟩:=h
  exact⟨v,r,e,IsD.belowN hp k d v hb.1 q,ar.belowN hp ds r hb.2 t⟩
theorem Sim.cut {K:PySem.W.Frag} {ι ι':List Addr} {H:Hp} {μ:Sto} (h:Sim K ι' H μ) (hp:ι <+: ι') (hc:(μ.take ι.length).all (gc ι.length)=true):Sim K ι H (μ.take ι.length):=by
 have hl:ι.length<=μ.length:=by rw[<-h.len];exact hp.length_le
 refine⟨by rw[EX];lia,hp.sublist.nodup h.nd,λn a o e1 e2=>?_⟩
 have hn:n<ι.length:=(AF.mp e1).1
 have e1':ι'[n]? = some a:=by
  obtain⟨t,rfl⟩:=hp
  rw[AV hn];exact e1
 have e2':μ[n]? = some o:=by
  rw[IR hn]at e2;exact e2
 have q:=h.obj n a o e1' e2'
 have c:gc ι.length o=true:=AN.mp hc o (BD e2)
 cases o with
 | l ds=>exact q
 | r ds =>
  obtain⟨xs,e,r⟩:=q
  exact⟨xs,e,ar.belowN hp ds xs c r⟩
 | d kvs=>exact q
 | dt kvs=>exact q
 | dead=>exact q
theorem J1 {K:PySem.W.Frag} {ι:List Addr} {H:Hp} {μ:Sto} {keep:Bool} {r:Res D} {Q:VK} (hS:Sim K ι H μ) (h:i5 K (RD K) ι H (uu keep μ.length r) Q):i5 K (RD K) ι H r Q:=by
 cases r with
 | exc c ds μ'=>exact h
 | stuck=>exact h
 | ok d μ' =>
  cases keep with
  | true=>simpa[uu]using h
  | false =>
   simp![uu,AS,if_false]at h
   split at h
   ·rename_i hc
    rw[<-hS.len]at hc h
    exact λι' v H' p e s q=>h ι v H' (AO _) e (s.cut p hc.2) (IsD.belowN p 8 d v hc.1 q)
   ·exact h.elim
def spD (K:PySem.W.Frag) (φ:Phi) (f:Nat):Sp:=λvs H Q _=>∃ι ds μ,Sim K ι H μ/\ar K ι H ds vs/\i5 K (RD K) ι H (φ f ds μ) Q
def Callee (P:Program) (w:World) (K:PySem.W.Frag) (mg:Str->Option Value) (base:Heap) (A:Around) (φ:Phi) (f:Nat) (x:Str):Prop :=
 ∃(k:Nat) (fa:Addr) (fd:FuncData) (ps:List Str),FnOk P w K mg base CX0 k fa fd ps (spD K φ f)/\Room k A/\mg x=some (.ref fa)/\PySem.W.keepIn K (.ref fa)=true/\Binds K fd ps []
section
variable {X : Cx} {φ : Phi} {x : Str} {p pos : Pos} {e : Expr} {es : List Expr} {xs : Exs} {f : Nat} {keep : Bool}
theorem s_call (C:Callee X.prog X.w X.K X.mg X.base X.A φ f x) (hg:Gl X x) (ha:PA X (e::es) (tEs X.K φ xs)) (hdb:(x==("__debug__":Str))=false)
  (he:starEach (e::es) X.env=(false,eval e X.env)::starEach es X.env) (hpl:(backTo pos (starEach es X.env)).any (·.1)=false):PE X (.Call (.Name x p) (e::es) [] pos) (tE X.K φ (.call keep f xs)):=by
 obtain⟨k,fa,fd,ps,F,hr,hm,hk,hb⟩:=C
 refine PE.imp (Sd F hr hg hm hk hb .nil Zp ha hdb he hpl) λσv H Q ⟨ι,σ,μ,hS,hL,h⟩=>?_
 simp![evE]at h
 obtain⟨ds,μ1,e1,h⟩:=h.bind
 refine⟨ι,σ,μ,hS,hL,?_⟩
 rw[e1]
 intro ι1 vs H1 p1 x1 s1 d1
 exact⟨ι1,ds,μ1,s1,by rw[GG];exact d1,J1 s1 (h.mono p1 x1)⟩
end
theorem Te {P:Program} {w:World} {K:PySem.W.Frag} {mg:Str->Option Value} {base:Heap} {x qual:Str} {st:Stmt} {fa:Addr} {fd:FuncData} {N ps:List Str} {n f:Nat} {T:List Df} {df:Df} (F:Fun K x qual st fa fd) (S:FnScope N ps (c8 st))
  (hd:T[f]? = some df) (hnp:df.np=ps.length) (hnn:df.nn=N.length)
  (hb:∀(cdv:Value) (A:Around) (outer:List Env) (s:Shared) (H:Hp) (E:XK),Room n (A.deeper (envOfC qual (c8 st) s.heap.objs.size fa cdv)) ->
   PSs (Ni CX0 P w K mg base N qual (c8 st) fa cdv A outer s H E).nox (nv st) (tSs K (ak T n) df.body)):FnOk P w K mg base CX0 (n+1) fa fd ps (spD K (ak T (n+1)) f):=by
 have len:∀{vs:List V} {H:Hp} {ds:List D} {ι:List Addr} {μ:Sto} {Q:VK},ar K ι H ds vs->i5 K (RD K) ι H (ak T (n+1) f ds μ) Q->ds.length=df.np:=λ{vs H ds ι μ Q} hds h=>by
  simp![ak,hd,U8]at h
  split at h
  ·assumption
  ·exact h.elim
 refine F.ok S (λvs H Q E ⟨ι,ds,μ,hS,hds,h⟩=>?_) λcdv A outer s H vs Q E hr ⟨ι,ds,μ,hS,hds,h⟩=>⟨_,hb cdv A outer s H E hr,?_⟩
 ·rw[hds.length,len hds h,hnp]
 ·have hl:=len hds h
  refine⟨ι,ds.map some++List.replicate (df.nn-df.np) none,μ,hS,λi d e=>?_,?_,?_⟩
  ·by_cases hi:i<ds.length
   ·rw[AV (by simpa using hi),AW]at e
    cases ed:ds[i]? with
    | none=>rw[ed]at e;cases e
    | some d' =>
     rw[ed]at e
     simp![JS,BN]at e
     subst e
     obtain⟨v,ev,hv⟩:=hds.get ed
     refine⟨v,?_,hv⟩
     unfold L2.start
     rw[AV (by rw[AD,hds.length];exact hi),AW,ev]
     rfl
   ·rw[BQ (by simpa using hi),EA]at e
    split at e<;>cases e
  ·unfold L2.start
   simp![BU,AD,JX,hds.length]
   lia
  ·simp![ak,hd,U8,if_pos hl]at h
   cases er:qa (ak T n) df.body (ds.map some++List.replicate (df.nn-df.np) none) μ with
   | exc c es μ'=>rw[er]at h;exact h.elim
   | stuck=>rw[er]at h;exact h.elim
   | ok fl μ' =>
    rw[er]at h
    simp![Res.bg]at h
    cases fl with
    | nx σ'=>exact λι' σv H' p e s' l z=>h ι' .non H' p e s' (by simp[IsD])
    | rt d=>exact λι' v H' p e s' q=>h ι' v H' p e s' q
    | bk σ'=>exact h.elim
    | ct σ'=>exact h.elim
theorem Tf {P:Program} {w:World} {K:PySem.W.Frag} {mg:Str->Option Value} {base:Heap} {fa:Addr} {fd:FuncData} {ps:List Str} {f:Nat} {T:List Df}:FnOk P w K mg base CX0 0 fa fd ps (spD K (ak T 0) f) :=
 ⟨λvs H Q E ⟨ι,ds,μ,hS,hds,h⟩=>h.elim,λA outer s H args us vs Q E hr he hb hv ⟨ι,ds,μ,hS,hds,h⟩=>h.elim⟩
structure Ent where
 id:Nat
 name:Str
 st:Stmt
 N:List Str
 ps:List Str
 df:Df
structure ModOf (K:PySem.W.Frag) (mg:Str->Option Value) (e:Ent):Prop where
 ex:∃(fa:Addr) (fd:FuncData),mg e.name=some (.ref fa)/\Fun K e.name e.name e.st fa fd/\∀us:List Value,us.length=e.ps.length->bindArgs fd ⟨us,[]⟩=pure (e.ps.zip us)
theorem c6 {K:PySem.W.Frag} {h:Heap} {mg:Str->Option Value} {e:Ent} {f:Addr} {oc:Value} {od an:Option Addr} {sl:Array (Option Value)} {kV dc pm cd ct:Value} (X:K.In h) (G:h.Ns mainGlobals mg) (a:PySem.W.nsIn K mainGlobals e.name=some (some (.ref f)))
  (l:K.lookup f=some ⟨oc,od,.func (PySem.W.fnOf e.name e.name (vk e.st) (nv e.st) (c8 e.st) .none kV dc pm an cd ct),sl⟩) (c:PySem.W.codeIn K cd e.name=true) (k:PySem.W.keepIn K (.ref f)=true)
  (hb:∀(kV doc pm:Value) (an:Option Addr) (cdv ct:Value) (us:List Value),us.length=e.ps.length->bindArgs (PySem.W.fnOf e.name e.name (vk e.st) (nv e.st) (c8 e.st) .none kV doc pm an cdv ct) ⟨us,[]⟩=pure (e.ps.zip us)):ModOf K mg e :=
 ⟨f,_,PySem.W.mg_of X G a,Wa l c k,hb kV dc pm an cd ct⟩
structure Derived (T:List Df) (P:Program) (w:World) (K:PySem.W.Frag) (mg:Str->Option Value) (base:Heap) (es:List Ent) (e:Ent):Prop where
 sc:FnScope e.N e.ps (c8 e.st)
 tb:T[e.id]? = some e.df
 np:e.df.np=e.ps.length
 nn:e.df.nn=e.N.length
 dv:∀(n:Nat) (fa:Addr) (cdv:Value) (A:Around) (outer:List Env) (s:Shared) (H:Hp) (E:XK),(A.deeper (envOfC e.name (c8 e.st) s.heap.objs.size fa cdv)).units+64<cLine ->
  (∀(j:Nat) e',es[j]? = some e'->Callee P w K mg base (A.deeper (envOfC e.name (c8 e.st) s.heap.objs.size fa cdv)) (ak T n) e'.id e'.name) ->
  PSs (Ni CX0 P w K mg base e.N e.name (c8 e.st) fa cdv A outer s H E).nox (nv e.st) (tSs K (ak T n) e.df.body)
theorem Qg {T:List Df} {P:Program} {w:World} {K:PySem.W.Frag} {mg:Str->Option Value} {base:Heap} {es:List Ent} (M:∀(j:Nat) e,es[j]? = some e->ModOf K mg e) (Dv:∀(j:Nat) e,es[j]? = some e->Derived T P w K mg base es e) :
  ∀(n:Nat) (j:Nat) e,es[j]? = some e->∀(fa:Addr) (fd:FuncData),mg e.name=some (.ref fa)->Fun K e.name e.name e.st fa fd->FnOk P w K mg base CX0 n fa fd e.ps (spD K (ak T n) e.id)
 | 0,j,e,_,fa,fd,_,_=>Tf
 | n+1,j,e,he,fa,fd,hm,hF=>by
  have d:=Dv j e he
  refine Te hF d.sc d.tb d.np d.nn λcdv A outer s H E hr=>d.dv n fa cdv A outer s H E hr.units λi e' he'=>?_
  obtain⟨fa',fd',hm',hF',hb'⟩:=(M i e' he').ex
  exact⟨n,fa',fd',e'.ps,Qg M Dv n i e' he' fa' fd' hm' hF',hr,hm',hF'.kp,.all hb'⟩
def N7 (K:PySem.W.Frag):Sp:=λvs H Q _=>∃(a:Addr) (ns:List Int),vs=[.ref a]/\FzL K H a (ns.map V.int)/\ns.length<=63/\∀H',Q (.bl true) H'
theorem W4 {T:List Df} {P:Program} {w:World} {K:PySem.W.Frag} {mg:Str->Option Value} {base:Heap} {es:List Ent} {n j:Nat} {e:Ent} {fa:Addr} {fd:FuncData} (M:∀(j:Nat) e,es[j]? = some e->ModOf K mg e) (Dv:∀(j:Nat) e,es[j]? = some e->Derived T P w K mg base es e)
  (he:es[j]? = some e) (hm:mg e.name=some (.ref fa)) (hF:Fun K e.name e.name e.st fa fd) (hps:e.ps.length=1)
  (hlaw:∀ns:List Int,ns.length<=63->∃μ',ak T n e.id [.lst (ns.map D.int)] []=.ok (.bl true) μ'):FnOk P w K mg base CX0 n fa fd e.ps (N7 K):=by
 refine(Qg M Dv n j e he fa fd hm hF).imp λvs H Q E ⟨a,ns,ev,hS,hl,q⟩=>?_
 subst ev
 obtain⟨μ',el⟩:=hlaw ns hl
 refine⟨[],[.lst (ns.map D.int)],[],⟨rfl,List.nodup_nil,λn a o e1 e2=>by simp at e1⟩,?_,?_⟩
 ·simp![ar,IsD]
  exact⟨.ref a,[],rfl,⟨a,_,rfl,hS,ar.ints ns⟩,rfl⟩
 ·rw[el]
  intro ι' v H' p x s' d
  have ev:v=.bl true:=by simpa[IsD]using d
  subst ev
  exact q H'
theorem Th {T:List Df} {P:Program} {w:World} {K:PySem.W.Frag} {mg:Str->Option Value} {es:List Ent} {n j:Nat} {e:Ent} {fa:Addr} (M:∀(j:Nat) e,es[j]? = some e->ModOf K mg e) (Dv:∀(base:Heap) (j:Nat) e,es[j]? = some e->Derived T P w K mg base es e)
  (he:es[j]? = some e) (hfa:mg e.name=some (.ref fa)) (hps:e.ps=[("script":Str)])
  (hlaw:∀ns:List Int,ns.length<=63->∃μ',ak T n e.id [.lst (ns.map D.int)] []=.ok (.bl true) μ') :
  ∃fd:FuncData,(∀(s:Shared) (v:Value),BindsTo s fd ⟨[v],[]⟩ [("script",v)])/\∀base:Heap,K.In base->base.Ns mainGlobals mg->FnOk P w K mg base CX0 n fa fd ["script"] (N7 K):=by
 obtain⟨fa',fd,hm,hF,hb⟩:=(M j e he).ex
 have z:=hfa.symm.trans hm
 cases z
 rw[hps]at hb
 refine⟨fd,λs v=>.of_eq (hb [v] rfl),λbase _ _=>?_⟩
 have q:=W4 M (Dv base) he hm hF (by rw[hps];rfl) hlaw
 rw[hps]at q
 exact q
theorem N8 {l:PySem.W.OpenLaw} {n:Nat} {q:Program} {loose:List Str} {XP:(Str->Option Value)->Heap->Prop} {YP:World->Heap->Prop} {d:DefRec} {K:Params->PySem.W.Frag} (hr:Room n callerA) (hn:l.most=some 63) (hdf:d.params.defaults=[])
  (hY:∀(w:World) (h:Heap),YP w h->(K w.params).In h)
  (F:∀(w:World) (mg:Str->Option Value) (fa:Addr) (h:Heap),(K w.params).In h->h.Ns mainGlobals mg->mg d.name=some (.ref fa) ->
   ∃fd:FuncData,(∀(s:Shared) (u:Value),BindsTo s fd ⟨[u],[]⟩ [("script",u)])/\∀base:Heap,(K w.params).In base->base.Ns mainGlobals mg->FnOk l.prog w (K w.params) mg base CX0 n fa fd ["script"] (N7 (K w.params))) :
  PySem.W.WalkO q loose XP YP l.row.toRowW d [] (λf vs=>PySem.call f vs) :=
 L2.Sv (n:=63) (k:=n) (x:="script") (CX:=λ_=>CX0) (sp:=λw=>N7 (K w.params)) hn (by decide) hdf hr hY F (λ_ _ a ns hl _ hS=>⟨a,ns,rfl,hS,hl,λ_=>rfl⟩) λ_ _ _ _ _ z=>z
def Exs.len:Exs->Nat
 | .nil=>0
 | .cons _ r=>r.len+1
theorem zt {φ:Phi}:∀{xs:Exs} {σ:Sl} {μ:Sto} {ds:List D} {μ':Sto},jh φ xs σ μ=.ok ds μ'->ds.length=xs.len
 | .nil,σ,μ,ds,μ',h=>by
  simp![jh]at h
  cases h;rfl
 | .cons e r,σ,μ,ds,μ',h=>by
  simp![jh]at h
  cases e1:evE φ e σ μ with
  | exc _ _ _=>rw[e1]at h;cases h
  | stuck=>rw[e1]at h;cases h
  | ok d μ1 =>
   rw[e1]at h
   simp![Res.bg]at h
   cases e2:jh φ r σ μ1 with
   | exc _ _ _=>rw[e2]at h;cases h
   | stuck=>rw[e2]at h;cases h
   | ok es μ2 =>
    rw[e2]at h
    cases h
    simp[Exs.len,zt e2]
def E9 (sc scope:Scope) (N Nb:List Str) (cap:List Nat) (nl:Nat):Bool :=
 decide (scope.kind=.function)&&scope.names.all (λy=>decide (y.2≠.cell)&&decide (scope.names.lookup y.1=some y.2)
  && (!decide (y.2=.free) || decide (sc.names.lookup y.1=some .cell) || decide (sc.names.lookup y.1=some .free)))
 && decide Nb.Nodup&&decide (Nb.length=cap.length+nl)
 && (List.range cap.length).all (λj=>match cap[j]?,Nb[j]? with
  | some i,some x=>decide (N[i]? = some x)&&scope.names.any λy=>decide (y.1=x)&&decide (y.2=.free)
  | _,_=>false)
theorem lookup_mem {l:List (Str×NameKind)} {n:Str} {k:NameKind} (h:l.lookup n=some k):(n,k)∈l:=by
 induction l with
 | nil=>cases h
 | cons a r ih =>
  obtain⟨m,j⟩:=a
  rw[EZ]at h
  cases hb:n==m with
  | true =>
   rw[hb]at h
   cases h
   have:n=m:=by simpa using hb
   subst this
   exact AQ
  | false =>
   rw[hb]at h
   exact AH _ (ih h)
theorem wa {scope:Scope} {env:Env} {n:Str} {k:NameKind} (h:(n,k)∈(relabel scope env).names):(n,k)∈scope.names\/(k=.cell/\(n,NameKind.free)∈scope.names):=by
 have h2:(n,k)∈scope.names.map (fun(n,k)=>if(k==NameKind.free&&env.scope.kind==.function&&env.kindOf n==some .cell)then(n,NameKind.cell)else(n,k)):=h
 obtain⟨⟨m,j⟩,hm,e⟩:=AU.mp h2
 dsimp only at e
 split at e
 ·rename_i hc
  cases e
  simp![BC,beq_iff_eq]at hc
  obtain⟨⟨rfl,_⟩,_⟩:=hc
  exact .inr ⟨rfl,hm⟩
 ·cases e
  exact .inl hm
theorem yl {sc scope:Scope} {N Nb:List Str} {cap:List Nat} {nl:Nat} (h:E9 sc scope N Nb cap nl=true):CompScope sc scope N Nb cap nl:=by
 simp![E9,BC,AN,decide_eq_true_eq,Bool.or_eq_true,Bool.not_eq_true',decide_eq_false_iff_not]at h
 obtain⟨⟨⟨⟨h1,h2⟩,h3⟩,h4⟩,h5⟩:=h
 refine⟨h1,λy hy=>(h2 y hy).1.1,λy hy=>(h2 y hy).1.2,λn hn=>?_,λn hn=>?_,h3,h4,λj i e=>?_⟩
 ·rcases(h2 (n,.free) hn).2 with(z | z) | z
  ·exact absurd rfl z
  ·exact .inl z
  ·exact .inr z
 ·rcases hn with hn | hn
  ·rcases wa (lookup_mem hn)with z | z
   ·exact absurd rfl (h2 _ z).1.1
   ·exact z.2
  ·rcases wa (lookup_mem hn)with z | z
   ·exact z
   ·exact z.2
 ·have hj:j<cap.length:=(AF.mp e).1
  have q:=h5 j (CO.mpr hj)
  rw[e]at q
  cases ex:Nb[j]? with
  | none=>rw[ex]at q;simp at q
  | some x =>
   rw[ex]at q
   simp![BC,decide_eq_true_eq,DM]at q
   obtain⟨q1,⟨y,k⟩,hy,e1,e2⟩:=q
   dsimp only at e1 e2
   subst e1;subst e2
   exact⟨y,rfl,q1,hy⟩
def ndB (l:List Str):Bool:=decide l.Nodup
theorem Fb {l:List Str} (h:ndB l=true):l.Nodup:=of_decide_eq_true h
section
variable {X : Cx} {φ : Phi} {a b c e : Expr} {es : List Expr} {xa xb xc xe : Ex} {xs : Exs} {pos : Pos}
theorem aa (i:Nat) {x:Str} (hN:X.N[i]? = some x:=by rfl) (hv:Vis X.env.scope x:=by first | exact Or.inl rfl | exact Or.inr (Or.inl rfl) | exact Or.inr (Or.inr rfl)) (hd:(x==("__debug__":Str))=false:=by decide)
  (hcd:(x==("__classdict__":Str))=false:=by decide):PE X (.Name x pos) (tE X.K φ (.var i)):=Zs hN hv hd hcd
theorem J2 (i:Nat) {x:Str} (hN:X.N[i]? = some x:=by rfl) (hv:Vis X.env.scope x:=by first | exact Or.inl rfl | exact Or.inr (Or.inl rfl) | exact Or.inr (Or.inr rfl)) (hd:(x==("__debug__":Str))=false:=by decide)
  (hcd:(x==("__classdict__":Str))=false:=by decide):PE X (.Name x pos) (tE X.K φ (.frz i)):=Z9 hN hv hd hcd
theorem ag {i:Int} {j:Nat}:PE X (.Constant (.int i) j pos) (tE X.K φ (.cst (.int i))):=Zt
theorem M8 {i:Bool} {j:Nat}:PE X (.Constant (.bool i) j pos) (tE X.K φ (.cst (.bl i))):=acu
theorem Bo {j:Nat}:PE X (.Constant .none j pos) (tE X.K φ (.cst .non)):=Zu
theorem o6 {i:Str} {j:Nat}:PE X (.Constant (.str i) j pos) (tE X.K φ (.cst (.str i))):=Zv
theorem ah:PA X [] (tEs X.K φ .nil):=Ny
theorem ae (ha:PE X a (tE X.K φ xa)) (hb:PA X es (tEs X.K φ xs)) (hs:starEach (a::es) X.env=(false,eval a X.env)::starEach es X.env:=by rfl):PA X (a::es) (tEs X.K φ (.cons xa xs)):=Bg ha hb hs
theorem aj {op:Operator} {m:Mk} (ha:PE X a (tE X.K φ xa)) (hb:PE X b (tE X.K φ xb)):PE X (.BinOp a op b pos) (tE X.K φ (.bin op m xa xb)):=Zw Wq ha hb
theorem N9 (ha:PE X a (tE X.K φ xa)):PE X (.UnaryOp .USub a pos) (tE X.K φ (.neg xa)):=Zz ha
theorem Ti (ha:PE X a (tE X.K φ xa)):PE X (.UnaryOp .Not a pos) (tE X.K φ (.not xa)):=Wf ha
theorem Tj {rest:List Expr} (ha:PE X a (tE X.K φ xa)) (hb:PE X (.BoolOp .And (b::rest) pos) (tE X.K φ xb)):PE X (.BoolOp .And (a::b::rest) pos) (tE X.K φ (.and xa xb)):=Wg ha hb
theorem ac2 {rest:List Expr} (ha:PE X a (tE X.K φ xa)) (hb:PE X (.BoolOp .Or (b::rest) pos) (tE X.K φ xb)):PE X (.BoolOp .Or (a::b::rest) pos) (tE X.K φ (.or xa xb)):=Z0 ha hb
theorem J3 {t:TE} (h:PE X a t):PE X (.BoolOp .And [a] pos) t:=Pt h
theorem aaf {t:TE} (h:PE X a t):PE X (.BoolOp .Or [a] pos) t:=Pt h
theorem jt {k:Nat} (h:PA X es (tEs X.K φ xs)) (hl:xs.len<=1000:=by decide):PE X (.Tuple es k pos) (tE X.K φ (.tup xs)):=Zx h λσ μ ds μ' e=>by
 rw[zt e];exact FD (Bf hl)
theorem qj {m:Mk} (h:PA X es (tEs X.K φ xs)) (hl:xs.len<=1000:=by decide):PE X (.List es pos) (tE X.K φ (.lst m xs)):=Z8 h λσ μ ds μ' e=>by
 rw[zt e];exact FD (Bf hl)
theorem cf (ha:PE X a (tE X.K φ xa)) (hb:PE X b (tE X.K φ xb)) (hs:C3 b:=by intro _ _;rfl):PE X (.Subscript a b pos) (tE X.K φ (.ix xa xb)):=acv aaa ha hb hs
theorem U9:PO X none (tEo X.K φ .no):=acz
theorem Va (he:PE X e (tE X.K φ xe)):PO X (some e) (tEo X.K φ (.so xe)):=ac0 he
theorem Vb {lo hi:Option Expr} {xl xh:ExO} {m:Mk} {p2:Pos} (he:PE X e (tE X.K φ xe)) (hl:PO X lo (tEo X.K φ xl)) (hh:PO X hi (tEo X.K φ xh)):PE X (.Subscript e (.Slice lo hi none p2) pos) (tE X.K φ (.sl m xe xl xh)):=ac1 he hl hh
theorem wb (hu:X.A.units+64<cLine) (op:Cp) (he:PE X e (tE X.K φ xe)):PCh X [opOf op] [e] (tCh X.K φ (.cons op xe .nil)):=Tb (Jw op (by lia)) he
theorem bz (hu:X.A.units+64<cLine) (op:Cp) (he:PE X e (tE X.K φ xe)):PTh X [opOf op] [e] (tTh X.K φ (.cons op xe .nil)):=Tc (Jw op (by lia)) he
theorem Qh (hu:X.A.units+64<cLine) (op:Cp) {op':Cp} {e':Expr} {ops:List CmpOp} {xe':Ex} {r:Cps} (he:PE X e (tE X.K φ xe)) (hr:PTh X (opOf op'::ops) (e'::es) (tTh X.K φ (.cons op' xe' r))) :
  PTh X (opOf op::opOf op'::ops) (e::e'::es) (tTh X.K φ (.cons op xe (.cons op' xe' r))):=Td (Jw op (by lia)) he hr
theorem wc {ops:List CmpOp} {r:Cps} (ha:PE X a (tE X.K φ xa)) (hr:PCh X ops es (tCh X.K φ r)) (hm:lastMarks ops es=false:=by rfl):PE X (.Compare a ops es pos) (tE X.K φ (.cmp xa r)):=aab ha hr hm
theorem az {ops:List CmpOp} {r:Cps} (ha:PE X a (tE X.K φ xa)) (hr:PTh X ops es (tTh X.K φ r)) (hm:lastMarks ops es=false:=by rfl):PT X (.Compare a ops es pos) (tT X.K φ (.cmp xa r)):=W0 ha hr hm
theorem ki (ha:PE X a (tE X.K φ xa)) (he:∀whole,isTrue a X.env whole=(do let v <-whole;standAt a.pos;holding [v] (truthy v)):=by intro _;rfl):PT X a (tT X.K φ xa):=S3 ha he
theorem r6 (ha:PT X a (tT X.K φ xa)):PT X (.UnaryOp .Not a pos) (tT X.K φ (.not xa)):=We ha
theorem zu (ha:PT X a (tT X.K φ xa)):PW X (.BoolOp .And [a] pos) (tT X.K φ xa):=R5 ha
theorem qq (ha:PT X a (tT X.K φ xa)):PW X (.BoolOp .Or [a] pos) (tT X.K φ xa):=Vi ha
theorem Bp {rest:List Expr} (ha:PT X a (tT X.K φ xa)) (hb:PW X (.BoolOp .And (b::rest) pos) (tT X.K φ xb)):PW X (.BoolOp .And (a::b::rest) pos) (tT X.K φ (.and xa xb)):=Wh ha hb
theorem we {rest:List Expr} (ha:PT X a (tT X.K φ xa)) (hb:PW X (.BoolOp .Or (b::rest) pos) (tT X.K φ xb)):PW X (.BoolOp .Or (a::b::rest) pos) (tT X.K φ (.or xa xb)):=Z1 ha hb
theorem Fc {t:TT} (h:PW X a t):PT X a t:=h.pt
theorem ax {x:Str} {p:Pos} {f:Nat} {keep:Bool} (C:Callee X.prog X.w X.K X.mg X.base X.A φ f x) (ha:PA X (e::es) (tEs X.K φ xs)) (hg:Gl X x:=by rfl) (hdb:(x==("__debug__":Str))=false:=by decide)
  (he:starEach (e::es) X.env=(false,eval e X.env)::starEach es X.env:=by rfl) (hpl:(backTo pos (starEach es X.env)).any (·.1)=false:=by rfl):PE X (.Call (.Name x p) (e::es) [] pos) (tE X.K φ (.call keep f xs)):=s_call C hg ha hdb he hpl
theorem kj {r:List V->Hp->VK->Prop} {b:Bt} {m:Mk} {es:List Expr} (h:PE X e (tCB (uv X.K (btD b m)) (tEs X.K φ xs))):PE X e (tE X.K φ (.blt b m xs)) :=
 PE.imp h λσv H Q ⟨ι,σ,μ,hS,hL,h⟩=>by
  simp![evE]at h
  obtain⟨ds,μ1,e1,h⟩:=h.bind
  refine⟨ι,σ,μ,hS,hL,?_⟩
  rw[e1]
  exact λι1 vs H1 p1 x1 s1 d1=>⟨ι1,ds,μ1,s1,d1,h.mono p1 x1⟩
theorem cb {m:Mk} {p:Pos} (hm:X.mg "len"=none) (ha:PA X (e::es) (tEs X.K φ xs)) (hg:Gl X "len":=by rfl) (he:starEach (e::es) X.env=(false,eval e X.env)::starEach es X.env:=by rfl) (hpl:(backTo pos (starEach es X.env)).any (·.1)=false:=by rfl) :
  PE X (.Call (.Name "len" p) (e::es) [] pos) (tE X.K φ (.blt .len m xs)):=kj (r:=λ_ _ _=>True) (es:=es) (i9 bt_len hg hm PySem.boot_len ha (by decide) (by decide) he hpl)
theorem cq {m:Mk} {p:Pos} (hm:X.mg "tuple"=none) (ha:PA X (e::es) (tEs X.K φ xs)) (hg:Gl X "tuple":=by rfl) (he:starEach (e::es) X.env=(false,eval e X.env)::starEach es X.env:=by rfl) (hpl:(backTo pos (starEach es X.env)).any (·.1)=false:=by rfl) :
  PE X (.Call (.Name "tuple" p) (e::es) [] pos) (tE X.K φ (.blt .tuple m xs)):=kj (r:=λ_ _ _=>True) (es:=es) (A7 bt_tuple hg hm (by first | exact PyProof.Rows.boot_tuple | decide +kernel) ha (by decide) (by decide) he hpl)
theorem qb {m:Mk} {p:Pos} (hm:X.mg "list"=none) (ha:PA X (e::es) (tEs X.K φ xs)) (hg:Gl X "list":=by rfl) (he:starEach (e::es) X.env=(false,eval e X.env)::starEach es X.env:=by rfl) (hpl:(backTo pos (starEach es X.env)).any (·.1)=false:=by rfl) :
  PE X (.Call (.Name "list" p) (e::es) [] pos) (tE X.K φ (.blt .list m xs)):=kj (r:=λ_ _ _=>True) (es:=es) (A7 bt_list hg hm (by first | exact JL | decide +kernel) ha (by decide) (by decide) he hpl)
theorem o8 {m:Mk} {p:Pos} (hm:X.mg "min"=none) (ha:PA X (e::es) (tEs X.K φ xs)) (hc:X.calm=true:=by rfl) (hg:Gl X "min":=by rfl) (he:starEach (e::es) X.env=(false,eval e X.env)::starEach es X.env:=by rfl) (hpl:(backTo pos (starEach es X.env)).any (·.1)=false:=by rfl) :
  PE X (.Call (.Name "min" p) (e::es) [] pos) (tE X.K φ (.blt .min m xs)):=kj (r:=λ_ _ _=>True) (es:=es) (i9 (bt_min hc) hg hm (by first | exact JZ | decide +kernel) ha (by decide) (by decide) he hpl)
theorem t8 {m:Mk} {p:Pos} (hm:X.mg "max"=none) (ha:PA X (e::es) (tEs X.K φ xs)) (hc:X.calm=true:=by rfl) (hg:Gl X "max":=by rfl) (he:starEach (e::es) X.env=(false,eval e X.env)::starEach es X.env:=by rfl) (hpl:(backTo pos (starEach es X.env)).any (·.1)=false:=by rfl) :
  PE X (.Call (.Name "max" p) (e::es) [] pos) (tE X.K φ (.blt .max m xs)):=kj (r:=λ_ _ _=>True) (es:=es) (i9 (bt_max hc) hg hm (by first | exact PyProof.Rows.boot_max | decide +kernel) ha (by decide) (by decide) he hpl)
theorem rh {m:Mk} {p:Pos} (hm:X.mg "sum"=none) (ha:PA X (e::es) (tEs X.K φ xs)) (hc:X.calm=true:=by rfl) (hg:Gl X "sum":=by rfl) (he:starEach (e::es) X.env=(false,eval e X.env)::starEach es X.env:=by rfl) (hpl:(backTo pos (starEach es X.env)).any (·.1)=false:=by rfl) :
  PE X (.Call (.Name "sum" p) (e::es) [] pos) (tE X.K φ (.blt .sum m xs)):=kj (r:=λ_ _ _=>True) (es:=es) (i9 (bt_sum hc) hg hm (by first | exact PyProof.Rows.boot_sum | decide +kernel) ha (by decide) (by decide) he hpl)
theorem To {m:Mk} {p:Pos} (hm:X.mg "all"=none) (ha:PA X (e::es) (tEs X.K φ xs)) (hc:X.calm=true:=by rfl) (hg:Gl X "all":=by rfl) (he:starEach (e::es) X.env=(false,eval e X.env)::starEach es X.env:=by rfl) (hpl:(backTo pos (starEach es X.env)).any (·.1)=false:=by rfl) :
  PE X (.Call (.Name "all" p) (e::es) [] pos) (tE X.K φ (.blt .all m xs)):=kj (r:=λ_ _ _=>True) (es:=es) (i9 (bt_all hc) hg hm (by first | exact PyProof.Rows.boot_all | decide +kernel) ha (by decide) (by decide) he hpl)
theorem wj {m:Mk} {p:Pos} (hm:X.mg "any"=none) (ha:PA X (e::es) (tEs X.K φ xs)) (hc:X.calm=true:=by rfl) (hg:Gl X "any":=by rfl) (he:starEach (e::es) X.env=(false,eval e X.env)::starEach es X.env:=by rfl) (hpl:(backTo pos (starEach es X.env)).any (·.1)=false:=by rfl) :
  PE X (.Call (.Name "any" p) (e::es) [] pos) (tE X.K φ (.blt .any m xs)):=kj (r:=λ_ _ _=>True) (es:=es) (i9 (bt_any hc) hg hm (by first | exact PyProof.Rows.boot_any | decide +kernel) ha (by decide) (by decide) he hpl)
theorem J4 {c:Cl} {cn:Str} {p cp:Pos} (ha:PE X a (tE X.K φ xa)) (hmi:X.mg "isinstance"=none) (hmc:X.mg cn=none) (hc:∀n,c≠.own n:=by intro _ h;cases h) (hgi:Gl X "isinstance":=by rfl) (hgc:Gl X cn:=by rfl)
  (hbc:bootBuiltins cn=some (.type (uj c)):=by first | boot_by_name | rfl | kernel_rfl) (hn:cn≠"__name__":=by decide) (hd:(cn==("__debug__":Str))=false:=by decide) (hs:starEach [a,.Name cn cp] X.env=(false,eval a X.env)::starEach [.Name cn cp] X.env:=by rfl) :
  PE X (.Call (.Name "isinstance" p) [a,.Name cn cp] [] pos) (tE X.K φ (.isi xa c)):=aad hc ha hgi hmi hgc hmc hbc hn hd hs
theorem gk {tg:Expr} (hl:PE X e (tE X.K φ xe)):PI X tg e (tI X.K φ (.seq xe)):=W1 hl
theorem gm {tg:Expr} {p:Pos} (hm:X.mg "range"=none) (ha:PE X a (tE X.K φ xa)) (hg:Gl X "range":=by rfl) (hs:starEach [a] X.env=[(false,eval a X.env)]:=by rfl):PI X tg (.Call (.Name "range" p) [a] [] pos) (tI X.K φ (.rng xa)):=W2 hg hm ha hs
theorem bp (i:Nat) {y:Str} (hi:X.N[i]? = some y:=by rfl) (hN:ndB X.N=true:=by first | rfl | kernel_rfl) (hx:Loc X.env.scope y:=by first | exact Or.inl rfl | exact Or.inr rfl) (hf:X.fn y=true\/X.env.scope.names.lookup y=some .local:=by first | exact Or.inl rfl | exact Or.inr rfl) :
  PG X (.Name y pos) (tG X.K (.one i)):=Wk (Fb hN) hi hx hf
theorem dg:PGs X [] (tGs X.K []):=Wl
theorem ai (i:Nat) {is:List Nat} {y:Str} (h2:PGs X es (tGs X.K is)) (hi:X.N[i]? = some y:=by rfl) (hN:ndB X.N=true:=by first | rfl | kernel_rfl) (hx:Loc X.env.scope y:=by first | exact Or.inl rfl | exact Or.inr rfl) (hf:X.fn y=true\/X.env.scope.names.lookup y=some .local:=by first | exact Or.inl rfl | exact Or.inr rfl)
  (hs:(assignEach (.Name y pos::es) X.env).map (·.2)=assign (.Name y pos) X.env::(assignEach es X.env).map (·.2):=by rfl):PGs X (.Name y pos::es) (tGs X.K (i::is)):=S4 (Ir (Fb hN) hi hx hf) h2 hs
theorem dh {is:List Nat} {k:Nat} (h:PGs X es (tGs X.K is)) (hc:X.calm=true:=by rfl) (hn:(assignEach es X.env).length=is.length:=by rfl) (hst:(assignEach es X.env).findIdx? (·.1)=none:=by rfl):PG X (.Tuple es k pos) (tG X.K (.many is)):=Z4 hc h hn hst
theorem br:PTs X [] (tTs X.K φ .nil):=Wo
theorem n3 {r:List Expr} {xr:Exs} (h1:PT X c (tT X.K φ xc)) (h2:PTs X r (tTs X.K φ xr)):PTs X (c::r) (tTs X.K φ (.cons xc xr)):=S9 h1 h2
theorem d6 (Nb:List Str) {target iter:Expr} {ifs:List Expr} {scope:Scope} {cap:List Nat} {nl:Nat} {m:Mk} {tg:Tg} {it:It} {cs:Exs} {elt:Ex} (hi:PI X target iter (tI X.K φ it))
  (B:C8 X scope Nb target ifs e (tG X.K tg) (tTs X.K φ cs) (tE X.K φ elt)) (S:E9 X.env.scope scope X.N Nb cap nl=true:=by first | rfl | kernel_rfl) (hc:X.calm=true:=by rfl) (hf:∀x,foldedSetIterable iter X.env x=pure x:=by intro _;rfl) (hs:∀j∈slots tg,cap.length<=j:=by decide) :
  PE X (.ListComp e [⟨target,iter,ifs,0⟩] scope pos) (tE X.K φ (.comp m cap nl tg it cs elt)):=Wp (yl S) hc hi B hf hs
theorem r8 (i:Nat) (Nb:List Str) {target iter:Expr} {ifs:List Expr} {scope:Scope} {cap:List Nat} {nl:Nat} {m:Mk} {tg:Tg} {it:It} {cs:Exs} {elt:Ex} {spos py:Pos} {y:Str} (hi:PI X target iter (tI X.K φ it))
  (B:C8 X scope Nb target ifs e (tG X.K tg) (tTs X.K φ cs) (tE X.K φ elt)) (S:E9 X.env.scope scope X.N Nb cap nl=true:=by first | rfl | kernel_rfl) (hc:X.calm=true:=by rfl) (hf:∀x,foldedSetIterable iter X.env x=pure x:=by intro _;rfl) (hs:∀j∈slots tg,cap.length<=j:=by decide)
  (hsw:swapsWith (.ListComp e [⟨target,iter,ifs,0⟩] scope pos) (some (.Name y py)) spos.line X.env=pure true:=by rfl) (hiN:X.N[i]? = some y:=by rfl) (hN:ndB X.N=true:=by first | rfl | kernel_rfl) (hy:X.env.scope.names.lookup y=some .local:=by rfl) :
  PS X (.Assign [.Name y py] (.ListComp e [⟨target,iter,ifs,0⟩] scope pos) spos) (tS X.K φ (.set i (.comp m cap nl tg it cs elt))):=Jq (yl S) hc hi B hf hs hsw (Fb hN) hiN hy
theorem bh:PSs X [] (tSs X.K φ .nil):=Z2
theorem aq {s:Stmt} {ss:List Stmt} {x:Sm} {xss:Sms} (h1:PS X s (tS X.K φ x)) (h2:PSs X ss (tSs X.K φ xss)):PSs X (s::ss) (tSs X.K φ (.cons x xss)):=Wi h1 h2
theorem Fd (he:PE X e (tE X.K φ xe)) (hs:swapsWith e none pos.line X.env=pure false:=by rfl):PS X (.Expr e pos) (tS X.K φ (.ex xe)):=Wj he hs
theorem bu (he:PE X e (tE X.K φ xe)):PS X (.Return (some e) pos) (tS X.K φ (.ret xe)):=Z3 he
theorem kc {x y:List Stmt} {xx xy:Sms} (hc:PT X c (tT X.K φ xc)) (ha:PSs X x (tSs X.K φ xx)) (hb:PSs X y (tSs X.K φ xy)):PS X (.If c x y pos) (tS X.K φ (.ite xc xx xy)):=acw hc ha hb
theorem bc (i:Nat) {y:Str} {pos':Pos} (he:PE X e (tE X.K φ xe)) (hi:X.N[i]? = some y:=by rfl) (hN:ndB X.N=true:=by first | rfl | kernel_rfl) (hx:Loc X.env.scope y:=by first | exact Or.inl rfl | exact Or.inr rfl) (hf:X.fn y=true\/X.env.scope.names.lookup y=some .local:=by first | exact Or.inl rfl | exact Or.inr rfl)
  (hs:swapsWith e (some (.Name y pos')) pos.line X.env=pure false:=by rfl):PS X (.Assign [.Name y pos'] e pos) (tS X.K φ (.set i xe)):=Z5 (Fb hN) hi hx hf he hs
theorem rj {is:List Nat} {tg:Expr} (hg:PG X tg (tG X.K (.many is))) (he:PE X e (tE X.K φ xe)) (hs:swapsWithSole [tg] e pos.line X.env=pure false:=by rfl) (hw:swappedStores [tg] e X.env=pure none:=by rfl)
  (h1:(assignEach [tg] X.env).map (·.2)=[assign tg X.env]:=by rfl):PS X (.Assign [tg] e pos) (tS X.K φ (.unp is xe)):=Z6 hg he hs hw h1
theorem o7 {tg it:Expr} {body:List Stmt} {xt:Tg} {xi:It} {xb:Sms} (hi:PI X tg it (tI X.K φ xi)) (hg:PG X tg (tG X.K xt)) (hb:PSs X body (tSs X.K φ xb)) (hp:PassesOwn (model X.prog X.w) X.A X.env X.xe:=by exact PassesOwn.never) (hc:X.calm=true:=by rfl)
  (hs:∀x,foldedSetIterable it X.env x=pure x:=by intro _;rfl):PS X (.For tg it body [] pos) (tS X.K φ (.loop xt xi xb)):=Z7 hp hc hi hg hb hs
end
theorem Oa:typeLookup (.type "list_reverseiterator") "__len__"=pure none:=by rw[HQ,FO];kernel_rfl
theorem Tp:typeLookup (.type "list_reverseiterator") "__length_hint__"=pure (some (.builtin "list_reverseiterator.__length_hint__")):=by rw[HQ,FO];kernel_rfl
section
variable {prog : Program} {w : World} {A : Around} {E : Value -> Shared -> Prop} {s : Shared} {r l : Addr}
theorem Tq {Q:Bool->Shared->Prop} (hT:s.TypeIs (.ref r) "list_reverseiterator") (h:Q false s):wpAny (model prog w) A (Builtin.List.listLengthHint (.ref r)) Q E s:=by
 unfold Builtin.List.listLengthHint
 refine AA (JT hT Oa ?_)
 show wpAny _ _ (specialOf (Value.ref r) (Str.ofString "__length_hint__")>>=_) _ _ _
 refine AA (JT hT Tp ?_)
 generalize hid:("list_reverseiterator.__length_hint__":String)=id0
 wp_delta
 rw[show splitId id0=some ("list_reverseiterator","__length_hint__")from by subst hid;decide +kernel]
 subst hid
 refine AA (EH (T:="list_reverseiterator") (b:=true) hT (by rw[FV];kernel_rfl) ?_)
 refine FK (λhab=>absurd hab (by decide)) (λ_=>?_)
 refine FK (λ_=>?_) (λhab=>absurd (by decide +kernel) hab)
 refine FK (λhab=>absurd hab (by decide +kernel)) (λ_=>?_)
 exact AE h
theorem J5 {R:Result->Shared->Prop} {items:Array Value} (hh:A.handled=none) (S:Addr) (hSr:S≠r) (hSl:S≠l) (hlr:l≠r) (res:Value) (c₀:Nat) (hit:s.heap.IsRevIter r l ((items.size:Int)-1)) (hl:s.heap.IsList l items)
  (hS:s.heap.get? S=some {cls:=.type "list",data:=.seq #[] c₀})
  (hR:∀h' tk acc' c',(∀b o,b≠S->b≠r->s.heap.get? b=some o->h'.get? b=some o)->h'.get? S=some {cls:=.type "list",dict:=none,data:=.seq acc' c',slots:=#[]}->ItemsOf (λi v=>items[items.size-1-i]? = some v) acc' items.size->R (.ok (.ret res)) {s with heap:=h',toks:=tk}) (hn:items.size<=sizeLine) :
  wpAny (model prog w) A.in1 (Builtin.List.listExtendWith (.ref S) (.ref r) res)
   (λfin s'=>match fin with | .done f=>R (.ok f) s' | .again c'=>c'.quiet=true/\codeAny (model prog w) A c' R s') (λe s'=>R (.error e) s') s:=by
 have W:=Walks.listRev (prog:=prog) (w:=w) (A:=A.in1) hh r l hlr items
 have hSf:S∉[r,l]:=by simp![AL,BI,or_false,not_or];exact⟨hSr,hSl⟩
 have st0:∀h:Heap,h.IsRevIter r l ((items.size:Int)-1)->h.IsList l items->(0<=items.size/\h.IsRevIter r l ((items.size:Int)-1-((0:Nat):Int))/\h.IsList l items):=λh a b=>⟨CS _,by simpa using a,b⟩
 have key:∀(h:Heap) (c₁ tk:Nat),(0<=items.size/\h.IsRevIter r l ((items.size:Int)-1-((0:Nat):Int))/\h.IsList l items)->(∀b o,b≠S->s.heap.get? b=some o->h.get? b=some o) ->
   h.get? S=some {cls:=.type "list",data:=.seq #[] c₁}->codeAny (model prog w) A (.builtin "list.extend.loop" ⟨[.ref S,.ref r,res],[]⟩) R {s with heap:=h,toks:=tk}:=by
  intro h c₁ tk hst hk hS₁
  refine codeAny_extend_loopS W.toS hn S hSf res items.size 0 _ #[] c₁ rfl (CS _) hst hS₁ (ItemsOf.nil _) λs' acc' c' hm hS' hacc=>?_
  rw[KI hm]
  refine hR s'.heap s'.toks acc' c' (λb o hb hbr e=>hm.heap b o (λhmem=>?_) (hk b o hb e)) hS' hacc
  rcases AL.mp hmem with e' | hmem
  ·exact hb e'
  ·exact hbr (CV.mp hmem)
 unfold Builtin.List.listExtendWith
 refine AA (FE (T:="list_reverseiterator") hit.typeIs ?_)
 have h1:Builtin.List.listSameRef (.ref S) (.ref r)=false:=by simp[Builtin.List.listSameRef,hSr]
 have h2:(Value.type "list_reverseiterator"==Value.type "list")=false:=by decide
 have h3:(Value.type "list_reverseiterator"==Value.type "tuple")=false:=by decide
 simp![h1,h2,h3,KH,AS,if_false]
 refine AA (wpAny_pyIter_revIter hit ?_)
 refine AA (CP (Tq hit.typeIs ?_))
 refine FK (λhab=>absurd hab (by decide)) (λ_=>AE ⟨ET IH _,key _ c₀ _ (st0 _ hit hl) (λb o _ e=>e) hS⟩)
theorem Tr {R:Result->Shared->Prop} {items:Array Value} (hh:A.handled=none) (S:Addr) (hSr:S≠r) (hSl:S≠l) (hlr:l≠r) (hit:s.heap.IsRevIter r l ((items.size:Int)-1)) (hl:s.heap.IsList l items)
  (hS:s.heap.get? S=some {cls:=.type "list",data:=.seq #[]})
  (hR:∀h' tk acc' c',(∀b o,b≠S->b≠r->s.heap.get? b=some o->h'.get? b=some o)->h'.get? S=some {cls:=.type "list",dict:=none,data:=.seq acc' c',slots:=#[]}->ItemsOf (λi v=>items[items.size-1-i]? = some v) acc' items.size->R (.ok (.ret .none)) {s with heap:=h',toks:=tk}) (hn:items.size<=sizeLine) :
  wpAny (model prog w) A.in1 (Builtin.«list.__init__» ⟨[.ref S,.ref r],[]⟩)
   (λfin s'=>match fin with | .done f=>R (.ok f) s' | .again c'=>c'.quiet=true/\codeAny (model prog w) A c' R s') (λe s'=>R (.error e) s') s:=by
 show wpAny _ _ (do let old <-Builtin.List.listItems (.ref S);Builtin.List.listUpdate (.ref S) (λ_=>#[]);letGo old.toList.reverse;Builtin.List.listExtendWith (.ref S) (.ref r) .none) _ _ s
 refine AA ?_
 unfold Builtin.List.listItems
 refine AA (DG hS rfl (AE ?_))
 show wpAny _ _ (updateSeq S (λ_=>#[])>>=λ_=>letGo (#[]:Array Value).toList.reverse>>=λ_=>Builtin.List.listExtendWith (.ref S) (.ref r) .none) _ _ s
 refine AA (JU hS rfl ?_)
 have hS₂:=DV (Obj.mapSeq (λ_=>(#[]:Array Value))) hS rfl
 have oth:∀b o,b≠S->s.heap.get? b=some o->(s.heap.update S (Obj.mapSeq (λ_=>(#[]:Array Value)))).get? b=some o :=
  λb o hb e=>(GR _ _ (Ne.symm hb)).trans e
 refine AA (IN ?_)
 refine J5 hh S hSr hSl hlr .none _ (hit.at λo e=>oth r o (Ne.symm hSr) e) (hl.at λo e=>oth l o (Ne.symm hSl) e) hS₂ (λh' tk acc' c' hk hS' hacc=>?_) hn
 exact hR h' tk acc' c' (λb o hb hbr e=>hk b o hb hbr (oth b o hb e)) hS' hacc
theorem Ts {Q:Value->Shared->Prop} {items:Array Value} (hh:A.handled=none) (hlr:l≠r) (hit:s.heap.IsRevIter r l ((items.size:Int)-1)) (hl:s.heap.IsList l items) (hn:items.size<=sizeLine)
  (hQ:∀h' tk acc' c',(∀b o,b≠r->s.heap.get? b=some o->h'.get? b=some o)->h'.get? s.heap.objs.size=some {cls:=.type "list",dict:=none,data:=.seq acc' c',slots:=#[]}->ItemsOf (λi v=>items[items.size-1-i]? = some v) acc' items.size->Q (.ref s.heap.objs.size) {s with heap:=h',toks:=tk}) :
  wpAny (model prog w) A (call (.type "list") [.ref r]) Q E s:=by
 refine callType_codes (Q₁:=λobj s₁=>obj=.ref s.heap.objs.size/\s₁={s with heap:=s.heap.push {cls:=.type "list",data:=.seq #[]}}) PySem.F.called_list (PySem.F.typeCall_list_1 _) PySem.F.entry_list_init
  (code_list_new _ ⟨rfl,rfl⟩) λobj s₁ h₁=>?_
 obtain⟨rfl,rfl⟩:=h₁
 have hS:(s.heap.push {cls:=.type "list",data:=.seq #[]}).get? s.heap.objs.size=some {cls:=.type "list",data:=.seq #[]}:=AJ _ rfl
 have hr:r<s.heap.objs.size:=by obtain⟨o,e,_⟩:=hit;exact AM e
 have hl':l<s.heap.objs.size:=by obtain⟨o,e,_⟩:=hl;exact AM e
 refine⟨⟨_,hS,rfl⟩,PySem.F.args_list_init_2 _ _,Tr (A:=A.in1) hh _ (CU hr) (CU hl') hlr (hit.at λo e=>AC _ e) (hl.at λo e=>AC _ e) hS (λh' tk acc' c' hk hS' hacc=>?_) hn⟩
 exact⟨rfl,hQ h' tk acc' c' (λb o hb e=>hk b o (AT (AM e)) hb (AC _ e)) hS' hacc⟩
end
theorem J6 {its:List Value} {acc:Array Value} (h:ItemsOf (λi v=>its.toArray[its.toArray.size-1-i]? = some v) acc its.toArray.size):acc.toList=its.reverse:=by
 obtain⟨h1,h2⟩:=h
 simp![AG]at h1 h2
 refine CA λi=>?_
 by_cases hi:i<its.length
 ·have e:acc[i]? = some (acc[i]'(by lia)):=DB (by lia)
  have q:=h2 i _ e
  rw[CZ,e,<-q,HA,List.getElem?_reverse hi]
 ·rw[CZ,AZ (by simpa using hi),GU (by lia)]
section
variable {X : Cx} {φ : Phi} {a : Expr} {xa : Ex} {p p2 pos pos2 : Pos} {m : Mk}
theorem J7 (hml:X.mg "list"=none) (hmr:X.mg "reversed"=none) (ha:PE X a (tE X.K φ xa)) (hgl:Gl X "list":=by rfl) (hgr:Gl X "reversed":=by rfl) (hc:X.calm=true:=by rfl)
  (hs:starEach [a] X.env=[(false,eval a X.env)]:=by rfl) (hs2:starEach [.Call (.Name "reversed" p2) [a] [] pos2] X.env=[(false,eval (.Call (.Name "reversed" p2) [a] [] pos2) X.env)]:=by rfl) :
  PE X (.Call (.Name "list" p) [.Call (.Name "reversed" p2) [a] [] pos2] [] pos) (tE X.K φ (.blt .listRev m (.cons xa .nil))):=by
 refine PE.imp (t:=λσ H Q=>tE X.K φ xa σ H λv H1=>∃l ys,v=.ref l/\LsL X.K H1 l ys/\∀q,H1 q=none->FQ Q (.ref q) (upd H1 q (.lst ys.reverse))) ?_ λσv H Q ⟨ι,σ,μ,hS,hL,h⟩=>?_
 ·intro pins s σ H Q I h
  refine DX (qk I hgl hml JL ?_ (by decide) (by decide))
  refine CJ ?_ hs2 rfl
  rw[hs2]
  refine DW ?_
  refine DX (qk I hgr hmr PyProof.Rows.boot_reversed ?_ (by decide) (by decide))
  refine CJ ?_ hs rfl
  rw[hs]
  refine DW (thn (ha pins s σ H _ I h) λu s1 ⟨v,H1,I1,r1,l,ys,ev,hls,q⟩=>EO ?_)
  subst ev
  cases(show u=Value.ref l from r1)
  obtain⟨hz,its,n,rv,hlen,hget⟩:=I1.ls hls
  have hlist:s1.heap.IsList l its.toArray:=⟨_,hget,rfl,n,rfl⟩
  refine call_reversed_list hlist ?_
  refine EO ?_
  have hl1:l<s1.heap.objs.size:=AM hget
  refine E2 (Ts (l:=l) (r:=s1.heap.objs.size) (items:=its.toArray) (I1.ok.hd hc) (AT hl1) ⟨_,AJ _ rfl,rfl,rfl⟩ (hlist.at λo e=>AC _ e) (by rw[AG];lia) λh' tk acc c hk hD hacc=>?_)
  have hsz:(s1.heap.push (revObj l ((its.toArray.size:Int)-1))).objs.size=s1.heap.objs.size+1:=DF _ _
  have ea:=J6 hacc
  have hf:H1 (s1.heap.objs.size+1)=none:=I1.hok.fresh (EF _)
  refine⟨.ref (s1.heap.objs.size+1),upd H1 (s1.heap.objs.size+1) (.lst ys.reverse),I1.laid (t':=tk) (λb o e=>hk b o (AT (AM e)) (AC _ e)) (EF _) ?_,?_,q _ hf⟩
  ·refine⟨by rw[List.length_reverse];exact hz,its.reverse,c,rv.reverse,?_⟩
   rw[hsz]at hD
   rw[hD,<-ea,KG]
  ·show Value.ref _=Value.ref _
   rw[hsz]
 ·simp![evE,jh]at h
  rw[Res.bind_assoc]at h
  obtain⟨d,μ1,e1,h⟩:=h.bind
  refine⟨ι,σ,μ,hS,hL,?_⟩
  rw[e1]
  intro ι1 v H1 p1 x1 s1 d1
  have h:=h.mono p1 x1
  simp![Res.bg,btD,ff,zj]at h
  split at h
  ·rename_i xs ex
   obtain⟨l,ys,ev,hls,hys⟩:=mr s1 d1 ex
   exact⟨l,ys,ev,hls,λq hq=>mq s1 hys.reverse h hq⟩
  ·exact h.elim
end
structure Ma (X:Cx) (o:Expr) (nm:Str) (e:Expr) (es:List Expr) (apos cpos:Pos):Prop where
 b:attributeBase o nm X.env (eval o X.env)=eval o X.env
 f:((backTo cpos (starEach (e::es) X.env)).all (λx=>!x.1)&&(backToKw cpos (keywordEach [] X.env)).all (λx=>x.1.isSome)&&decide ((e::es).length+([]:List Keyword).length+(if([]:List Keyword).isEmpty then 0 else 1)<30))=true
 l:(apos.endLine==cpos.line)=true
 s:starEach (e::es) X.env=(false,eval e X.env)::starEach es X.env
 p:(backTo cpos (starEach es X.env)).any (·.1)=false
section
variable {X : Cx} {φ : Phi} {o e : Expr} {es : List Expr} {xo : Ex} {xs : Exs} {apos cpos : Pos} {T id : String} {name : Str} {mt : Mt}
theorem J8 (hT:∀(ι:List Addr) (H:Hp) (μ:Sto) (d:D) (x:V),Sim X.K ι H μ->IsD X.K ι H d x->jb mt d μ=true->tyV X.K T x H) (h:PE X e (aa5 X.K T (rMt X.K mt) (tE X.K φ xo))):PE X e (tE X.K φ (.meth mt xo .nil)) :=
 PE.imp h λσv H Q ⟨ι,σ,μ,hS,hL,h⟩=>by
  simp![evE,jh]at h
  obtain⟨d,μ1,e1,h⟩:=h.bind
  refine⟨ι,σ,μ,hS,hL,?_⟩
  rw[e1]
  intro ι1 x H1 p1 x1 s1 d1
  split at h
  ·rename_i hm
   exact⟨hT ι1 H1 μ1 d x s1 d1 hm,ι1,d,[],μ1,s1,d1,by simp[ar],h.mono p1 x1⟩
  ·exact h.elim
theorem J9 (hT:∀(ι:List Addr) (H:Hp) (μ:Sto) (d:D) (x:V),Sim X.K ι H μ->IsD X.K ι H d x->jb mt d μ=true->tyV X.K T x H) (h:PE X e (tBM X.K T (rMt X.K mt) (tE X.K φ xo) (tEs X.K φ xs))):PE X e (tE X.K φ (.meth mt xo xs)) :=
 PE.imp h λσv H Q ⟨ι,σ,μ,hS,hL,h⟩=>by
  simp![evE]at h
  obtain⟨d,μ1,e1,h⟩:=h.bind
  refine⟨ι,σ,μ,hS,hL,?_⟩
  rw[e1]
  intro ι1 x H1 p1 x1 s1 d1
  split at h
  ·rename_i hm
   refine⟨hT ι1 H1 μ1 d x s1 d1 hm,ι1,σ,μ1,s1,hL.mono p1 x1,?_⟩
   obtain⟨ds,μ2,e2,h⟩:=h.bind
   rw[e2]
   exact λι2 vs H2 p2 x2 s2 d2=>⟨ι2,d,ds,μ2,s2,IsD.mono p2 x2 _ _ d1,d2,h.mono (p1.trans p2) (x1.trans x2)⟩
  ·exact h.elim
theorem ng (hmt:∀d μ,jb mt d μ=(listOf μ d).isSome) (ι:List Addr) (H:Hp) (μ:Sto) (d:D) (x:V) (hS:Sim X.K ι H μ) (hd:IsD X.K ι H d x) (hm:jb mt d μ=true):tyV X.K "list" x H:=by
 rw[hmt]at hm
 obtain⟨ds,e⟩:=DZ.mp hm
 obtain⟨a,xs,rfl,hls,_⟩:=mr hS hd e
 exact .inl ⟨rfl,_,hls.sq⟩
theorem Ob (ho:PE X o (tE X.K φ xo)) (hbase:attributeBase o "pop" X.env (eval o X.env)=eval o X.env:=by rfl) (hline:(apos.endLine==cpos.line)=true:=by rfl):PE X (.Call (.Attribute o "pop" apos) [] [] cpos) (tE X.K φ (.meth .pop xo .nil)) :=
 J8 (ng λ_ _=>rfl) (P5 FS JR F.type_list_pop aae ho hbase hline)
theorem Bq (ho:PE X o (tE X.K φ xo)) (hbase:attributeBase o "reverse" X.env (eval o X.env)=eval o X.env:=by rfl) (hline:(apos.endLine==cpos.line)=true:=by rfl):PE X (.Call (.Attribute o "reverse" apos) [] [] cpos) (tE X.K φ (.meth .reverse xo .nil)) :=
 J8 (ng λ_ _=>rfl) (P5 FS F.slot_list_reverse F.type_list_reverse J0 ho hbase hline)
theorem di (ho:PE X o (tE X.K φ xo)) (ha:PA X (e::es) (tEs X.K φ xs)) (h5:Ma X o "append" e es apos cpos:=by exact⟨rfl,rfl,rfl,rfl,rfl⟩):PE X (.Call (.Attribute o "append" apos) (e::es) [] cpos) (tE X.K φ (.meth .append xo xs)) :=
 J9 (ng λ_ _=>rfl) (Sn FS F.slot_list_append F.type_list_append N6 ho ha h5.b h5.f h5.l h5.s h5.p)
theorem Ka {a:Expr} {xa:Ex} {p p2 pos pos2:Pos} {m:Mk} (hml:X.mg "list"=none) (hmr:X.mg "reversed"=none) (ha:PE X a (tE X.K φ xa)) (hgl:Gl X "list":=by rfl) (hgr:Gl X "reversed":=by rfl) (hc:X.calm=true:=by rfl)
  (hs:starEach [a] X.env=[(false,eval a X.env)]:=by rfl) (hs2:starEach [.Call (.Name "reversed" p2) [a] [] pos2] X.env=[(false,eval (.Call (.Name "reversed" p2) [a] [] pos2) X.env)]:=by rfl) :
  PE X (.Call (.Name "list" p) [.Call (.Name "reversed" p2) [a] [] pos2] [] pos) (tE X.K φ (.blt .listRev m (.cons xa .nil))):=J7 hml hmr ha hgl hgr hc hs hs2
end
section
variable {X : Cx} {φ : Phi} {a : Expr} {xa : Ex} {p p2 pos pos2 : Pos} {m : Mk}
theorem W5 (hu:X.A.units+64<cLine):Yu X (aa9 X.K):=by
 intro pins s σ H o i v ov iv u Q I ro ri rv ⟨ι,a,b,d,μ,hS,ha,hb,hd,h⟩
 cases a with
 | loc n =>
  simp![ur]at h
  cases em:μ[n]? with
  | none=>rw[em]at h;exact h.elim
  | some ob =>
   rw[em]at h
   obtain⟨q,rfl,hq⟩:∃q,o=.ref q/\ι[n]? = some q:=by simpa[IsD]using ha
   obtain⟨q',eq',hob⟩:=hS.at em
   rw[hq]at eq';cases eq'
   have lst:∀(ob:O) (xs:List D),gj ob=some xs->μ[n]? = some ob->OIs X.K ι H q ob->i5 X.K (λ_ _ _ (_:Unit)=>True) ι H (match some xs,b with
     | some xs,.int i=>match ixN xs.length i with
      | some j=>if fits ob d=true then(putL n ob (xs.set j d) .non μ).bind λ_ μ=>.ok () μ else .stuck
      | none=>.stuck
     | _,_=>.stuck) (λ_ H'=>Q H')->wpAny (model X.prog X.w) X.A (setItem ov iv u) (λ_ s'=>∃H',Inv X pins σ H' s'/\Q H') X.xe s:=by
    intro ob xs ei em ho h
    cases b with
    | int k =>
     simp only at h
     split at h
     ·rename_i j ej
      split at h
      ·rename_i hf
       obtain⟨a',vs,ea,hι,hH,h1,h2⟩:=Qf hS ha em ei
       cases ea
       cases f6 hb
       refine set_list pins s σ H _ _ v ov iv u Q I ro ri rv ⟨_,vs,k,j,rfl,rfl,hH,by rw[h1.length];exact ej,?_⟩
       have h':i5 X.K (RD X.K) ι H (putL n ob (xs.set j d) .non μ) λ_ H'=>Q H':=by
        cases ob with
        | l _=>exact λι' v' H' p e s' _=>h ι' () H' p e s' trivial
        | r _=>exact λι' v' H' p e s' _=>h ι' () H' p e s' trivial
        | d _=>exact h.elim
        | dt _=>exact h.elim
        | dead=>exact h.elim
       exact nz (v:=.non) hS hι hH (h1.set hd j) (λes e=>(h2 es e).set (vz hf hd es e) j) (by simp[IsD]) h'
      ·exact h.elim
     ·exact h.elim
    | _=>exact h.elim
   cases ob with
   | l xs=>exact lst (.l xs) xs rfl em hob h
   | r xs=>exact lst (.r xs) xs rfl em hob h
   | d kvs =>
    simp only at h
    split at h
    ·rename_i hc
     obtain⟨hk,hv,hl⟩:=hc
     obtain⟨xs,hH,hkv⟩:=hob
     obtain⟨k,rfl,rfl⟩:=Ju hk hb
     cases(show ov=Value.ref q from ro)
     have hlen:xs.length=kvs.length:=(EE hkv).symm
     refine Jh (by lia) I (Yw.k (k:=k) (v:=v) hH (by rw[hlen,<-l6];exact hl)) ri rv λs' I'=>⟨_,I',?_⟩
     exact h ι () _ (AO _) (.dK hH) (hS.put hq (.dK hH) ⟨_,bf,Paired.mapP (E6 (IsD.pur hv hd) hkv) λp r z=>⟨IsD.mono (AO _) (.dK hH) _ _ z.1,IsD.mono (AO _) (.dK hH) _ _ z.2⟩⟩) trivial
    ·exact h.elim
   | dt kvs=>simp![gj]at h;exact h.elim
   | dead=>simp![gj]at h;exact h.elim
 | _=>exact h.elim
theorem oy (hu:X.A.units+64<cLine) {o i e:Expr} {xo xi x:Ex} {tp:Pos} (ho:PE X o (tE X.K φ xo)) (hi:PE X i (tE X.K φ xi)) (he:PE X e (tE X.K φ x))
  (ha:∀v,assign (.Subscript o i tp) X.env v=(do
   let ov <-holding [v] (eval o X.env)
   let iv <-holding [v,ov] (eval i X.env)
   standAt tp
   holding [v,ov,iv] (setItem ov iv v)
   release [v,ov,iv] []):=by intro _;rfl) (hs:swapsWithSole [.Subscript o i tp] e pos.line X.env=pure false:=by rfl) (hw:swappedStores [.Subscript o i tp] e X.env=pure none:=by rfl)
  (h1:(assignEach [.Subscript o i tp] X.env).map (·.2)=[assign (.Subscript o i tp) X.env]:=by rfl):PS X (.Assign [.Subscript o i tp] e pos) (tS X.K φ (.setx xo xi x)):=Wm (W5 hu) ho hi he ha hs hw h1
end
def SI (b:Bool) (h:Heap) (it l:Addr) (i:Nat):Prop:=match b with
 | true=>h.IsListIter it l i
 | false=>h.IsTupleIter it l i
def SQ (b:Bool) (h:Heap) (l:Addr) (xs:Array Value):Prop:=match b with
 | true=>h.IsList l xs
 | false=>h.IsTuple l xs
def W6:Bool->String
 | true=>"list_iterator"
 | false=>"tuple_iterator"
theorem SI.keep {b:Bool} {h h':Heap} {it l:Addr} {i:Nat} (x:SI b h it l i) (e:∀o,h.get? it=some o->h'.get? it=some o):SI b h' it l i:=by
 cases b
 ·exact Heap.IsTupleIter.at x e
 ·exact Heap.IsListIter.at x e
theorem SI.but {b:Bool} {h h':Heap} {it l c:Addr} {i:Nat} (x:SI b h it l i) (e:Heap.ExtBut c h h') (n:it≠c):SI b h' it l i:=x.keep λo q=>e it o n q
theorem SI.obj {b:Bool} {h:Heap} {it l:Addr} {i:Nat} (x:SI b h it l i):∃o,h.get? it=some o/\o.cls=.type (W6 b)/\o.data=.fields #[.ref l,.int i 0]:=by
 cases b<;>exact x
theorem SQ.but {b:Bool} {h h':Heap} {l c:Addr} {xs:Array Value} (x:SQ b h l xs) (e:Heap.ExtBut c h h') (n:l≠c):SQ b h' l xs:=by
 cases b
 ·exact Heap.IsTuple.at x λo q=>e l o n q
 ·exact Heap.IsList.at x λo q=>e l o n q
theorem SQ.lt {b:Bool} {h:Heap} {l:Addr} {xs:Array Value} (x:SQ b h l xs):l<h.objs.size:=by
 cases b
 ·obtain⟨o,e,_⟩:=x;exact AM e
 ·obtain⟨o,e,_⟩:=x;exact AM e
theorem SQ.push {b:Bool} {h:Heap} {l:Addr} {xs:Array Value} (x:SQ b h l xs) (o:Obj):SQ b (h.push o) l xs:=by
 cases b
 ·exact Heap.IsTuple.push x o
 ·exact Heap.IsList.push x o
section
variable {prog : Program} {w : World} {A : Around} {E : Value -> Shared -> Prop} {s : Shared}
theorem Dk {b:Bool} {l:Addr} {xs:Array Value} {Q:Value->Shared->Prop} (x:SQ b s.heap l xs) (hQ:Q (.ref s.heap.objs.size) {s with heap:=s.heap.push {cls:=.type (W6 b),data:=.fields #[.ref l,.int 0 0]}}) :
  wpAny (model prog w) A (pyIter (.ref l)) Q E s:=by
 cases b
 ·exact EK x hQ
 ·exact IM x hQ
theorem zw {b:Bool} {it l:Addr} {i:Nat} {xs:Array Value} {x:Value} {Q:Value->Shared->Prop} (hit:SI b s.heap it l i) (hl:SQ b s.heap l xs) (hx:xs[i]? = some x)
  (hQ:∀h',SI b h' it l (i+1)->Heap.SameBut it s.heap h'->Q x {s with heap:=h'}):wpAny (model prog w) A (Builtin.SmallTypes.nextOf (.ref it)) Q E s:=by
 cases b
 ·obtain⟨o,ho,hc,hd⟩:=hit.obj
  obtain⟨ol,hol,_,nl,hdl⟩:=hl
  have ht:s.TypeIs (.ref it) "tuple_iterator":=⟨o,ho,hc⟩
  unfold Builtin.SmallTypes.nextOf
  refine AA (BO (name:=Str.ofString "__next__") ht EL (BP EL ht HW ?_ (HR _)))
  show wpAny _ _ (field (.ref it) 0>>=_) _ _ s
  refine AA (CD ho hd (x:=.ref l) rfl ?_)
  show wpAny _ _ (if(Value.ref l==Value.none)=true then _ else _) _ _ s
  rw[if_neg (show ¬((Value.ref l==Value.none)=true)from BA)]
  show wpAny _ _ (field (.ref it) 1>>=_) _ _ s
  refine AA (CD ho hd (x:=.int i 0) rfl ?_)
  show wpAny _ _ (seqItems? (.ref l)>>=_) _ _ s
  refine AA (DG hol hdl ?_)
  simp![CI,hx]
  refine AA (wpAny_setField ho hd (by simp) (AE ⟨x,rfl,AE (hQ _ ?_ (FZ ..))⟩))
  exact⟨_,DV _ ho (Obj.isFreed_of_fields (Obj.data_mapFields hd _)),(Obj.cls_mapFields ..).trans hc,by rw[Obj.data_mapFields hd];simp[rawInt]⟩
 ·exact wpAny_nextOf_list_item hit hl hx hQ
theorem Kb {b:Bool} {it l:Addr} {i:Nat} {xs:Array Value} {Q:Value->Shared->Prop} (hh:A.handled=none) (hit:SI b s.heap it l i) (hl:SQ b s.heap l xs) (hx:xs[i]? = none)
  (hE:∀h' e,Heap.ExtBut it s.heap h'->(∃o,h'.get? e=some o/\o.cls=.type "StopIteration")->E (.ref e) {s with heap:=h'}):wpAny (model prog w) A (Builtin.SmallTypes.nextOf (.ref it)) Q E s:=by
 cases b
 ·obtain⟨o,ho,hc,hd⟩:=hit.obj
  obtain⟨ol,hol,_,nl,hdl⟩:=hl
  have ht:s.TypeIs (.ref it) "tuple_iterator":=⟨o,ho,hc⟩
  unfold Builtin.SmallTypes.nextOf
  refine AA (BO (name:=Str.ofString "__next__") ht EL (BP EL ht HW ?_ (HR _)))
  show wpAny _ _ (field (.ref it) 0>>=_) _ _ s
  refine AA (CD ho hd (x:=.ref l) rfl ?_)
  show wpAny _ _ (if(Value.ref l==Value.none)=true then _ else _) _ _ s
  rw[if_neg (show ¬((Value.ref l==Value.none)=true)from BA)]
  show wpAny _ _ (field (.ref it) 1>>=_) _ _ s
  refine AA (CD ho hd (x:=.int i 0) rfl ?_)
  show wpAny _ _ (seqItems? (.ref l)>>=_) _ _ s
  refine AA (DG hol hdl ?_)
  simp![CI,hx]
  refine AA (FU (AA (wpAny_setField ho hd (by simp) ?_)))
  show wpAny _ _ (newExc (.type "StopIteration") []>>=_) _ _ _
  refine AA ?_
  simp![newExc,newTuple]
  refine AA (BZ ?_ (by size_fits))
  refine AA (m:=firstArgMember _ _) (IP (a:=Value.none) (by first | rfl | (simp![firstArgMember];rfl)) ?_)
  refine BZ ?_ (by size_fits)
  simp![raiseNew]
  refine AA (wpAny_handled ?_)
  first | rw[show A.in1.handled=none from hh] | rw[hh]
  refine AA (AE (wpAny_throw ?_))
  exact hE _ _ (((FZ ..).extBut.push _).push _) ⟨_,AJ _ rfl,rfl⟩
 ·exact wpAny_nextOf_list_end hh hit hl hx hE
variable {b1 b2 : Bool} {z TI TO i1 i2 l1 l2 : Addr} {k1 k2 : Nat} {xs ys : Array Value} {x y a b : Value}
theorem Tt {Q:Option Value->Shared->Prop} (D:ZipApart z TI TO i1 i2 l1 l2)
  (hz:IsZip s.heap z TI TO .none) (hTI:IsPair s.heap TI (.ref i1) (.ref i2)) (hTO:IsPair s.heap TO a b)
  (h1:SI b1 s.heap i1 l1 k1) (h2:SI b2 s.heap i2 l2 k2) (hl1:SQ b1 s.heap l1 xs) (hl2:SQ b2 s.heap l2 ys) (hx:xs[k1]? = some x) (hy:ys[k2]? = some y)
  (hQ:∀h',IsZip h' z TI TO (rawInt s.heap.objs.size)->IsPair h' TO x y->SI b1 h' i1 l1 (k1+1)->SI b2 h' i2 l2 (k2+1)->IsPair h' s.heap.objs.size x y ->
   (∀c o,c≠z->c≠TO->c≠i1->c≠i2->s.heap.get? c=some o->h'.get? c=some o)->Q (some (.ref s.heap.objs.size)) {s with heap:=h'}) :
  wpAny (model prog w) A (pyNext (.ref z)) Q E s:=by
 have hT:s.TypeIs (.ref z) "zip":=⟨_,hz,rfl⟩
 unfold pyNext
 refine AA (EU (BO (name:=Str.ofString "__next__") hT HS (BP HS hT F.entry_zip_next ?_ (F.args_zip_next_1 _))))
 show wpAny _ _ (field (.ref z) 2>>=_) _ _ _
 refine AA (CD hz rfl (x:=.bool false) rfl ?_)
 show wpAny _ _ (field (.ref z) 3>>=_) _ _ _
 refine AA (CD hz rfl (x:=.ref TI) rfl ?_)
 refine AA (DG hTI rfl ?_)
 show wpAny _ _ (Builtin.SmallTypes.ownedTupleIsFree (.ref z)>>=_) _ _ _
 refine AA ?_
 unfold Builtin.SmallTypes.ownedTupleIsFree
 refine AA (CD hz rfl (x:=.none) rfl (AE ?_))
 simp![if_true]
 refine AA (FU ?_)
 refine AA (CD hz rfl (x:=.ref TO) rfl ?_)
 refine AA (BK hz (by simp) λh₁ hz₁ hs₁=>?_)
 replace hz₁:IsZip h₁ z TI TO .ellipsis:=hz₁
 refine AA ?_
 simp![List.zipIdx_cons,List.zipIdx_nil,GH,List.forIn_nil]
 refine AA (AA (IS ?_))
 show wpAny _ _ (Builtin.SmallTypes.nextOf (.ref i1)>>=_) _ _ _
 refine AA (zw (h1.but hs₁.extBut D.i1z) (hl1.but hs₁.extBut D.l1z) hx λh₂ h1₂ hs₂=>AE ?_)
 have hTO₂:IsPair h₂ TO a b:=hs₂.extBut _ _ D.TOi1 (hs₁.extBut _ _ D.TOz hTO)
 refine AA (DG hTO₂ rfl ?_)
 refine AA (HK hTO₂ λh₃ hTO₃ hs₃=>?_)
 replace hTO₃:IsPair h₃ TO x b:=hTO₃
 refine AA (IN (AE ?_))
 refine AA (AA (IS ?_))
 show wpAny _ _ (Builtin.SmallTypes.nextOf (.ref i2)>>=_) _ _ _
 refine AA (zw (((h2.but hs₁.extBut D.i2z).but hs₂.extBut D.i12.symm).but hs₃.extBut D.TOi2.symm) (((hl2.but hs₁.extBut D.l2z).but hs₂.extBut D.l2i1).but hs₃.extBut D.l2TO) hy λh₄ h2₄ hs₄=>AE ?_)
 have hTO₄:IsPair h₄ TO x b:=hs₄.extBut _ _ D.TOi2 hTO₃
 refine AA (DG hTO₄ rfl ?_)
 refine AA (HK hTO₄ λh₅ hTO₅ hs₅=>?_)
 replace hTO₅:IsPair h₅ TO x y:=hTO₅
 refine AA (IN (AE (AE ?_)))
 refine AA (DG hTO₅ rfl ?_)
 refine AA (If ?_)
 have hsz:h₅.objs.size=s.heap.objs.size:=by rw[hs₅.1,hs₄.1,hs₃.1,hs₂.1,hs₁.1]
 have hz₅:IsZip h₅ z TI TO .ellipsis:=hs₅.extBut _ _ D.TOz.symm (hs₄.extBut _ _ D.i2z.symm (hs₃.extBut _ _ D.TOz.symm (hs₂.extBut _ _ D.i1z.symm hz₁)))
 have hk₅:∀c o,c≠z->c≠TO->c≠i1->c≠i2->s.heap.get? c=some o->h₅.get? c=some o:=λc o c1 c2 c3 c4 e=>hs₅.extBut _ _ c2 (hs₄.extBut _ _ c4 (hs₃.extBut _ _ c2 (hs₂.extBut _ _ c3 (hs₁.extBut _ _ c1 e))))
 have h1₅:SI b1 h₅ i1 l1 (k1+1):=((h1₂.but hs₃.extBut D.TOi1.symm).but hs₄.extBut D.i12).but hs₅.extBut D.TOi1.symm
 have h2₅:SI b2 h₅ i2 l2 (k2+1):=h2₄.but hs₅.extBut D.TOi2.symm
 have hzlt:z<h₅.objs.size:=AM hz₅
 show wpAny _ _ (Builtin.SmallTypes.ownedTupleHandOut (.ref z) (.ref h₅.objs.size)>>=_) _ _ _
 refine AA ?_
 unfold Builtin.SmallTypes.ownedTupleHandOut
 have hz₆:IsZip (h₅.push {cls:=.type "tuple",data:=.seq #[x,y]}) z TI TO .ellipsis:=AC _ hz₅
 refine AA (BK hz₆ (by simp) λh₇ hz₇ hs₇=>?_)
 replace hz₇:IsZip h₇ z TI TO (rawInt h₅.objs.size):=hz₇
 refine BK hz₇ (by simp) λh₈ hz₈ hs₈=>?_
 replace hz₈:IsZip h₈ z TI TO (rawInt h₅.objs.size):=hz₈
 have up:∀c o,c≠z->h₅.get? c=some o->h₈.get? c=some o:=λc o c1 e=>hs₈.extBut _ _ c1 (hs₇.extBut _ _ c1 (AC _ e))
 have hT₈:IsPair h₈ h₅.objs.size x y:=hs₈.extBut _ _ (CU hzlt) (hs₇.extBut _ _ (CU hzlt) (AJ _ rfl))
 rw[hsz]at hz₈ hT₈
 refine AE ⟨_,rfl,?_⟩
 show wpAny _ _ (pure (some (Value.ref h₅.objs.size))) _ _ _
 rw[hsz]
 exact AE (hQ h₈ hz₈ (up _ _ D.TOz hTO₅) (h1₅.keep λo e=>up _ o D.i1z e) (h2₅.keep λo e=>up _ o D.i2z e) hT₈ λc o c1 c2 c3 c4 e=>up c o c1 (hk₅ c o c1 c2 c3 c4 e))
theorem Tu {Q:Fin->Shared->Prop} (hh:A.handled=none) (D:ZipApart z TI TO i1 i2 l1 l2)
  (hz:IsZip s.heap z TI TO .none) (hTI:IsPair s.heap TI (.ref i1) (.ref i2)) (hTO:IsPair s.heap TO a b)
  (h1:SI b1 s.heap i1 l1 k1) (h2:SI b2 s.heap i2 l2 k2) (hl1:SQ b1 s.heap l1 xs) (hl2:SQ b2 s.heap l2 ys) (hend:xs[k1]? = none\/ys[k2]? = none)
  (hE:∀h' e,(∀c o,c≠z->c≠TO->c≠i1->c≠i2->s.heap.get? c=some o->h'.get? c=some o)->(∃o,h'.get? e=some o/\o.cls=.type "StopIteration")->E (.ref e) {s with heap:=h'}) :
  wpAny (model prog w) A (Builtin.«zip.__next__» ⟨[.ref z],[]⟩) Q E s:=by
 show wpAny _ _ (field (.ref z) 2>>=_) _ _ _
 refine AA (CD hz rfl (x:=.bool false) rfl ?_)
 show wpAny _ _ (field (.ref z) 3>>=_) _ _ _
 refine AA (CD hz rfl (x:=.ref TI) rfl ?_)
 refine AA (DG hTI rfl ?_)
 show wpAny _ _ (Builtin.SmallTypes.ownedTupleIsFree (.ref z)>>=_) _ _ _
 refine AA ?_
 unfold Builtin.SmallTypes.ownedTupleIsFree
 refine AA (CD hz rfl (x:=.none) rfl (AE ?_))
 simp![if_true]
 refine AA (FU ?_)
 refine AA (CD hz rfl (x:=.ref TO) rfl ?_)
 refine AA (BK hz (by simp) λh₁ hz₁ hs₁=>?_)
 replace hz₁:IsZip h₁ z TI TO .ellipsis:=hz₁
 refine AA ?_
 simp![List.zipIdx_cons,List.zipIdx_nil,GH,List.forIn_nil]
 refine AA (AA (IS ?_))
 show wpAny _ _ (Builtin.SmallTypes.nextOf (.ref i1)>>=_) _ _ _
 cases hx:xs[k1]? with
 | none =>
  refine AA (Kb hh (h1.but hs₁.extBut D.i1z) (hl1.but hs₁.extBut D.l1z) hx λh₂ e hs₂ ⟨oe,hoe,hce⟩=>?_)
  have hz₂:IsZip h₂ z TI TO .ellipsis:=hs₂ _ _ D.i1z.symm hz₁
  have hez:e≠z:=λx=>by subst x;rw[hz₂]at hoe;cases hoe;simp at hce
  exact BK hz₂ (by simp) λh₃ _ hs₃=>hE h₃ e (λc o c1 _ c3 _ x=>hs₃.extBut _ _ c1 (hs₂ _ _ c3 (hs₁.extBut _ _ c1 x))) ⟨oe,hs₃.extBut _ _ hez hoe,hce⟩
 | some x =>
  have hy:ys[k2]? = none:=by rcases hend with h | h;rw[hx]at h;cases h;exact h
  refine AA (zw (h1.but hs₁.extBut D.i1z) (hl1.but hs₁.extBut D.l1z) hx λh₂ h1₂ hs₂=>AE ?_)
  have hTO₂:IsPair h₂ TO a b:=hs₂.extBut _ _ D.TOi1 (hs₁.extBut _ _ D.TOz hTO)
  refine AA (DG hTO₂ rfl ?_)
  refine AA (HK hTO₂ λh₃ hTO₃ hs₃=>?_)
  refine AA (IN (AE ?_))
  refine AA (AA (IS ?_))
  show wpAny _ _ (Builtin.SmallTypes.nextOf (.ref i2)>>=_) _ _ _
  refine AA (Kb hh (((h2.but hs₁.extBut D.i2z).but hs₂.extBut D.i12.symm).but hs₃.extBut D.TOi2.symm) (((hl2.but hs₁.extBut D.l2z).but hs₂.extBut D.l2i1).but hs₃.extBut D.l2TO) hy λh₄ e hs₄ ⟨oe,hoe,hce⟩=>?_)
  have hz₄:IsZip h₄ z TI TO .ellipsis:=hs₄ _ _ D.i2z.symm (hs₃.extBut _ _ D.TOz.symm (hs₂.extBut _ _ D.i1z.symm hz₁))
  have hez:e≠z:=λx=>by subst x;rw[hz₄]at hoe;cases hoe;simp at hce
  exact BK hz₄ (by simp) λh₅ _ hs₅=>hE h₅ e (λc o c1 c2 c3 c4 x=>hs₅.extBut _ _ c1 (hs₄ _ _ c4 (hs₃.extBut _ _ c2 (hs₂.extBut _ _ c3 (hs₁.extBut _ _ c1 x))))) ⟨oe,hs₅.extBut _ _ hez hoe,hce⟩
theorem W7 {Q:Option Value->Shared->Prop} (hh:A.handled=none) (D:ZipApart z TI TO i1 i2 l1 l2)
  (hz:IsZip s.heap z TI TO .none) (hTI:IsPair s.heap TI (.ref i1) (.ref i2)) (hTO:IsPair s.heap TO a b)
  (h1:SI b1 s.heap i1 l1 k1) (h2:SI b2 s.heap i2 l2 k2) (hl1:SQ b1 s.heap l1 xs) (hl2:SQ b2 s.heap l2 ys) (hend:xs[k1]? = none\/ys[k2]? = none)
  (hQ:∀h',(∀c o,c≠z->c≠TO->c≠i1->c≠i2->s.heap.get? c=some o->h'.get? c=some o)->Q none {s with heap:=h'}):wpAny (model prog w) A (pyNext (.ref z)) Q E s:=by
 have hT:s.TypeIs (.ref z) "zip":=⟨_,hz,rfl⟩
 unfold pyNext
 refine AA (EU (BO (name:=Str.ofString "__next__") hT HS
  (BP HS hT F.entry_zip_next (Tu hh D hz hTI hTO h1 h2 hl1 hl2 hend λh' e hk he=>?_) (F.args_zip_next_1 _))))
 obtain⟨o,ho,hc⟩:=he
 exact AA (EH (T:="StopIteration") (b:=true) ⟨o,ho,hc⟩ Ix (AE (hQ _ hk)))
abbrev zp1 (b1:Bool) (h:Heap) (l1:Addr):Heap:=h.push {cls:=.type (W6 b1),data:=.fields #[.ref l1,.int 0 0]}
abbrev zp2 (b1 b2:Bool) (h:Heap) (l1 l2:Addr):Heap:=(zp1 b1 h l1).push {cls:=.type (W6 b2),data:=.fields #[.ref l2,.int 0 0]}
abbrev zp3 (b1 b2:Bool) (h:Heap) (l1 l2:Addr):Heap:=(zp2 b1 b2 h l1 l2).push {cls:=.type "tuple",data:=.seq #[.ref h.objs.size,.ref (zp1 b1 h l1).objs.size]}
abbrev zp4 (b1 b2:Bool) (h:Heap) (l1 l2:Addr):Heap:=(zp3 b1 b2 h l1 l2).push {cls:=.type "tuple",data:=.seq #[.none,.none]}
abbrev zp5 (b1 b2:Bool) (h:Heap) (l1 l2:Addr):Heap:=(zp4 b1 b2 h l1 l2).push {cls:=.type "zip",data:=.fields #[.none,.bool false,.bool false,.ref (zp2 b1 b2 h l1 l2).objs.size,.ref (zp3 b1 b2 h l1 l2).objs.size]}
theorem W8 (b1 b2:Bool) (l1 l2:Addr) (xs ys:Array Value) :
  Meets (Builtin.«zip.__new__» ⟨[.type "zip",.ref l1,.ref l2],[]⟩) (λ_ R s=>SQ b1 s.heap l1 xs/\SQ b2 s.heap l2 ys /\
   R (.ok (.ret (.ref (zp4 b1 b2 s.heap l1 l2).objs.size))) {s with heap:=zp5 b1 b2 s.heap l1 l2}) :=
 .of_wp λprog w A R s h=>by
  obtain⟨hp,g,d,tk,os⟩:=s;obtain⟨hl1,hl2,h⟩:=h
  have hsub:=sub_zip
  have hL1:SQ b1 (Shared.heap ⟨hp,g,d,tk,os⟩) l1 xs:=hl1
  have hL2:SQ b2 (Shared.heap ⟨hp.push {cls:=.type (W6 b1),data:=.fields #[.ref l1,.int 0 0]},g,d,tk,os⟩) l2 ys:=SQ.push hl2 _
  wp_walk using Dk hL1,Dk hL2
  exact⟨_,rfl,h⟩
theorem Tv {Q:Value->Shared->Prop} (hl1:SQ b1 s.heap l1 xs) (hl2:SQ b2 s.heap l2 ys)
  (h:∀h',IsZip h' (s.heap.objs.size+4) (s.heap.objs.size+2) (s.heap.objs.size+3) .none->IsPair h' (s.heap.objs.size+2) (.ref s.heap.objs.size) (.ref (s.heap.objs.size+1)) ->
   IsPair h' (s.heap.objs.size+3) .none .none->SI b1 h' s.heap.objs.size l1 0->SI b2 h' (s.heap.objs.size+1) l2 0 ->
   (∀c o,s.heap.get? c=some o->h'.get? c=some o)->Q (.ref (s.heap.objs.size+4)) {s with heap:=h'}) :
  wpAny (model prog w) A (call (.type "zip") [.ref l1,.ref l2]) Q E s:=by
 refine callType_new F.called_zip (by decide) (F.typeCall_zip_2 _ _) (F.newCall_zip_2 _ _) (λobj=>F.args_object_init_3 obj _ _) F.entry_zip_new (W8 b1 b2 l1 l2 xs ys) ⟨hl1,hl2,?_⟩
 have z1:(zp1 b1 s.heap l1).objs.size=s.heap.objs.size+1:=DF ..
 have z2:(zp2 b1 b2 s.heap l1 l2).objs.size=s.heap.objs.size+2:=by rw[DF,z1]
 have z3:(zp3 b1 b2 s.heap l1 l2).objs.size=s.heap.objs.size+3:=by rw[DF,z2]
 have z4:(zp4 b1 b2 s.heap l1 l2).objs.size=s.heap.objs.size+4:=by rw[DF,z3]
 have g5:(zp5 b1 b2 s.heap l1 l2).get? (zp4 b1 b2 s.heap l1 l2).objs.size=some _:=AJ _ rfl
 have g4:(zp5 b1 b2 s.heap l1 l2).get? (zp3 b1 b2 s.heap l1 l2).objs.size=some _:=AC _ (AJ _ rfl)
 have g3:(zp5 b1 b2 s.heap l1 l2).get? (zp2 b1 b2 s.heap l1 l2).objs.size=some _:=AC _ (AC _ (AJ _ rfl))
 have g2:(zp5 b1 b2 s.heap l1 l2).get? (zp1 b1 s.heap l1).objs.size=some _:=AC _ (AC _ (AC _ (AJ _ rfl)))
 have g1:(zp5 b1 b2 s.heap l1 l2).get? s.heap.objs.size=some _:=AC _ (AC _ (AC _ (AC _ (AJ _ rfl))))
 have s1:SI b1 (zp5 b1 b2 s.heap l1 l2) s.heap.objs.size l1 0:=by cases b1<;>exact⟨_,g1,rfl,rfl⟩
 have s2:SI b2 (zp5 b1 b2 s.heap l1 l2) (zp1 b1 s.heap l1).objs.size l2 0:=by cases b2<;>exact⟨_,g2,rfl,rfl⟩
 show _/\_
 rw[z2,z3,z4]at g5
 rw[z1,z2]at g3
 rw[z3]at g4
 rw[z1]at s2
 rw[z4]
 exact⟨⟨_,g5,rfl⟩,h _ g5 g3 g4 s1 s2 λc o x=>AC _ (AC _ (AC _ (AC _ (AC _ x))))⟩
end
section
variable {X : Cx} {pins : List (Addr × Obj)} {σ : St} {H : Hp} {s : Shared} {φ : Phi}
theorem zx {h':Heap} {t':Nat} {ch:List Addr} (I:Inv X pins σ H s) (k:∀b o,b∉ch->s.heap.get? b=some o->h'.get? b=some o) (hf:∀b∈ch,Gu X pins H b):Inv X pins σ H {s with heap:=h',toks:=t'}:=by
 have nit:∀b u,H b=some u->b∉ch:=λb u e z=>by rw[(hf b z).1]at e;cases e
 refine I.step (g':=s.gens) (d':=s.drawn) (ch:=ch) (λb hb=>⟨(hf b hb).2.2.2.1,(hf b hb).2.1,(hf b hb).2.2.2.2.1,(hf b hb).2.2.2.2.2⟩) (λb o _ _ hc e _=>k b o hc e) (λb o _ _ hc e _=>⟨o.slots,k b o hc e⟩) (λ_ _ _ _ n=>n)
  (λb o hc e=>⟨o,k b o hc e⟩) (λ_ _ e=>e) (λ_ _ _ e=>e) (λb ps e=>⟨#[],by rw[e];simp⟩) (λm hm=>?_) (λb u e=>?_) I.bare
 ·obtain⟨o,es,ep,ho,r⟩:=hm
  exact⟨o,es,ep,k _ o (λz=>(hf _ z).2.1 rfl) ho,r⟩
 ·refine(I.hok b u e).stay (λc v hc q=>k c v ?_ q) (λ_ q=>q) λ_ _ q=>q
  rcases hc with z | z
  ·rw[z];exact nit b u e
  ·exact nit c _ z
def Sq (b:Bool) (K:PySem.W.Frag) (H:Hp) (a:Addr) (xs:List V):Prop:=match b with
 | true=>SqL K H a xs
 | false=>SqT K H a xs
theorem Sq.vals {b:Bool} {a:Addr} {xs:List V} (h:Sq b X.K H a xs) (I:Inv X pins σ H s):∃its:List Value,cz xs its/\SQ b s.heap a its.toArray/\xs.length<=sizeLine:=by
 cases b
 ·obtain⟨its,rv,p,hz⟩:=I.tuple h
  exact⟨its,rv,p,hz⟩
 ·obtain⟨its,rv,p,hz⟩:=I.list h
  exact⟨its,rv,p.isList,hz⟩
theorem Sq.inj {b:Bool} {a:Addr} {xs ys:List V} (h:Sq b X.K H a xs) (I:Inv X pins σ H s) (h':Sq b X.K H a ys):ys=xs:=by
 cases b
 ·exact I.tuple_inj h' h
 ·exact I.list_inj h' h
def Itz (K:PySem.W.Frag) (b1 b2:Bool) (a1 a2:Addr):L2.It :=
 ⟨λi H=>∃xs ys x y,Sq b1 K H a1 xs/\Sq b2 K H a2 ys/\xs[i]? = some x/\ys[i]? = some y,
 λi H v H'=>∃p x y,v=.ref p/\H p=none/\H'=upd H p (.tup [x,y])/\(∀xs,Sq b1 K H a1 xs->xs[i]? = some x)/\(∀ys,Sq b2 K H a2 ys->ys[i]? = some y),
 λi H=>∃xs ys,Sq b1 K H a1 xs/\Sq b2 K H a2 ys/\(xs.length<=i\/ys.length<=i)⟩
theorem Oc {P:Program} {w:World} {K:PySem.W.Frag} {elts:List Expr} {k:Nat} {tp:Pos} {b1 b2:Bool} {z TI TO i1 i2 a1 a2:Addr} (D:ZipApart z TI TO i1 i2 a1 a2) :
  Turn P w K (.Tuple elts k tp) (Itz K b1 b2 a1 a2) [z,TI,TO,i1,i2] z (λi h=>IsZip h z TI TO .none/\IsPair h TI (.ref i1) (.ref i2)/\(∃a b,IsPair h TO a b)/\SI b1 h i1 a1 i/\SI b2 h i2 a2 i) where
 mem:=by simp
 obj:=λi h ⟨hz,hTI,⟨ta,tb,hTO⟩,s1,s2⟩ b hb=>by
  simp![AL,BI,or_false]at hb
  rcases hb with rfl | rfl | rfl | rfl | rfl
  ·exact⟨_,hz,λv e=>by cases e⟩
  ·exact⟨_,hTI,λv e=>by cases e⟩
  ·exact⟨_,hTO,λv e=>by cases e⟩
  ·obtain⟨o,e,_,d⟩:=s1.obj
   exact⟨o,e,λv q=>by rw[d]at q;cases q⟩
  ·obtain⟨o,e,_,d⟩:=s2.obj
   exact⟨o,e,λv q=>by rw[d]at q;cases q⟩
 keep:=λi h h' ⟨hz,hTI,⟨ta,tb,hTO⟩,s1,s2⟩ k=>⟨k z (by simp) _ hz,k TI (by simp) _ hTI,⟨ta,tb,k TO (by simp) _ hTO⟩,s1.keep λo e=>k i1 (by simp) o e,s2.keep λo e=>k i2 (by simp) o e⟩
 item:=by
  intro X hP hw hK hc i pins s σ H E I hf ⟨hz,hTI,⟨ta,tb,hTO⟩,s1,s2⟩ hg
  subst hP hw hK
  obtain⟨xs,ys,x,y,q1,q2,ex,ey⟩:=hg
  obtain⟨is1,rv1,p1,_⟩:=q1.vals I
  obtain⟨is2,rv2,p2,_⟩:=q2.vals I
  obtain⟨u1,hu1,ru1⟩:=rv1.get ex
  obtain⟨u2,hu2,ru2⟩:=rv2.get ey
  refine Tt D hz hTI hTO s1 s2 p1 p2 (x:=u1) (y:=u2) (by simpa using hu1) (by simpa using hu2) λh' c1 c2 c3 c4 c5 kk=>⟨_,rfl,wpAny_letOwnedTupleGo_zip c1 λh'' z'' sb=>?_⟩
  have fr:H s.heap.objs.size=none:=I.hok.fresh (AI _)
  have lt:∀b∈[z,TI,TO,i1,i2],b≠s.heap.objs.size:=by
   intro b hb
   simp![AL,BI,or_false]at hb
   rcases hb with rfl | rfl | rfl | rfl | rfl
   ·exact AT (AM hz)
   ·exact AT (AM hTI)
   ·exact AT (AM hTO)
   ·obtain⟨o,e,_⟩:=s1.obj;exact AT (AM e)
   ·obtain⟨o,e,_⟩:=s2.obj;exact AT (AM e)
  have I1:Inv X pins σ (upd H s.heap.objs.size (.tup [x,y])) {s with heap:=s.heap.push {cls:=.type "tuple",data:=.seq #[u1,u2]},toks:=s.toks} :=
   I.laid (λb u e=>AC _ e) (AI _) ⟨by show 2<=sizeLine;rw[Db];decide,[u1,u2],.cons ru1 (.cons ru2 .nil),⟨_,AJ _ rfl,rfl,rfl,_,rfl⟩⟩
  have hf':∀b∈[z,TI,TO,i1,i2],Gu X pins (upd H s.heap.objs.size (.tup [x,y])) b:=λb hb=>by
   obtain⟨f0,f⟩:=hf b hb
   exact⟨by rw[a8 (lt b hb)];exact f0,f⟩
  have up:∀c o,c≠z->h'.get? c=some o->h''.get? c=some o:=λc o n e=>sb.extBut _ _ n e
  have I2:=zx (s:={s with heap:=s.heap.push {cls:=.type "tuple",data:=.seq #[u1,u2]},toks:=s.toks}) (h':=h'') (t':=s.toks) (ch:=[z,TI,TO,i1,i2]) I1 (λb o hb e=>by
   simp![AL,BI,or_false,not_or]at hb
   rcases Heap.get?_push_cases e with⟨rfl,rfl⟩ | e
   ·exact up _ _ hb.1 c5
   ·exact up _ _ hb.1 (kk b o hb.1 hb.2.2.1 hb.2.2.2.1 hb.2.2.2.2 e)) hf'
  refine⟨.ref s.heap.objs.size,_,I2,rfl,⟨_,x,y,rfl,fr,rfl,λzs hz'=>by rw[q1.inj I hz'];exact ex,λzs hz'=>by rw[q2.inj I hz'];exact ey⟩,?_,λb hb=>(hf' b hb).1⟩
  ·exact⟨z'',up _ _ D.TIz (kk _ _ D.TIz D.TITO D.TIi1 D.TIi2 hTI),⟨u1,u2,up _ _ D.TOz c2⟩,c3.keep λo e=>up _ o D.i1z e,c4.keep λo e=>up _ o D.i2z e⟩
 done:=by
  intro X hP hw hK hc i pins s σ H E I hf ⟨hz,hTI,⟨ta,tb,hTO⟩,s1,s2⟩ hg
  subst hP hw hK
  obtain⟨xs,ys,q1,q2,en⟩:=hg
  obtain⟨is1,rv1,p1,_⟩:=q1.vals I
  obtain⟨is2,rv2,p2,_⟩:=q2.vals I
  have l1:=rv1.length
  have l2:=rv2.length
  refine W7 (I.ok.hd hc) D hz hTI hTO s1 s2 p1 p2 (by rcases en with en | en;exact .inl (by simp;lia);exact .inr (by simp;lia)) λh' kk=>⟨rfl,zx I (h':=h') (t':=s.toks) (ch:=[z,TI,TO,i1,i2]) (λb o hb e=>?_) hf⟩
  simp![AL,BI,or_false,not_or]at hb
  exact kk b o hb.1 hb.2.2.1 hb.2.2.2.1 hb.2.2.2.2 e
 self:=λ_ _ _ _ _ st h=>wpAny_pyIter_zip st.1 h
theorem Dl {K:PySem.W.Frag} {ι:List Addr} {H:Hp} {μ:Sto} {d:D} {v:V} {ds:List D} {g:Gd} (S:Sim K ι H μ) (hd:IsD K ι H d v) (hw:du μ d=some (ds,g)) :
  ∃b a xs,v=.ref a/\Sq b K H a xs/\ar K ι H ds xs/\∀ι2 H2 μ2,ι <+: ι2->Ext H H2->Sim K ι2 H2 μ2->gd g μ2->∃ys,Sq b K H2 a ys/\ar K ι2 H2 ds ys:=by
 cases d with
 | tup es =>
  simp![du,BN,HG]at hw
  obtain⟨rfl,rfl⟩:=hw
  obtain⟨a,xs,rfl,hq,hds⟩:=jq hd
  exact⟨false,a,xs,rfl,hq,hds,λι2 H2 μ2 q1 q2 q3 q4=>⟨xs,hq.ext q2,ar.mono q1 q2 _ _ hds⟩⟩
 | lst es =>
  simp![du,BN,HG]at hw
  obtain⟨rfl,rfl⟩:=hw
  obtain⟨a,xs,rfl,hq,hds⟩:∃a xs,v=.ref a/\FzL K H a xs/\ar K ι H es xs:=by simpa[IsD]using hd
  exact⟨true,a,xs,rfl,hq.sq,hds,λι2 H2 μ2 q1 q2 q3 q4=>⟨xs,(hq.ext q2).sq,ar.mono q1 q2 _ _ hds⟩⟩
 | loc n =>
  obtain⟨a,rfl,hn⟩:∃a,v=.ref a/\ι[n]? = some a:=by simpa[IsD]using hd
  have pre:∀{ι2:List Addr},ι <+: ι2->ι2[n]? = some a:=λhp=>by
   obtain⟨t,rfl⟩:=hp
   rw[AV (AF.mp hn).1];exact hn
  cases em:μ[n]? with
  | none=>simp[du,em]at hw
  | some o =>
   cases o with
   | l es =>
    simp![du,em,BN,HG]at hw
    obtain⟨rfl,rfl⟩:=hw
    obtain⟨a',q',ho⟩:=S.at em
    rw[hn]at q';cases q'
    obtain⟨xs,f1,f2⟩:=ho
    refine⟨true,a,xs,rfl,(show LsL K H a xs from .inl f1).sq,ar.mono (CN) (.refl _) _ _ f2,λι2 H2 μ2 q1 q2 q3 q4=>?_⟩
    obtain⟨a2,e2,o2⟩:=q3.at (show μ2[n]? = some (.l es)from q4)
    rw[pre q1]at e2;cases e2
    obtain⟨ys,g1,g2⟩:=o2
    exact⟨ys,(show LsL K H2 a ys from .inl g1).sq,ar.mono (CN) (.refl _) _ _ g2⟩
   | r es =>
    simp![du,em,BN,HG]at hw
    obtain⟨rfl,rfl⟩:=hw
    obtain⟨a',q',ho⟩:=S.at em
    rw[hn]at q';cases q'
    obtain⟨xs,f1,f2⟩:=ho
    refine⟨true,a,xs,rfl,(show LsL K H a xs from .inl f1).sq,f2,λι2 H2 μ2 q1 q2 q3 q4=>?_⟩
    obtain⟨a2,e2,o2⟩:=q3.at (show μ2[n]? = some (.r es)from q4)
    rw[pre q1]at e2;cases e2
    obtain⟨ys,g1,g2⟩:=o2
    exact⟨ys,(show LsL K H2 a ys from .inl g1).sq,g2⟩
   | d kvs=>simp[du,em]at hw
   | dt kvs=>simp[du,em]at hw
   | dead=>simp[du,em]at hw
 | _=>simp[du]at hw
theorem Od {y:D} {ys:List D} (h:cv [] y=some ys) (μ:Sto):du μ y=some (ys,none):=by
 cases y<;>simp_all[cv,du]
theorem W9 {a b:Expr} {xa xb:Ex} {elts:List Expr} {k:Nat} {tp:Pos} {p pos:Pos} (hg:Gl X "zip") (hm:X.mg "zip"=none) (ha:PE X a (tE X.K φ xa)) (hb:PE X b (tE X.K φ xb)) (hs:starEach [a,b] X.env=[(false,eval a X.env),(false,eval b X.env)])
  (hs2:starEach [b] X.env=[(false,eval b X.env)]):PI X (.Tuple elts k tp) (.Call (.Name "zip" p) [a,b] [] pos) (tI X.K φ (.zip xa xb)):=by
 intro pins s σv H R I ⟨ι,σ,μ,hS,hL,h⟩
 simp![evI]at h
 cases e1:evE φ xa σ μ with
 | exc _ _ _=>rw[e1]at h;exact h.elim
 | stuck=>rw[e1]at h;exact h.elim
 | ok d μ1 =>
 rw[e1]at h
 simp![Res.bg]at h
 cases e2:evE φ xb σ μ1 with
 | exc _ _ _=>rw[e2]at h;exact h.elim
 | stuck=>rw[e2]at h;exact h.elim
 | ok d2 μ2 =>
 rw[e2]at h
 simp![Res.bg]at h
 have hq:tEs X.K φ (.cons xa (.cons xb .nil)) σv H (λvs H1=>∃ι1,ι <+: ι1/\Ext H H1/\Sim X.K ι1 H1 μ2/\ar X.K ι1 H1 [d,d2] vs):=⟨ι,σ,μ,hS,hL,by
  simp![jh,e1,e2,Res.bg]
  exact λι1 v H1 p1 x1 s1 d1=>⟨ι1,p1,x1,s1,d1⟩⟩
 refine Call_ (qk I hg hm PyProof.Rows.boot_zip (CJ (thn (Bg ha (Bg hb Ny hs2) (by rw[hs,hs2]) pos pins s σv H _ I hq) λus s1 ⟨vs,H1,I1,r1,ι1,p1,x1,S1,d1⟩=>?_) (by rw[hs,hs2]) (by rw[hs2];rfl)))
 simp![ar]at d1
 obtain⟨v1,_,rfl,q1,v2,_,rfl,q2,rfl⟩:=d1
 cases r1 with
 | cons ra rr =>
 cases rr with
 | cons rb rr =>
 cases rr
 cases ew:du μ2 d with
 | none=>simp![ew]at h
 | some wg =>
 obtain⟨ds,g⟩:=wg
 cases ey:cv [] d2 with
 | none=>simp![ew,ey]at h
 | some es =>
 simp![ew,ey]at h
 obtain⟨b1,a1,xs,rfl,sq1,ds1,st1⟩:=Dl S1 q1 ew
 obtain⟨b2,a2,ys,rfl,sq2,ds2,st2⟩:=Dl S1 q2 (Od ey μ2)
 cases ra
 cases rb
 obtain⟨i1,rv1,p1',z1⟩:=sq1.vals I1
 obtain⟨i2,rv2,p2',z2⟩:=sq2.vals I1
 refine Tv p1' p2' λh' c1 c2 c3 c4 c5 kk=>?_
 refine wpAny_pyIter_zip c1 ?_
 have I2:Inv X pins σv H1 {s1 with heap:=h'}:=I1.kept (t':=s1.toks) kk
 refine⟨_,[s1.heap.objs.size+4,s1.heap.objs.size+2,s1.heap.objs.size+3,s1.heap.objs.size,s1.heap.objs.size+1],_,_,H1,rfl,I2,Oc (b1:=b1) (b2:=b2) (zipApart_new p1'.lt p2'.lt),⟨c1,c2,⟨_,_,c3⟩,c4,c5⟩,λb hb=>?_,h ι1 H1 _ p1 x1 S1 ?_⟩
 ·have hb':s1.heap.objs.size<=b:=by
   simp![AL,BI,or_false]at hb
   rcases hb with rfl | rfl | rfl | rfl | rfl<;>first | exact AI _ | exact JD _ _
  exact I1.fpOk hb' (I1.hok.fresh hb')
 ·have hlen:((ds.zip es).map λp=>D.tup [p.1,p.2]).length=min ds.length es.length:=by simp
  have n1:=ds1.length
  have n2:=ds2.length
  refine⟨by rw[hlen];lia,λi ι2 H2 μ3 q1 q2 q3 q4 hi=>?_,λi ι2 H2 μ3 w H3 q1 q2 q3 q4 hi hy=>?_,λι2 H2 μ3 q1 q2 q3 q4=>?_⟩
  ·rw[hlen]at hi
   obtain⟨xs',y1,y2⟩:=st1 ι2 H2 μ3 q1 q2 q3 q4
   obtain⟨ys',y3,y4⟩:=st2 ι2 H2 μ3 q1 q2 q3 trivial
   obtain⟨v,ev,_⟩:=y2.get (AB (by lia:i<ds.length))
   obtain⟨v',ev',_⟩:=y4.get (AB (by lia:i<es.length))
   exact⟨xs',ys',v,v',y1,y3,ev,ev'⟩
  ·rw[hlen]at hi
   obtain⟨xs',y1,y2⟩:=st1 ι2 H2 μ3 q1 q2 q3 q4
   obtain⟨ys',y3,y4⟩:=st2 ι2 H2 μ3 q1 q2 q3 trivial
   have hi1:i<ds.length:=by lia
   have hi2:i<es.length:=by lia
   obtain⟨v,ev,hv⟩:=y2.get (AB hi1)
   obtain⟨v',ev',hv'⟩:=y4.get (AB hi2)
   obtain⟨p,x,y,rfl,hp,rfl,f1,f2⟩:=hy
   have e1':=f1 _ y1
   rw[ev]at e1';cases e1'
   have e2':=f2 _ y3
   rw[ev']at e2';cases e2'
   have X1:Ext H2 (upd H2 p (.tup [v,v'])):=Ext.new hp
   refine⟨X1,q3.new hp,.tup [ds[i],es[i]],by simp[DC,hi1,hi2],tup_is (xs:=[v,v']) (.inl ?_) ?_⟩
   ·exact .inl bf
   ·simp![ar]
    exact⟨v,_,rfl,IsD.mono (AO _) X1 _ _ hv,v',_,rfl,IsD.mono (AO _) X1 _ _ hv',rfl⟩
  ·obtain⟨xs',y1,y2⟩:=st1 ι2 H2 μ3 q1 q2 q3 q4
   obtain⟨ys',y3,y4⟩:=st2 ι2 H2 μ3 q1 q2 q3 trivial
   have m1:=y2.length
   have m2:=y4.length
   rw[hlen]
   exact⟨xs',ys',y1,y3,by lia⟩
theorem ym {a b:Expr} {xa xb:Ex} {elts:List Expr} {k:Nat} {tp:Pos} {p pos:Pos} (hm:X.mg "zip"=none) (ha:PE X a (tE X.K φ xa)) (hb:PE X b (tE X.K φ xb)) (hg:Gl X "zip":=by rfl) (hs:starEach [a,b] X.env=[(false,eval a X.env),(false,eval b X.env)]:=by rfl) (hs2:starEach [b] X.env=[(false,eval b X.env)]:=by rfl) :
  PI X (.Tuple elts k tp) (.Call (.Name "zip" p) [a,b] [] pos) (tI X.K φ (.zip xa xb)):=W9 hg hm ha hb hs hs2
end
open AutoSeq1 (wpAny_loadPart')
theorem Tw (l:Addr) (items:Array Value) (n:Nat) (dct:Option Addr) (sl:Array (Option Value)) :
  Meets (Builtin.«enumerate.__new__» ⟨[.type "enumerate",.ref l],[]⟩) (λ_ R s=>s.heap.get? l=some {cls:=.type "tuple",dict:=dct,data:=.seq items n,slots:=sl} /\
   R (.ok (.ret (.ref (s.heap.push {cls:=.type "tuple_iterator",data:=.fields #[.ref l,.int 0 0]}).objs.size)))
    {s with heap:=(s.heap.push {cls:=.type "tuple_iterator",data:=.fields #[.ref l,.int 0 0]}).push {cls:=.type "enumerate",data:=.fields #[.none,.bool false,.ref s.heap.objs.size,rawInt 0,.none,.none]}}) :=
 .of_wp λprog w A R s h=>by
  obtain⟨hp,g,d,tk,os⟩:=s;obtain⟨hl,h⟩:=h
  have hsub:=sub_enumerate
  have hL:Heap.IsTuple (Shared.heap ⟨hp,g,d,tk,os⟩) l items:=⟨_,hl,rfl,n,rfl⟩
  wp_walk using DI hl
  refine wpAny_stack_any λst=>AE ?_
  split
  ·rename_i c _ _ _ _ _
   cases(c==Value.type "enumerate")
   ·wp_walk using DI hl,EK hL
    exact⟨_,rfl,h⟩
   ·wp_walk using DI hl,EK hL
    exact⟨_,rfl,h⟩
  ·wp_walk using DI hl,EK hL
   exact⟨_,rfl,h⟩
section
variable {prog : Program} {w : World} {A : Around} {E : Value -> Shared -> Prop} {s : Shared} {b : Bool}
theorem Tx {l:Addr} {items:Array Value} {Q:Value->Shared->Prop} (hL:SQ b s.heap l items)
  (h:∀h',IsEnum h' (s.heap.objs.size+1) s.heap.objs.size 0 .none->SI b h' s.heap.objs.size l 0->(∀b o,s.heap.get? b=some o->h'.get? b=some o)->Q (.ref (s.heap.objs.size+1)) {s with heap:=h'}) :
  wpAny (model prog w) A (call (.type "enumerate") [.ref l]) Q E s:=by
 cases b
 ·obtain⟨⟨c,dct,dt,sl⟩,hl,hc,n,hd⟩:=hL
  replace hc:c=.type "tuple":=hc
  replace hd:dt=.seq items n:=hd
  subst hc hd
  refine callType_new F.called_enumerate (by decide) (F.typeCall_enumerate_1 _) (F.newCall_enumerate_1 _) (λobj=>F.args_object_init_2 obj _) F.entry_enumerate_new (Tw l items n dct sl) ⟨hl,?_⟩
  have hz:(s.heap.push {cls:=.type "tuple_iterator",data:=.fields #[.ref l,.int 0 0]}).objs.size=s.heap.objs.size+1:=DF ..
  show _/\_
  rw[hz]
  have he:IsEnum ((s.heap.push {cls:=.type "tuple_iterator",data:=.fields #[.ref l,.int 0 0]}).push
    {cls:=.type "enumerate",data:=.fields #[.none,.bool false,.ref s.heap.objs.size,rawInt 0,.none,.none]}) (s.heap.objs.size+1) s.heap.objs.size 0 .none:=by
   have:=AJ (s.heap.push {cls:=.type "tuple_iterator",data:=.fields #[.ref l,.int 0 0]})
    (o:={cls:=.type "enumerate",data:=.fields #[.none,.bool false,.ref s.heap.objs.size,rawInt 0,.none,.none]}) rfl
   rw[hz]at this;exact this
  exact⟨⟨_,he,rfl⟩,h _ he ⟨_,AC _ (AJ _ rfl),rfl,rfl⟩ λb o x=>AC _ (AC _ x)⟩
 ·exact call_enumerate_list hL λh' a1 a2 _ a3=>h h' a1 a2 a3
theorem Tz {e it l:Addr} {i:Nat} {items:Array Value} {x old:Value} {Q:Option Value->Shared->Prop}
  (he:IsEnum s.heap e it i old) (hit:SI b s.heap it l i) (hl:SQ b s.heap l items) (hx:items[i]? = some x) (hne:e≠it)
  (hQ:∀h',IsEnumOut h' e it ((i:Int)+1) x s.heap.objs.size->SI b h' it l (i+1)->h'.get? s.heap.objs.size=some {cls:=.type "tuple",data:=.seq #[.int i s.toks,x]} ->
   (∀b o,b≠e->b≠it->s.heap.get? b=some o->h'.get? b=some o)->Q (some (.ref s.heap.objs.size)) {s with heap:=h',toks:=s.toks+1}) :
  wpAny (model prog w) A (pyNext (.ref e)) Q E s:=by
 have hT:s.TypeIs (.ref e) "enumerate":=⟨_,he,rfl⟩
 unfold pyNext
 refine AA (EU (BO (name:=Str.ofString "__next__") hT FP (BP FP hT F.entry_enumerate_next ?_ (F.args_enumerate_next_1 _))))
 obtain⟨hp,g,d,tk,os⟩:=s
 show wpAny _ _ (field (.ref e) 2>>=_) _ _ _
 refine AA (CD he rfl (x:=.ref it) rfl ?_)
 refine AA (zw hit hl hx λh₁ hit₁ hs₁=>?_)
 replace hs₁:Heap.SameBut it hp h₁:=hs₁
 have he₁:IsEnum h₁ e it i old:=(hs₁.2 e hne).trans he
 show wpAny _ _ (field (.ref e) 3>>=_) _ _ ⟨h₁,g,d,tk,os⟩
 refine AA (CD he₁ rfl (x:=rawInt i) rfl ?_)
 show wpAny _ _ (field (.ref e) 4>>=_) _ _ ⟨h₁,g,d,tk,os⟩
 refine AA (CD he₁ rfl (x:=.none) rfl ?_)
 show wpAny _ _ (mkInt i>>=_) _ _ ⟨h₁,g,d,tk,os⟩
 refine AA (wpAny_mkInt ?_)
 show wpAny _ _ (setField (.ref e) 3 (rawInt ((i:Int)+1))>>=_) _ _ ⟨h₁,g,d,tk+1,os⟩
 refine AA (BK he₁ (by simp) λh₂ he₂ hs₂=>?_)
 replace hs₂:Heap.SameBut e h₁ h₂:=hs₂
 replace he₂:IsEnum h₂ e it ((i:Int)+1) old:=he₂
 show wpAny _ _ (setField (.ref e) 4 .none>>=_) _ _ ⟨h₂,g,d,tk+1,os⟩
 refine AA (BK he₂ (by simp) λh₃ he₃ hs₃=>?_)
 replace hs₃:Heap.SameBut e h₂ h₃:=hs₃
 replace he₃:IsEnum h₃ e it ((i:Int)+1) old:=he₃
 show wpAny _ _ (newTuple [.int i tk,x]>>=_) _ _ ⟨h₃,g,d,tk+1,os⟩
 refine AA (If ?_)
 have he₄:IsEnum (h₃.push {cls:=.type "tuple",data:=.seq #[.int i tk,x]}) e it ((i:Int)+1) old:=AC _ he₃
 generalize hh₄:h₃.push {cls:=.type "tuple",data:=.seq #[.int i tk,x]}=h₄ at he₄
 have hsz:h₃.objs.size=hp.objs.size:=by rw[hs₃.1,hs₂.1,hs₁.1]
 have hel:e<hp.objs.size:=AM he
 have ht₄:h₄.get? hp.objs.size=some {cls:=.type "tuple",data:=.seq #[.int i tk,x]}:=by rw[<-hh₄,<-hsz];exact AJ _ rfl
 have hk₄:∀b o,b≠e->b≠it->hp.get? b=some o->h₄.get? b=some o:=λb o hbe hbi hb=>by
  rw[<-hh₄];exact AC _ (hs₃.extBut b o hbe (hs₂.extBut b o hbe (hs₁.extBut b o hbi hb)))
 have hit₄:SI b h₄ it l (i+1):=by
  rw[<-hh₄];exact((hit₁.but hs₂.extBut (Ne.symm hne)).but hs₃.extBut (Ne.symm hne)).keep λo ho=>AC _ ho
 show wpAny _ _ (Builtin.SmallTypes.ownedTupleIsFree (.ref e)>>=_) _ _ ⟨h₄,g,d,tk+1,os⟩
 rw[hsz]
 clear hh₄ he₃ hs₃ he₂ hs₂ he₁ hs₁ hit₁ hsz h₃ h₂ h₁
 refine AA ?_
 unfold Builtin.SmallTypes.ownedTupleIsFree
 refine AA (CD he₄ rfl (x:=.none) rfl (AE ?_))
 simp![if_true]
 refine AA (FU ?_)
 refine AA (CD he₄ rfl (x:=old) rfl ?_)
 refine AA (BK he₄ (by simp) λh₅ he₅ hs₅=>?_)
 replace hs₅:Heap.SameBut e h₄ h₅:=hs₅
 replace he₅:IsEnum h₅ e it ((i:Int)+1) x:=he₅
 show wpAny _ _ (Builtin.SmallTypes.ownedTupleHandOut (.ref e) (.ref hp.objs.size)>>=_) _ _ ⟨h₅,g,d,tk+1,os⟩
 refine AA ?_
 unfold Builtin.SmallTypes.ownedTupleHandOut
 refine AA (BK he₅ (by simp) λh₆ he₆ hs₆=>?_)
 replace hs₆:Heap.SameBut e h₅ h₆:=hs₆
 replace he₆:IsEnumOut h₆ e it ((i:Int)+1) x hp.objs.size:=he₆
 refine BK he₆ (by simp) λh₇ he₇ hs₇=>?_
 replace hs₇:Heap.SameBut e h₆ h₇:=hs₇
 replace he₇:IsEnumOut h₇ e it ((i:Int)+1) x hp.objs.size:=he₇
 refine AA (IN (AE ⟨_,rfl,AE (hQ h₇ he₇ ?_ ?_ ?_)⟩))
 ·exact((hit₄.but hs₅.extBut (Ne.symm hne)).but hs₆.extBut (Ne.symm hne)).but hs₇.extBut (Ne.symm hne)
 ·exact hs₇.extBut _ _ (CU hel) (hs₆.extBut _ _ (CU hel) (hs₅.extBut _ _ (CU hel) ht₄))
 ·exact λb o hbe hbi hb=>hs₇.extBut b o hbe (hs₆.extBut b o hbe (hs₅.extBut b o hbe (hk₄ b o hbe hbi hb)))
theorem Xa {e it l:Addr} {i:Nat} {items:Array Value} {old:Value} {Q:Option Value->Shared->Prop} (hh:A.handled=none)
  (he:IsEnum s.heap e it i old) (hit:SI b s.heap it l i) (hl:SQ b s.heap l items) (hx:items[i]? = none)
  (hQ:∀h',Heap.ExtBut it s.heap h'->Q none {s with heap:=h'}):wpAny (model prog w) A (pyNext (.ref e)) Q E s:=by
 have hT:s.TypeIs (.ref e) "enumerate":=⟨_,he,rfl⟩
 unfold pyNext
 refine AA (EU (BO (name:=Str.ofString "__next__") hT FP (BP FP hT F.entry_enumerate_next ?_ (F.args_enumerate_next_1 _))))
 show wpAny _ _ (field (.ref e) 2>>=_) _ _ _
 refine AA (CD he rfl (x:=.ref it) rfl ?_)
 refine AA (Kb hh hit hl hx λh' x he' hx'=>?_)
 obtain⟨o,ho,hc⟩:=hx'
 refine AA (EH (T:="StopIteration") (b:=true) ⟨o,ho,hc⟩ Ix ?_)
 exact AE (hQ _ he')
end
section
variable {X : Cx} {pins : List (Addr × Obj)} {σ : St} {H : Hp} {s : Shared} {φ : Phi}
def Ite (K:PySem.W.Frag) (b:Bool) (a:Addr):L2.It :=
 ⟨λi H=>∃xs x,Sq b K H a xs/\xs[i]? = some x,
 λi H v H'=>∃p x,v=.ref p/\H p=none/\H'=upd H p (.tup [.int i,x])/\∀xs,Sq b K H a xs->xs[i]? = some x,
 λi H=>∃xs,Sq b K H a xs/\xs.length<=i⟩
theorem Kc {P:Program} {w:World} {K:PySem.W.Frag} {elts:List Expr} {k:Nat} {tp:Pos} {b:Bool} {e it a:Addr} (hne:e≠it) :
  Turn P w K (.Tuple elts k tp) (Ite K b a) [e,it] e (λi h=>(∃old,IsEnum h e it i old)/\SI b h it a i) where
 mem:=by simp
 obj:=λi h ⟨⟨old,he⟩,s1⟩ c hc=>by
  simp![AL,BI,or_false]at hc
  rcases hc with rfl | rfl
  ·exact⟨_,he,λv e=>by cases e⟩
  ·obtain⟨o,e,_,d⟩:=s1.obj
   exact⟨o,e,λv q=>by rw[d]at q;cases q⟩
 keep:=λi h h' ⟨⟨old,he⟩,s1⟩ k=>⟨⟨old,k e (by simp) _ he⟩,s1.keep λo q=>k it (by simp) o q⟩
 item:=by
  intro X hP hw hK hc i pins s σ H E I hf ⟨⟨old,he⟩,s1⟩ hg
  subst hP hw hK
  obtain⟨xs,x,q1,ex⟩:=hg
  obtain⟨is1,rv1,p1,_⟩:=q1.vals I
  obtain⟨u1,hu1,ru1⟩:=rv1.get ex
  refine Tz he s1 p1 (x:=u1) (by simpa using hu1) hne λh' c1 c2 c3 kk=>⟨_,rfl,wpAny_letOwnedTupleGo_enum c1 λh'' z'' sb=>?_⟩
  have fr:H s.heap.objs.size=none:=I.hok.fresh (AI _)
  have lt:∀c∈[e,it],c≠s.heap.objs.size:=by
   intro c hc
   simp![AL,BI,or_false]at hc
   rcases hc with rfl | rfl
   ·exact AT (AM he)
   ·obtain⟨o,q,_⟩:=s1.obj;exact AT (AM q)
  have I1:Inv X pins σ (upd H s.heap.objs.size (.tup [.int i,x])) {s with heap:=s.heap.push {cls:=.type "tuple",data:=.seq #[.int i s.toks,u1]},toks:=s.toks+1} :=
   I.laid (λb u e=>AC _ e) (AI _) ⟨by show 2<=sizeLine;rw[Db];decide,[.int i s.toks,u1],.cons ⟨s.toks,rfl⟩ (.cons ru1 .nil),⟨_,AJ _ rfl,rfl,rfl,_,rfl⟩⟩
  have hf':∀c∈[e,it],Gu X pins (upd H s.heap.objs.size (.tup [.int i,x])) c:=λc hc=>by
   obtain⟨f0,f⟩:=hf c hc
   exact⟨by rw[a8 (lt c hc)];exact f0,f⟩
  have up:∀c o,c≠e->h'.get? c=some o->h''.get? c=some o:=λc o n q=>sb.extBut _ _ n q
  have I2:=zx (s:={s with heap:=s.heap.push {cls:=.type "tuple",data:=.seq #[.int i s.toks,u1]},toks:=s.toks+1}) (h':=h'') (t':=s.toks+1) (ch:=[e,it]) I1 (λc o hc q=>by
   simp![AL,BI,or_false,not_or]at hc
   rcases Heap.get?_push_cases q with⟨rfl,rfl⟩ | q
   ·exact up _ _ hc.1 c3
   ·exact up _ _ hc.1 (kk c o hc.1 hc.2 q)) hf'
  refine⟨.ref s.heap.objs.size,_,I2,rfl,⟨_,x,rfl,fr,rfl,λzs hz'=>by rw[q1.inj I hz'];exact ex⟩,⟨⟨u1,?_⟩,c2.keep λo q=>up _ o (Ne.symm hne) q⟩,λc hc=>(hf' c hc).1⟩
  exact z''
 done:=by
  intro X hP hw hK hc i pins s σ H E I hf ⟨⟨old,he⟩,s1⟩ hg
  subst hP hw hK
  obtain⟨xs,q1,en⟩:=hg
  obtain⟨is1,rv1,p1,_⟩:=q1.vals I
  have l1:=rv1.length
  refine Xa (I.ok.hd hc) he s1 p1 (by simp;lia) λh' kk=>⟨rfl,zx I (h':=h') (t':=s.toks) (ch:=[e,it]) (λc o hc q=>?_) hf⟩
  simp![AL,BI,or_false,not_or]at hc
  exact kk c o hc.2 q
 self:=λ_ _ _ _ _ st h=>wpAny_pyIter_enum st.1.choose_spec h
theorem T3 {a:Expr} {xa:Ex} {elts:List Expr} {k:Nat} {tp:Pos} {p pos:Pos} (hg:Gl X "enumerate") (hm:X.mg "enumerate"=none) (ha:PE X a (tE X.K φ xa)) (hs:starEach [a] X.env=[(false,eval a X.env)]) :
  PI X (.Tuple elts k tp) (.Call (.Name "enumerate" p) [a] [] pos) (tI X.K φ (.enum xa)):=by
 intro pins s σv H R I ⟨ι,σ,μ,hS,hL,h⟩
 simp![evI]at h
 cases e1:evE φ xa σ μ with
 | exc _ _ _=>rw[e1]at h;exact h.elim
 | stuck=>rw[e1]at h;exact h.elim
 | ok d μ2 =>
 rw[e1]at h
 simp![Res.bg]at h
 have hq:tEs X.K φ (.cons xa .nil) σv H (λvs H1=>∃ι1,ι <+: ι1/\Ext H H1/\Sim X.K ι1 H1 μ2/\ar X.K ι1 H1 [d] vs):=⟨ι,σ,μ,hS,hL,by
  simp![jh,e1,Res.bg]
  exact λι1 v H1 p1 x1 s1 d1=>⟨ι1,p1,x1,s1,d1⟩⟩
 refine Call_ (qk I hg hm PyProof.Rows.boot_enumerate (CJ (thn (Bg ha Ny hs pos pins s σv H _ I hq) λus s1 ⟨vs,H1,I1,r1,ι1,p1,x1,S1,d1⟩=>?_) hs rfl))
 simp![ar]at d1
 obtain⟨v1,_,rfl,q1,rfl⟩:=d1
 cases r1 with
 | cons ra rr =>
 cases rr
 cases ew:du μ2 d with
 | none=>simp![ew]at h
 | some wg =>
 obtain⟨ds,g⟩:=wg
 simp![ew]at h
 obtain⟨b1,a1,xs,rfl,sq1,ds1,st1⟩:=Dl S1 q1 ew
 cases ra
 obtain⟨i1,rv1,p1',z1⟩:=sq1.vals I1
 refine Tx p1' λh' c1 c2 kk=>?_
 refine wpAny_pyIter_enum c1 ?_
 have I2:Inv X pins σv H1 {s1 with heap:=h'}:=I1.kept (t':=s1.toks) kk
 refine⟨_,[s1.heap.objs.size+1,s1.heap.objs.size],_,_,H1,rfl,I2,Kc (b:=b1) (a:=a1) (Nat.succ_ne_self _),⟨⟨_,c1⟩,c2⟩,λc hc=>?_,h ι1 H1 _ p1 x1 S1 ?_⟩
 ·have hc':s1.heap.objs.size<=c:=by
   simp![AL,BI,or_false]at hc
   rcases hc with rfl | rfl<;>first | exact AI _ | exact JD _ _
  exact I1.fpOk hc' (I1.hok.fresh hc')
 ·have hlen:(((List.range ds.length).zip ds).map fun(p:Nat×D)=>D.tup [.int p.1,p.2]).length=ds.length:=by simp
  have n1:=ds1.length
  refine⟨by rw[hlen];lia,λi ι2 H2 μ3 q1 q2 q3 q4 hi=>?_,λi ι2 H2 μ3 w H3 q1 q2 q3 q4 hi hy=>?_,λι2 H2 μ3 q1 q2 q3 q4=>?_⟩
  ·rw[hlen]at hi
   obtain⟨xs',y1,y2⟩:=st1 ι2 H2 μ3 q1 q2 q3 q4
   obtain⟨v,ev,_⟩:=y2.get (AB hi)
   exact⟨xs',v,y1,ev⟩
  ·rw[hlen]at hi
   obtain⟨xs',y1,y2⟩:=st1 ι2 H2 μ3 q1 q2 q3 q4
   obtain⟨v,ev,hv⟩:=y2.get (AB hi)
   obtain⟨p,x,rfl,hp,rfl,f1⟩:=hy
   have e1':=f1 _ y1
   rw[ev]at e1';cases e1'
   have X1:Ext H2 (upd H2 p (.tup [.int i,v])):=Ext.new hp
   refine⟨X1,q3.new hp,.tup [.int i,ds[i]],by simp[DC,hi],tup_is (xs:=[.int i,v]) (.inl ?_) ?_⟩
   ·exact .inl bf
   ·simp![ar]
    exact⟨.int i,_,rfl,by simp[IsD],v,_,rfl,IsD.mono (AO _) X1 _ _ hv,rfl⟩
  ·obtain⟨xs',y1,y2⟩:=st1 ι2 H2 μ3 q1 q2 q3 q4
   have m1:=y2.length
   rw[hlen]
   exact⟨xs',y1,by lia⟩
theorem T4 {a:Expr} {xa:Ex} {elts:List Expr} {k:Nat} {tp:Pos} {p pos:Pos} (hm:X.mg "enumerate"=none) (ha:PE X a (tE X.K φ xa)) (hg:Gl X "enumerate":=by rfl) (hs:starEach [a] X.env=[(false,eval a X.env)]:=by rfl) :
  PI X (.Tuple elts k tp) (.Call (.Name "enumerate" p) [a] [] pos) (tI X.K φ (.enum xa)):=T3 hg hm ha hs
end
section
variable {X : Cx} {φ : Phi} {o e f : Expr} {xo xe xf : Ex} {pos apos cpos : Pos}
theorem Xb (t:Bool):PE X (.Dict [] [] pos) (tE X.K φ (.dic t .nil)):=by
 cases t with
 | false =>
  refine PE.imp Nr λσv H Q ⟨ι,σ,μ,hS,hL,h⟩=>?_
  simp![evE,jh,Res.bg,Qc,AS,if_false]at h
  intro p hp
  refine h (ι++[p]) _ _ (IA _ _) (Ext.new hp) (hS.push hp ⟨[],bf,Paired.nil⟩) ?_
  simp![Lp.IsD]
  exact⟨p,rfl,by rw[<-hS.len];simp⟩
 | true =>
  refine PE.imp Nt λσv H Q ⟨ι,σ,μ,hS,hL,h⟩=>?_
  simp![evE,jh,Res.bg,Qc,if_true]at h
  intro p hp
  refine h (ι++[p]) _ _ (IA _ _) (Ext.new hp) (hS.push hp ⟨[],bf,Paired.nil⟩) ?_
  simp![Lp.IsD]
  exact⟨p,rfl,by rw[<-hS.len];simp⟩
theorem zy (hu:X.A.units+64<cLine) (ho:PE X o (tE X.K φ xo)) (he:PE X e (tE X.K φ xe)) (hf:PE X f (tE X.K φ xf)) (m:M2 X o "get" apos e f cpos:=by exact⟨rfl,rfl,rfl,rfl⟩) :
  PE X (.Call (.Attribute o "get" apos) [e,f] [] cpos) (tE X.K φ (.meth .get xo (.cons xe (.cons xf .nil)))):=by
 refine PE.imp (Nu (by lia) ho he hf m) λσv H Q ⟨ι,σ,μ,hS,hL,h⟩=>?_
 simp![evE,jh]at h
 obtain⟨d,μ1,e1,h⟩:=h.bind
 refine⟨ι,σ,μ,hS,hL,?_⟩
 rw[e1]
 intro ι1 x H1 p1 x1 s1 d1
 cases d with
 | loc n =>
  obtain⟨a,rfl,hn⟩:∃a,x=.ref a/\ι1[n]? = some a:=by simpa[Lp.IsD]using d1
  cases em:μ1[n]? with
  | none=>simp[jb,em,i5]at h
  | some ob =>
   cases ob with
   | d kvs =>
    simp![jb,em,if_true,Res.bind_assoc,Res.bg]at h
    obtain⟨a',q',kx,hk1,hk2⟩:=s1.at em
    rw[hn]at q';cases q'
    obtain⟨y,μ2,e2,h⟩:=h.bind
    refine⟨a,rfl,.inl ⟨_,.inl hk1⟩,ι1,σ,μ1,s1,hL.mono p1 x1,?_⟩
    rw[e2]
    intro ι2 yv H2 p2 x2 s2 d2
    obtain⟨z,μ3,e3,h⟩:=h.bind
    refine⟨ι2,σ,μ2,s2,(hL.mono p1 x1).mono p2 x2,?_⟩
    rw[e3]
    intro ι3 zv H3 p3 x3 s3 d3
    simp![mtD,Sz]at h
    cases ed:dictAt μ3 (.loc n) y with
    | none=>simp![ed]at h;exact h.elim
    | some kvs3 =>
     simp![ed]at h
     obtain⟨p,q,xs,e4,rfl,rfl,hp,hk⟩:=Dg s3 (IsD.mono p3 x3 _ _ (IsD.mono p2 x2 _ _ d1)) (IsD.mono p3 x3 _ _ d2) ed
     cases e4
     exact⟨_,Np.k hp,h ι3 _ H3 ((p1.trans p2).trans p3) ((x1.trans x2).trans x3) s3 ((u6 hk).getD d3)⟩
   | _=>simp[jb,em,i5]at h
 | _=>simp[jb,i5]at h
end
section
variable {X : Cx} {pins : List (Addr × Obj)} {σ : St} {H : Hp} {s : Shared} {φ : Phi}
theorem T5 {p:Addr} {xs:List (Key×V)} (I:Inv X pins σ H s) (h:H p=some (.dK xs)):∃o,Inv X pins σ (upd H p (.frz o (.dK xs))) s:=by
 have hp:=I.hok p _ h
 obtain⟨hz,hsys,vs,rel,o,es,ep,hget,r⟩:=id hp
 refine⟨o,I.ok,I.os,I.bare,⟨I.base.keep,I.base.slot,λb o e hn hx=>?_,I.base.there,λb ys e=>?_,λb o u e=>?_,λb ps e=>?_⟩,I.loc,I.cell,?_,λx c e=>?_,λq hq=>?_,λb u e=>?_,I.len⟩
 ·have q:=I.base.free b o e hn hx
  rw[a8 (λz=>by subst z;rw[h]at q;cases q)]
  exact q
 ·have q:=I.base.tups b ys e
  rw[a8 (qw q h (by intro z;cases z))];exact q
 ·have q:=I.base.frzs b o u e
  rw[a8 (qw q h (by intro z;cases z))];exact q
 ·obtain⟨more,q⟩:=I.base.tbls b ps e
  exact⟨more,by rw[a8 (qw q h (by intro z;cases z))];exact q⟩
 ·rw[a8 (λz=>by rw[<-z,I.free]at h;cases h)];exact I.free
 ·rw[a8 (λz=>by rw[<-z,I.freeC x c e]at h;cases h)];exact I.freeC x c e
 ·obtain⟨e1,e2,e3⟩:=I.pin q hq
  refine⟨e1,?_,e3⟩
  rw[a8 (λz=>by rw[<-z,e2]at h;cases h)];exact e2
 ·by_cases hb:b=p
  ·subst hb
   rw[bf]at e;cases e
   exact⟨hget,hz,hsys,vs,rel,o,es,ep,hget,r⟩
  ·rw[a8 hb]at e
   refine(I.hok b u e).stay (λc v _ q=>q) (λc q=>?_) (λc ys q=>?_)
   ·rw[a8 (qw q h (by intro z;cases z))];exact q
   ·rw[a8 (qw q h (by intro z;cases z))];exact q
theorem yn {α β:Type} {F:α->β->Prop}:∀{xs:List α} {ys:List β} {i:Nat} {y:β},Paired F xs ys->ys[i]? = some y->∃x,xs[i]? = some x/\F x y
 | _,_,_,_,.nil,e=>by simp at e
 | x::_,_::_,0,_,.cons h _,e=>by simp at e;subst e;exact⟨x,rfl,h⟩
 | _::_,_::_,i+1,_,.cons _ t,e=>by
  obtain⟨x,h1,h2⟩:=yn (i:=i) t (by simpa using e)
  exact⟨x,by simpa using h1,h2⟩
theorem zz:entryFor table "dict_valueiterator.__iter__"=some Builtin.«dict_keyiterator.__iter__» :=
 entryFor_alias (id':="dict_keyiterator.__iter__") (by kernel_rfl) (by first | rfl | decide +kernel | (unfold String.splitOn;simp +decide [String.splitOnAux])) (by decide +kernel) (by kernel_rfl)
def Itv (a:Addr) (o:Obj) (xs:List (Key×V)):L2.It :=
 ⟨λi H=>H a=some (.frz o (.dK xs))/\i<xs.length,λi H x H'=>H'=H/\∃k,xs[i]? = some (k,x),λi H=>H a=some (.frz o (.dK xs))/\xs.length<=i⟩
theorem Qi:∀{kvs:List (Key×V)} {vs:List (Key×Value)} {i:Nat} {p:Key×V},KV kvs vs->kvs[i]? = some p->∃u,vs[i]? = some (p.1,u)/\RelV p.2 u
 | _,_,_,_,.nil,e=>by simp at e
 | q::_,r::_,0,p,.cons h _,e=>by
  simp at e;subst e
  exact⟨r.2,by rw[h.1];rfl,h.2⟩
 | q::kvs,r::vs,i+1,p,.cons _ t,e=>by
  obtain⟨u,h1,h2⟩:=Qi (i:=i) t (by simpa using e)
  exact⟨u,by simpa using h1,h2⟩
theorem Qj {a:Addr} {o:Obj} {xs:List (Key×V)} {ep:Nat} (I:Inv X pins σ H s) (hep:∃es,o.data=.dict es ep) (e:H a=some (.frz o (.dK xs))):∃vs,KV xs vs/\s.heap.DictAt (dm X.prog X.w) a vs ep:=by
 obtain⟨hget,hz,hsys,vs,rel,o',es',ep',hget',r1,r2,r3⟩:=(show ji X.prog X.w H s.heap a (.frz o (.dK xs))from I.hok a _ e)
 rw[hget]at hget';cases hget'
 obtain⟨es,h⟩:=hep
 rw[h]at r2;cases r2
 exact⟨vs,rel,o,_,hget,r1,h,r3⟩
theorem Kd {P:Program} {w:World} {K:PySem.W.Frag} {tg:Expr} {a it:Addr} {o:Obj} {xs:List (Key×V)} {ep:Nat} (hep:∃es,o.data=.dict es ep) :
  Turn P w K tg (Itv a o xs) [it] it (λi h=>h.IsValIter it a i xs.length ep) where
 mem:=by simp
 obj:=λi h st b hb=>by
  have e:b=it:=by simpa using hb
  subst e
  obtain⟨o,e,c,d⟩:=st
  exact⟨o,e,λv z=>by rw[d]at z;cases z⟩
 keep:=λi h h' ⟨o,e,r⟩ k=>⟨o,k it (by simp) o e,r⟩
 item:=by
  intro X hP hw hK hc i pins s σ H E I hf st hg
  subst hP hw hK
  obtain⟨hq,hi⟩:=hg
  obtain⟨vs,rel,dd⟩:=Qj I hep hq
  have hl:vs.length=xs.length:=(EE rel).symm
  obtain⟨u,hu,ru⟩:=Qi rel (AB hi)
  obtain⟨f0,f1,f2,f3,f4,f5⟩:=hf it (by simp)
  refine wpAny_pyNext_values_item (by rw[hl];exact st) dd hu λh' st' sb=>?_
  rw[hl]at st'
  have I1:Inv X pins σ H {s with heap:=h'}:=I.turned (t':=s.toks) (λb o hb e=>(sb.2 b hb).trans e) f0 f1 f3 f4 f5
  obtain⟨o',e',c',d'⟩:=id st'
  exact⟨u,rfl,Nf (s:={s with heap:=h'}) e' c' d' (by decide) ⟨_,H,I1,ru,⟨rfl,_,AB hi⟩,st',λb hb=>(hf b hb).1⟩⟩
 done:=by
  intro X hP hw hK hc i pins s σ H E I hf st hg
  subst hP hw hK
  obtain⟨hq,hi⟩:=hg
  obtain⟨vs,rel,dd⟩:=Qj I hep hq
  have hl:vs.length=xs.length:=(EE rel).symm
  obtain⟨f0,f1,f2,f3,f4,f5⟩:=hf it (by simp)
  exact wpAny_pyNext_values_end (I.ok.hd hc) (by rw[hl];exact st) dd (AZ (by lia)) λh' eb=>⟨rfl,I.turned (t':=s.toks) (λb o hb e=>eb b o hb e) f0 f1 f3 f4 f5⟩
 self:=λA i s Q E st h=>by
  have hT:s.TypeIs (.ref it) "dict_valueiterator":=st.typeIs
  refine IQ hT HE (BP HE hT zz ?_ (F.args_dict_valueiterator_iter_1 _))
  show wpAny _ _ (ret (.ref it)) _ _ s
  exact AE ⟨_,rfl,"dict_valueiterator",_,hT,F.slot_dict_valueiterator_next.lookup,h⟩
theorem T6 {o tg:Expr} {xo:Ex} {apos cpos:Pos} (ho:PE X o (tE X.K φ xo)) (hbase:attributeBase o "values" X.env (eval o X.env)=eval o X.env) (hline:(apos.endLine==cpos.line)=true) :
  PI X tg (.Call (.Attribute o "values" apos) [] [] cpos) (tI X.K φ (.vals xo)):=by
 intro pins s σv H R I ⟨ι,σ,μ,hS,hL,h⟩
 simp![evI]at h
 cases e1:evE φ xo σ μ with
 | exc _ _ _=>rw[e1]at h;exact h.elim
 | stuck=>rw[e1]at h;exact h.elim
 | ok d μ1 =>
 rw[e1]at h
 simp![Res.bg]at h
 cases d with
 | loc n =>
  simp only at h
  cases em:μ1[n]? with
  | none=>rw[em]at h;exact h.elim
  | some ob =>
   rw[em]at h
   cases ob with
   | d kvs =>
    simp only at h
    have hq:tE X.K φ xo σv H (λv H1=>∃ι1,ι <+: ι1/\Ext H H1/\Sim X.K ι1 H1 μ1/\Lp.IsD X.K ι1 H1 (.loc n) v):=⟨ι,σ,μ,hS,hL,by rw[e1];exact λι1 v H1 p1 x1 s1 d1=>⟨ι1,p1,x1,s1,d1⟩⟩
    refine wpAny_Call_method0_late hbase hline (thn (ho pins s σv H _ I hq) λu s1 ⟨v,H1,I1,r1,ι1,p1,x1,S1,d1⟩=>?_)
    obtain⟨a,rfl,hn⟩:∃a,v=.ref a/\ι1[n]? = some a:=by simpa[Lp.IsD]using d1
    obtain⟨a',q',xs,hH,hkv⟩:=S1.at em
    rw[hn]at q';cases q'
    obtain rfl:u=Value.ref a:=r1
    obtain⟨t1,t2,hsys⟩:=P7 I1 (.inl ⟨_,.inl hH⟩)
    obtain⟨_,_,vs0,_,dd0⟩:=So I1.hok hH
    refine⟨"dict","dict.values",JC,IT,PySem.F.type_dict_values,t1,t2,FF rfl (PySem.evalArgs_none ?_)⟩
    refine call_meetsIn IT t1 PySem.F.entry_dict_values (PySem.F.args_dict_values_1 _) (meets_dict_values (dm X.prog X.w) a hsys) ⟨⟨vs0,dd0⟩,?_⟩
    have I1':Inv X pins σv H1 {s1 with heap:=s1.heap.push {cls:=.type "dict_values",data:=.fields #[.ref a]}}:=I1.kept (t':=s1.toks) λb o e=>AC _ e
    obtain⟨fo,I2⟩:=T5 I1' hH
    obtain⟨hget,hz,_,vs,rel,o',es,ep,hget',r⟩:=(show ji X.prog X.w _ _ a (.frz fo (.dK xs))from I2.hok a _ bf)
    rw[hget]at hget';cases hget'
    have dat:Heap.DictAt (dm X.prog X.w) (s1.heap.push {cls:=.type "dict_values",data:=.fields #[.ref a]}) a vs ep:=⟨fo,es,hget,r⟩
    have hl:vs.length=xs.length:=(EE rel).symm
    show wpAny _ _ (pyIter (.ref s1.heap.objs.size)) _ _ _
    refine wpAny_pyIter_values (s:={s1 with heap:=s1.heap.push {cls:=.type "dict_values",data:=.fields #[.ref a]}}) (knd:=dm X.prog X.w) (v:=s1.heap.objs.size) ⟨_,AJ _ rfl,rfl,rfl⟩ dat ?_
    have X2:Ext H1 (upd H1 a (.frz fo (.dK xs))):=.dK hH
    refine⟨_,[(s1.heap.push {cls:=.type "dict_values",data:=.fields #[.ref a]}).objs.size],_,_,_,rfl,I2.kept (t':=s1.toks) λb o e=>AC _ e,Kd (a:=a) (o:=fo) (xs:=xs) (ep:=ep) ⟨es,r.2.1⟩,⟨_,AJ _ rfl,rfl,by rw[hl];rfl⟩,λb hb=>?_,h ι1 _ _ p1 (x1.trans X2) (S1.put hn X2 ⟨_,bf⟩) ?_⟩
    ·have e:b=(s1.heap.push {cls:=.type "dict_values",data:=.fields #[.ref a]}).objs.size:=by simpa using hb
     subst e
     exact I2.fpOk (AI _) (I2.hok.fresh (AI _))
    ·have hk:kvs.length=xs.length:=EE hkv
     have get:∀(i:Nat) (hi:i<xs.length) k x,xs[i]? = some (k,x)->∃d,(kvs.map (·.2))[i]? = some d/\Lp.IsD X.K [] H1 d x:=λi hi k x e=>by
      obtain⟨p,e1,_,q⟩:=yn hkv e
      exact⟨p.2,by rw[AW,e1];rfl,q⟩
     refine⟨by rw[AD,hk];exact hz,λi ι2 H2 μ3 q1 q2 q3 q4 hi=>?_,λi ι2 H2 μ3 w H3 q1 q2 q3 q4 hi hy=>?_,λι2 H2 μ3 q1 q2 q3 q4=>?_⟩
     ·exact⟨q2.frzs _ _ _ bf,by rw[AD,hk]at hi;exact hi⟩
     ·obtain⟨rfl,k,e⟩:=hy
      rw[AD,hk]at hi
      obtain⟨d,e2,hd⟩:=get i hi k w e
      exact⟨.refl _,q3,d,e2,IsD.mono CN (X2.trans q2) _ _ hd⟩
     ·exact⟨q2.frzs _ _ _ bf,by rw[AD,hk];exact AI _⟩
   | _=>exact h.elim
 | _=>exact h.elim
theorem T7 {o tg:Expr} {xo:Ex} {apos cpos:Pos} (ho:PE X o (tE X.K φ xo)) (hbase:attributeBase o "values" X.env (eval o X.env)=eval o X.env:=by rfl) (hline:(apos.endLine==cpos.line)=true:=by rfl) :
  PI X tg (.Call (.Attribute o "values" apos) [] [] cpos) (tI X.K φ (.vals xo)):=T6 ho hbase hline
theorem Xc (iw il iw':Nat) {c:Int} {j:Nat} {xw xl xw':Str} {p0 p1 p2 p3 p4 pos:Pos}
  (hNw:X.N[iw]? = some xw:=by rfl) (hvw:Vis X.env.scope xw:=by first | exact Or.inl rfl | exact Or.inr (Or.inl rfl) | exact Or.inr (Or.inr rfl)) (hdw:(xw==("__debug__":Str))=false:=by decide) (hcw:(xw==("__classdict__":Str))=false:=by decide)
  (hNl:X.N[il]? = some xl:=by rfl) (hvl:Vis X.env.scope xl:=by first | exact Or.inl rfl | exact Or.inr (Or.inl rfl) | exact Or.inr (Or.inr rfl)) (hdl:(xl==("__debug__":Str))=false:=by decide) (hcl:(xl==("__classdict__":Str))=false:=by decide)
  (hNv:X.N[iw']? = some xw':=by rfl) (hvv:Vis X.env.scope xw':=by first | exact Or.inl rfl | exact Or.inr (Or.inl rfl) | exact Or.inr (Or.inr rfl)) (hdv:(xw'==("__debug__":Str))=false:=by decide) (hcv:(xw'==("__classdict__":Str))=false:=by decide) :
  PE X (.Dict [some (.Constant (.int c) j p0),some (.Name xl p1)] [.UnaryOp .USub (.Name xw p2) p3,.Name xw' p4] pos)
   (tE X.K φ (.dic false (.cons (.cst (.int c)) (.cons (.neg (.var iw)) (.cons (.var il) (.cons (.var iw') .nil)))))):=by
 refine PE.imp (Su (Ez Pr (Vs Pw (yd hNw hvw hdw hcw)) (Ez (yd hNl hvl hdl hcl) (yd hNv hvv hdv hcv) Ss)) rfl rfl (by simp) (by simp)) λσv H Q ⟨ι,σ,μ,hS,hL,h⟩=>?_
 simp![evE,jh,Res.bg]at h
 intro p hp
 cases ew:σ[iw]? with
 | none=>rw[ew]at h;exact h.elim
 | some ow =>
 cases ow with
 | none=>rw[ew]at h;exact h.elim
 | some dw =>
 rw[ew]at h
 simp![Res.bg]at h
 cases dw with
 | int w =>
  simp![Res.bg]at h
  cases el:σ[il]? with
  | none=>rw[el]at h;exact h.elim
  | some ol =>
  cases ol with
  | none=>rw[el]at h;exact h.elim
  | some dl =>
  rw[el]at h
  simp![Res.bg]at h
  cases ev:σ[iw']? with
  | none=>rw[ev]at h;exact h.elim
  | some ov =>
  cases ov with
  | none=>rw[ev]at h;exact h.elim
  | some dv =>
  rw[ev]at h
  simp![Res.bg]at h
  cases dl with
  | int l =>
   simp![Qc]at h
   split at h
   ·rename_i hc
    obtain⟨_,_,hpv⟩:=hc
    obtain⟨vw,e1,q1⟩:=hL _ _ ew
    obtain⟨vl,e2,q2⟩:=hL _ _ el
    obtain⟨vv,e3,q3⟩:=hL _ _ ev
    cases f6 q1
    cases f6 q2
    refine⟨.int w,e1,w,rfl,.int l,e2,vv,e3,bf,[(.inl c,.int (-w)),(.inl l,vv)],rfl,by simp,?_⟩
    rw[Ip]
    refine h (ι++[p]) _ _ (IA _ _) (Ext.new hp) (hS.push hp ⟨_,bf,?_⟩) ?_
    ·have X1:Ext H (upd H p (.dK (vi [] [(.inl c,.int (-w)),(.inl l,vv)]))):=Ext.new hp
     have k0:Nx X.K (upd H p (.dK (vi [] [(.inl c,.int (-w)),(.inl l,vv)]))) [(.int c,.int (-w))] [(.inl c,.int (-w))]:=.cons ⟨by simp[Lp.IsD,kV],by simp[Lp.IsD]⟩ .nil
     exact E6 (k:=.inl l) (IsD.mono CN X1 _ _ (IsD.pur hpv q3)) k0
    ·simp![Lp.IsD]
     exact⟨p,rfl,by rw[<-hS.len];simp⟩
   ·exact h.elim
  | _=>exact h.elim
 | _=>exact h.elim
end
section
variable {X : Cx} {φ : Phi} {pos : Pos}
theorem wm:∀(r:List Int) (x:Int),Jm x r<=x/\(∀y∈r,Jm x r<=y)/\(Jm x r=x\/Jm x r∈r)
 | [],x=>⟨GM _,by simp,.inl rfl⟩
 | y::r,x=>by
  have ih:=wm r (if y<x then y else x)
  simp![Jm]
  split at ih
  ·rename_i hlt
   rw[if_pos hlt]
   refine⟨by lia,λz hz=>?_,?_⟩
   ·rcases AL.mp hz with rfl | hz
    ·exact ih.1
    ·exact ih.2.1 z hz
   ·rcases ih.2.2 with e | e
    ·exact .inr (by rw[e];simp)
    ·exact .inr (AH _ e)
  ·rename_i hlt
   rw[if_neg hlt]
   refine⟨ih.1,λz hz=>?_,?_⟩
   ·rcases AL.mp hz with rfl | hz
    ·lia
    ·exact ih.2.1 z hz
   ·rcases ih.2.2 with e | e
    ·exact .inl e
    ·exact .inr (AH _ e)
theorem T8 {m:Mk} (hc:X.calm=true):gr X (.builtin "min") (uv X.K (btD .min1 m)):=by
 intro pins s σ H xs us Q I r ⟨ι,ds,μ,hS,hds,h⟩
 obtain⟨d,v,rfl,hv,h⟩:=kh hds h
 obtain⟨a,ns,rfl,hq,h⟩:=Di hS hv h
 obtain⟨u,rfl,ru⟩:=vals1 r
 cases(show u=Value.ref a from ru)
 cases ns with
 | nil=>exact h.elim
 | cons n0 r0 =>
 refine call_min_walk (u7 I hq (show X.A.in1.handled=none from I.ok.hd hc) λit fp its St s2 hvs W st hfp hI=>?_)
 have hl:(n0::r0).length=its.length:=by have:=hvs.length;simpa using this
 have at_:∀(i:Nat) w,its[i]? = some w->∃t,w=.int ((n0::r0).getD i 0) t:=λi w e=>by
  have hi:i<(n0::r0).length:=by rw[hl];exact(AF.mp e).1
  obtain⟨u',e1,⟨t,e2⟩⟩:=hvs.get (i:=i) (x:=.int (n0::r0)[i]) (by rw[AW,AB hi];rfl)
  rw[e]at e1;cases e1
  exact⟨t,by rw[e2];simp[BF,AB hi]⟩
 refine⟨it,fp,[it],its.length,_,St,λi j=>decide ((n0::r0).getD i 0<(n0::r0).getD j 0),rfl,W,st,hfp,by rw[<-hl];simp,CmpOf.ints_lt (λi=>(n0::r0).getD i 0) at_,λw h' tk hw hk=>?_⟩
 ·obtain⟨t,rfl⟩:=at_ _ w hw
  have ab:=argBest_lt (λi=>(n0::r0).getD i 0) (its.length-1)
  have ml:=wm r0 n0
  have hl':r0.length+1=its.length:=by simpa using hl
  have e:(n0::r0).getD (argBest (λi j=>decide ((n0::r0).getD i 0<(n0::r0).getD j 0)) (its.length-1)) 0=Jm n0 r0:=by
   apply Int.le_antisymm
   ·have mem:Jm n0 r0∈n0::r0:=by rcases ml.2.2 with e | e;(rw[e];simp);exact AH _ e
    obtain⟨k,hk,ek⟩:=BS.mp mem
    have:=ab.2 k (by simp at hk;lia)
    rw[<-ek]
    simpa[BF,AB hk]using this
   ·have hb:argBest (λi j=>decide ((n0::r0).getD i 0<(n0::r0).getD j 0)) (its.length-1)<(n0::r0).length:=by
     have:=ab.1
     simp![BV];lia
    generalize argBest (λi j=>decide ((n0::r0).getD i 0<(n0::r0).getD j 0)) (its.length-1)=b at hb
    have mem:(n0::r0).getD b 0∈n0::r0:=by
     rw[BF,AB hb]
     exact CB hb
    rcases AL.mp mem with e | e
    ·rw[e];exact ml.1
    ·exact ml.2.1 _ e
  exact⟨.int (Jm n0 r0),H,hI h' tk hk,⟨t,by rw[e]⟩,h.ok hS (by simp[IsD])⟩
theorem Oe {m:Mk} {p:Pos} {e:Expr} {xs:Exs} (hm:X.mg "min"=none) (ha:PA X [e] (tEs X.K φ xs)) (hc:X.calm=true:=by rfl) (hg:Gl X "min":=by rfl) (he:starEach [e] X.env=(false,eval e X.env)::starEach [] X.env:=by rfl) (hpl:(backTo pos (starEach [] X.env)).any (·.1)=false:=by rfl) :
  PE X (.Call (.Name "min" p) [e] [] pos) (tE X.K φ (.blt .min1 m xs)):=kj (r:=λ_ _ _=>True) (es:=[]) (i9 (T8 hc) hg hm (by first | exact JZ | decide +kernel) ha (by decide) (by decide) he hpl)
end
end Lp
namespace Lp.Srt
open PySem PySem.W PyProof.Rows
def KW {α:Type} (lt:Nat->Nat->Bool) (n:Nat):KasT α->(α->Prop)->Prop
 | .ret a,Q=>Q a
 | .ask i j k,Q=>i<n/\j<n/\KW lt n (k (lt i j)) Q
theorem KW.bd {α β:Type} {lt:Nat->Nat->Bool} {n:Nat} {f:α->KasT β} {Q:β->Prop}:∀{t:KasT α},KW lt n t (λa=>KW lt n (f a) Q)->KW lt n (t.bind f) Q
 | .ret _,h=>h
 | .ask i j k,h=>⟨h.1,h.2.1,KW.bd h.2.2⟩
theorem KW.weak {α:Type} {lt:Nat->Nat->Bool} {n:Nat} {Q Q':α->Prop} (hq:∀a,Q a->Q' a):∀{t:KasT α},KW lt n t Q->KW lt n t Q'
 | .ret _,h=>hq _ h
 | .ask _ _ _,h=>⟨h.1,h.2.1,KW.weak hq h.2.2⟩
section
variable {r : Nat -> Nat} {n : Nat}
abbrev ltR (r:Nat->Nat) (i j:Nat):Bool:=decide (r i<r j)
def PP (n:Nat) (p:Array Nat):Prop:=p.toList.Perm (List.range n)
def Ky (r:Nat->Nat) (p:Array Nat) (x:Nat):Nat:=r (p.getD x 0)
def Up (r:Nat->Nat) (p:Array Nat) (k:Nat):Prop:=∀i j,i<=j->j<k->Ky r p i<=Ky r p j
def Dn (r:Nat->Nat) (p:Array Nat) (k:Nat):Prop:=∀i j,i<=j->j<k->Ky r p j<=Ky r p i
theorem PP.sz {p:Array Nat} (h:PP n p):p.size=n:=by
 have:=h.length_eq
 simpa using this
theorem PP.inb {p:Array Nat} (h:PP n p) (hn:0<n) (x:Nat):p.getD x 0<n:=by
 by_cases hx:x<p.size
 ·have e:p.getD x 0=p[x]:=by simp[hx]
  rw[e]
  have:p[x]∈List.range n:=h.mem_iff.mp (by simp)
  simpa using this
 ·have e:p.getD x 0=0:=by simp[hx]
  rw[e];exact hn
theorem Br (p:Array Nat) (x:Nat):Ky r p x=r ((p[x]?).getD 0):=by
 unfold Ky
 rw[Array.getD_eq_getD_getElem?]
theorem PP.rev {p:Array Nat} (h:PP n p) (i j:Nat):PP n (kas_rev p i j):=(IB.mp (mirror_perm p i j ((j-i) / 2))).trans h
theorem PP.bub {p:Array Nat} (h:PP n p) (i d:Nat):PP n (bubble p i d):=(IB.mp (bubble_perm p i d)).trans h
theorem Fe {p:Array Nat} {i j:Nat} (hj:j<=p.size) (hij:i<=j) (x:Nat):Ky r (kas_rev p i j) x=if i<=x/\x<j then Ky r p (i+j-1-x)else Ky r p x:=by
 rw[Br]
 unfold kas_rev
 rw[getElem?_mirror hj ((j-i) / 2) (by lia) x]
 by_cases h:i<=x/\x<j
 ·rw[if_pos h]
  split
  ·rw[Br]
  ·rename_i hm
   have:x=i+j-1-x:=by lia
   rw[Br,<-this]
 ·rw[if_neg h,if_neg (by lia),Br]
theorem Qk {p:Array Nat} {k d:Nat} (hk:k<p.size) (hd:d<=k) (x:Nat):Ky r (bubble p k d) x=if x=k-d then Ky r p k else if k-d<x/\x<=k then Ky r p (x-1)else Ky r p x:=by
 rw[Br,getElem?_bubble hk d hd x]
 split
 ·rw[Br]
 ·split
  ·rw[Br]
  ·rw[Br]
theorem Ke {p:Array Nat} (hp:PP n p) (hn:0<n):∀(f m:Nat),1<=m->m+f<=n->Up r p m->KW (ltR r) n (kas_asc p f m) (λq=>m<=q/\q<=m+f/\Up r p q/\(q<m+f->Ky r p q<Ky r p (q-1)))
 | 0,m,_,_,hu=>⟨AI _,AI _,hu,λh=>absurd h (by lia)⟩
 | f+1,m,h1,h2,hu=>by
  refine⟨hp.inb hn _,hp.inb hn _,?_⟩
  by_cases hc:Ky r p m<Ky r p (m-1)
  ·have e:ltR r (p.getD m 0) (p.getD (m-1) 0)=true:=decide_eq_true hc
   (rw[e];dsimp only;rw[if_pos rfl])
   exact⟨AI _,by lia,hu,λ_=>hc⟩
  ·have e:ltR r (p.getD m 0) (p.getD (m-1) 0)=false:=decide_eq_false hc
   (rw[e];dsimp only;rw[if_neg BA])
   refine(Ke hp hn f (m+1) (by lia) (by lia) λi j hij hj=>?_).weak λq hq=>⟨by lia,by lia,hq.2.2.1,λh=>hq.2.2.2 (by lia)⟩
   by_cases hj':j<m
   ·exact hu i j hij hj'
   ·have ej:j=m:=by lia
    subst ej
    by_cases hi:i=j
    ·rw[hi];exact AI _
    ·have:=hu i (j-1) (by lia) (by lia)
     lia
def Bk (r:Nat->Nat) (p:Array Nat) (m q:Nat):Prop:=∀x,m-(q+1)<=x->x<m->Ky r p x=Ky r p (m-1)
theorem Kf {p:Array Nat} {m q:Nat} (hm:m<=p.size) (hq:q+1<=m) (hb:Bk r p m q) (x:Nat):Ky r (kas_rev p (m-(q+1)) m) x=Ky r p x:=by
 rw[Fe hm (by lia)]
 split
 ·rename_i h
  rw[hb x h.1 h.2,hb _ (by lia) (by lia)]
 ·rfl
theorem z5 (hn:0<n):∀(f:Nat) (p:Array Nat) (m q:Nat),PP n p->1<=m->m+f<=n->q+1<=m->Dn r p m->Bk r p m q ->
  KW (ltR r) n (kas_desc f p m q) (λz=>PP n z.1/\m<=z.2.1/\z.2.1<=m+f/\z.2.2+1<=z.2.1/\Dn r z.1 z.2.1/\Bk r z.1 z.2.1 z.2.2)
 | 0,p,m,q,hp,h1,h2,hq,hd,hb=>⟨hp,AI _,AI _,hq,hd,hb⟩
 | f+1,p,m,q,hp,h1,h2,hq,hd,hb=>by
  have hsz:=hp.sz
  have dn1:∀p':Array Nat,(∀x,Ky r p' x=Ky r p x)->Ky r p m<=Ky r p (m-1)->Dn r p' (m+1):=λp' he hle i j hij hj=>by
   rw[he,he]
   by_cases hj':j<m
   ·exact hd i j hij hj'
   ·have ej:j=m:=by lia
    subst ej
    by_cases hi:i=j
    ·rw[hi];exact AI _
    ·have:=hd i (j-1) (by lia) (by lia)
     lia
  have bk0:∀p':Array Nat,Bk r p' (m+1) 0:=λp' x hx hx'=>by
   have:x=m:=by lia
   rw[this];rfl
  refine⟨hp.inb hn _,hp.inb hn _,?_⟩
  by_cases hc:Ky r p m<Ky r p (m-1)
  ·have e:ltR r (p.getD m 0) (p.getD (m-1) 0)=true:=decide_eq_true hc
   (rw[e];dsimp only;rw[if_pos rfl])
   by_cases h0:q > 0
   ·rw[if_pos h0]
    exact(z5 hn f _ (m+1) 0 (hp.rev _ _) (by lia) (by lia) (by lia) (dn1 _ (Kf (by lia) hq hb) (by lia)) (bk0 _)).weak λz hz=>⟨hz.1,by lia,by lia,hz.2.2.2⟩
   ·rw[if_neg h0]
    exact(z5 hn f p (m+1) 0 hp (by lia) (by lia) (by lia) (dn1 p (λ_=>rfl) (by lia)) (bk0 _)).weak λz hz=>⟨hz.1,by lia,by lia,hz.2.2.2⟩
  ·have e:ltR r (p.getD m 0) (p.getD (m-1) 0)=false:=decide_eq_false hc
   (rw[e];dsimp only;rw[if_neg BA])
   refine⟨hp.inb hn _,hp.inb hn _,?_⟩
   by_cases hc2:Ky r p (m-1)<Ky r p m
   ·have e2:ltR r (p.getD (m-1) 0) (p.getD m 0)=true:=decide_eq_true hc2
    (rw[e2];dsimp only;rw[if_pos rfl])
    exact⟨hp,AI _,JD _ _,hq,hd,hb⟩
   ·have e2:ltR r (p.getD (m-1) 0) (p.getD m 0)=false:=decide_eq_false hc2
    (rw[e2];dsimp only;rw[if_neg BA])
    refine(z5 hn f p (m+1) (q+1) hp (by lia) (by lia) (by lia) (dn1 p (λ_=>rfl) (by lia)) λx hx hx'=>?_).weak λz hz=>⟨hz.1,by lia,by lia,hz.2.2.2⟩
    show Ky r p x=Ky r p m
    by_cases hx2:x=m
    ·rw[hx2]
    ·rw[hb x (by lia) (by lia)];lia
theorem Xd {p:Array Nat} {m:Nat} (hm:m<=p.size) (hd:Dn r p m):Up r (kas_rev p 0 m) m:=λi j hij hj=>by
 rw[Fe hm (CS _),Fe hm (CS _),if_pos (by lia),if_pos (by lia)]
 exact hd _ _ (by lia) (by lia)
theorem Kg {p:Array Nat} {m:Nat} (hp:PP n p) (hn:0<n) (h1:1<=m) (h2:m<=n) (hd:Dn r p m):KW (ltR r) n (kas_tail3 m n p) (λz=>1<=z.1/\z.1<=n/\PP n z.2/\Up r z.2 z.1):=by
 unfold kas_tail3
 refine KW.bd ((Ke (hp.rev _ _) hn (n-m) m h1 (by lia) (Xd (by rw[hp.sz];exact h2) hd)).weak λq hq=>?_)
 exact⟨by lia,by lia,hp.rev _ _,hq.2.2.1⟩
theorem Kh {p:Array Nat} {m:Nat} (hp:PP n p) (hn:0<n) (h1:1<=m) (h2:m<n) (hd:Dn r p m) (hlt:Ky r p m<Ky r p (m-1)):KW (ltR r) n (kas_descPart m n p) (λz=>1<=z.1/\z.1<=n/\PP n z.2/\Up r z.2 z.1):=by
 unfold kas_descPart
 have hd1:Dn r p (m+1):=λi j hij hj=>by
  by_cases hj':j<m
  ·exact hd i j hij hj'
  ·have ej:j=m:=by lia
   subst ej
   by_cases hi:i=j
   ·rw[hi];exact AI _
   ·have:=hd i (j-1) (by lia) (by lia)
    lia
 refine KW.bd ((z5 hn (n-(m+1)) p (m+1) 0 hp (by lia) (by lia) (by lia) hd1 λx hx hx'=>by rw[show x=m by lia];rfl).weak λz hz=>?_)
 obtain⟨hp',g1,g2,g3,g4,g5⟩:=hz
 by_cases h0:z.2.2 > 0
 ·rw[if_pos h0]
  refine Kg (hp'.rev _ _) hn (by lia) (by lia) λi j hij hj=>?_
  rw[Kf (by rw[hp'.sz];lia) g3 g5,Kf (by rw[hp'.sz];lia) g3 g5]
  exact g4 i j hij hj
 ·rw[if_neg h0]
  exact Kg hp' hn (by lia) (by lia) g4
theorem Of {p:Array Nat} (hp:PP n p) (hn:2<=n):KW (ltR r) n (kas_count n p) (λz=>1<=z.1/\z.1<=n/\PP n z.2/\Up r z.2 z.1):=by
 unfold kas_count
 have hn0:0<n:=by lia
 refine KW.bd ((Ke hp hn0 (n-1) 1 (AI _) (by lia) λi j hij hj=>by rw[show i=j by lia];exact AI _).weak λq hq=>?_)
 obtain⟨g1,g2,g3,g4⟩:=hq
 by_cases h0:q=n
 ·rw[if_pos (by simp[h0])]
  exact⟨by lia,by lia,hp,g3⟩
 ·rw[if_neg (by simp[h0])]
  have hlt:=g4 (by lia)
  by_cases h1:q > 1
  ·rw[if_pos h1]
   refine⟨hp.inb hn0 _,hp.inb hn0 _,?_⟩
   by_cases hc:Ky r p 0<Ky r p (q-1)
   ·have e:ltR r (p.getD 0 0) (p.getD (q-1) 0)=true:=decide_eq_true hc
    (rw[e];dsimp only;rw[if_pos rfl])
    exact⟨by lia,by lia,hp,g3⟩
   ·have e:ltR r (p.getD 0 0) (p.getD (q-1) 0)=false:=decide_eq_false hc
    (rw[e];dsimp only;rw[if_neg BA])
    have all:∀x,x<q->Ky r p x=Ky r p 0:=λx hx=>by
     have a:=g3 0 x (by lia) hx
     have b:=g3 x (q-1) (by lia) (by lia)
     lia
    have same:∀x,Ky r (kas_rev p 0 q) x=Ky r p x:=λx=>by
     rw[Fe (by rw[hp.sz];lia) (by lia)]
     split
     ·rw[all x (by lia),all _ (by lia)]
     ·rfl
    refine Kh (hp.rev _ _) hn0 (by lia) (by lia) (λi j hij hj=>?_) ?_
    ·rw[same,same,all i (by lia),all j hj]
     exact AI _
    ·rw[same,same];exact hlt
  ·rw[if_neg h1]
   have e1:q=1:=by lia
   subst e1
   exact Kh hp hn0 (by lia) (by lia) (λi j hij hj=>by rw[show i=j by lia];exact AI _) hlt
theorem z6 {p:Array Nat} {k:Nat} (hp:PP n p) (hn:0<n) (hu:Up r p k):∀(f l q:Nat),l<=q->q<=k->q-l<=f->(∀x,x<l->Ky r p x<=Ky r p k)->(∀x,q<=x->x<k->Ky r p k<Ky r p x) ->
  KW (ltR r) n (kas_place p k f l q) (λz=>z<=k/\(∀x,x<z->Ky r p x<=Ky r p k)/\∀x,z<=x->x<k->Ky r p k<Ky r p x)
 | 0,l,q,h1,h2,h3,ha,hb=>⟨by lia,ha,λx hx=>hb x (by lia)⟩
 | f+1,l,q,h1,h2,h3,ha,hb=>by
  unfold kas_place
  by_cases h0:l≥q
  ·rw[if_pos h0]
   exact⟨by lia,ha,λx hx=>hb x (by lia)⟩
  ·rw[if_neg h0]
   refine⟨hp.inb hn _,hp.inb hn _,?_⟩
   by_cases hc:Ky r p k<Ky r p ((l+q) / 2)
   ·have e:ltR r (p.getD k 0) (p.getD ((l+q) / 2) 0)=true:=decide_eq_true hc
    (rw[e];dsimp only;rw[if_pos rfl])
    refine z6 hp hn hu f l ((l+q) / 2) (by lia) (by lia) (by lia) ha λx hx hx'=>?_
    have:=hu ((l+q) / 2) x hx hx'
    lia
   ·have e:ltR r (p.getD k 0) (p.getD ((l+q) / 2) 0)=false:=decide_eq_false hc
    (rw[e];dsimp only;rw[if_neg BA])
    refine z6 hp hn hu f ((l+q) / 2+1) q (by lia) h2 (by lia) (λx hx=>?_) hb
    have:=hu x ((l+q) / 2) (by lia) (by lia)
    lia
theorem Ql (hn:0<n):∀(f:Nat) (p:Array Nat) (k:Nat),PP n p->k+f=n->1<=k->Up r p k->KW (ltR r) n (kas_bin f p k) (λz=>PP n z/\Up r z n)
 | 0,p,k,hp,h1,_,hu=>⟨hp,by rw[<-h1];exact hu⟩
 | f+1,p,k,hp,h1,h2,hu=>by
  unfold kas_bin
  refine KW.bd ((z6 hp hn hu k 0 k (by lia) (AI _) (by lia) (λx hx=>absurd hx (by lia)) (λx hx hx'=>absurd hx' (by lia))).weak λl hl=>?_)
  obtain⟨g1,g2,g3⟩:=hl
  refine Ql hn f _ (k+1) (hp.bub _ _) (by lia) (by lia) λi j hij hj=>?_
  have hsz:=hp.sz
  have ek:k-(k-l)=l:=by lia
  rw[Qk (by lia) (by lia),Qk (by lia) (by lia),ek]
  by_cases i1:i=l
  ·rw[if_pos i1]
   by_cases j1:j=l
   ·rw[if_pos j1];exact AI _
   ·rw[if_neg j1,if_pos (by lia)]
    exact FD (g3 (j-1) (by lia) (by lia))
  ·rw[if_neg i1]
   by_cases i2:l<i/\i<=k
   ·rw[if_pos i2,if_neg (show ¬j=l by lia),if_pos (by lia)]
    exact hu (i-1) (j-1) (by lia) (by lia)
   ·rw[if_neg i2]
    by_cases j1:j=l
    ·rw[if_pos j1];exact g2 i (by lia)
    ·rw[if_neg j1]
     by_cases j2:l<j/\j<=k
     ·rw[if_pos j2]
      exact hu i (j-1) (by lia) (by lia)
     ·rw[if_neg j2]
      exact hu i j hij (by lia)
theorem T9 (hn:2<=n):KW (ltR r) n (kas_sort n) (λz=>PP n z/\Up r z n):=by
 unfold kas_sort
 have hp:PP n (List.toArray (List.range n)):=by unfold PP;rw[HV]
 refine KW.bd ((Of hp hn).weak λz hz=>?_)
 obtain⟨g1,g2,g3,g4⟩:=hz
 by_cases h:z.1<n
 ·rw[if_pos h]
  have em:max z.1 1=z.1:=by lia
  rw[em]
  exact Ql (by lia) (n-z.1) z.2 z.1 g3 (by lia) g1 g4
 ·rw[if_neg h]
  have:z.1=n:=by lia
  rw[this]at g4
  exact⟨g3,g4⟩
end
open PySem PySem.W PyProof.Rows PySem.Calls
section
variable {prog : Program} {w : World} {A : Around} {E : Value -> Shared -> Prop} {s : Shared}
theorem Xe {α:Type} {lt:Nat->Nat->Bool} {n:Nat} {cmp:Nat->Nat->(Bool->Shared->Prop)->Shared->Prop} {s1:Shared} {Q:α->Prop} (hc:∀i j C,i<n->j<n->C (lt i j) s1->cmp i j C s1) :
  ∀{t:KasT α},KW lt n t Q->t.kasWp cmp (λa s'=>s'=s1/\Q a) s1
 | .ret _,h=>⟨rfl,h⟩
 | .ask i j _,h=>hc i j _ h.1 h.2.1 (Xe hc h.2.2)
theorem qr (vs:List Value):(List.range vs.length).map (λi=>vs.getD i Value.none)=vs:=by
 apply CA
 intro i
 by_cases h:i<vs.length
 ·simp[h]
 ·simp[h]
theorem uk {a:Addr} {vs:List Value} {c0:Nat} {P:PySem.Fin->Shared->Prop} (q0:s.heap.get? a=some (seqObj "list" vs.toArray c0)) (hsm:vs.length<64) (rk:Nat->Nat)
  (hk:2<=vs.length->∀g:Heap,(∀b o,b≠a->s.heap.get? b=some o->g.get? b=some o)->∃κ:SortKind,(∀(Q:SortKind->Shared->Prop) (E':Value->Shared->Prop),Q κ {s with heap:=g}->wpAny (model prog w) A (keyKind' vs.toArray) Q E' {s with heap:=g}) /\
   ∀(i j:Nat) (C:Bool->Shared->Prop),i<vs.length->j<vs.length->C (decide (rk i<rk j)) {s with heap:=g}->wpAny (model prog w) A (keyLt' κ (vs.getD i Value.none) (vs.getD j Value.none)) C (λ_ _=>False) {s with heap:=g})
  (fin:∀p:Array Nat,PP vs.length p->Up rk p vs.length->P (.done (.ret .none)) {s with heap:=sortedHeap s.heap a vs (List.toArray (p.toList.map λi=>vs.getD i Value.none))}) :
  wpAny (model prog w) A (Builtin.«list.sort» ⟨[.ref a],[]⟩) P E s:=by
 rw[list_sort_plain]
 have lta:a<s.heap.objs.size:=AM q0
 have small:vs.toArray.size<=sizeLine:=by rw[AG,Db];lia
 refine AA (DK q0 rfl (AA (IU q0 rfl ?_ small (CS _))))
 obtain⟨e1,q1⟩:∃e1,(s.heap.update a (Obj.mapSeq λ_=>(#[]:Array Value))).get? a=some (seqObj "list" #[] e1):=⟨_,JV q0 (λ_=>#[])⟩
 refine AA (seqEpoch_at q1 rfl (AA (If (AA (IV (CP ?_) (CS _))) (by simpa using small))))
 have sz1:(s.heap.update a (Obj.mapSeq λ_=>(#[]:Array Value))).objs.size=s.heap.objs.size:=JE _ _ _
 have q6:(((s.heap.update a (Obj.mapSeq λ_=>(#[]:Array Value))).push (seqObj "tuple" vs.toArray 0)).push (seqObj "list" #[] 0)).get? a=some (seqObj "list" #[] e1):=AC _ (AC _ q1)
 have old:∀b o,b≠a->s.heap.get? b=some o->(((s.heap.update a (Obj.mapSeq λ_=>(#[]:Array Value))).push (seqObj "tuple" vs.toArray 0)).push (seqObj "list" #[] 0)).get? b=some o:=λb o hb e =>
  AC _ (AC _ (by rw[DR _ _ _ _ hb];exact e))
 show wpAny (model prog w) A _ P E {s with heap:=((s.heap.update a (Obj.mapSeq λ_=>(#[]:Array Value))).push (seqObj "tuple" vs.toArray 0)).push (seqObj "list" #[] 0)}
 dsimp only
 by_cases hs2:vs.toArray.size<2
 ·have hs2':vs.length<2:=by simpa using hs2
  rw[if_pos hs2,if_pos hs2]
  refine AA (AE ?_)
  rw[StateT.run_pure]
  refine AA (AE ?_)
  dsimp only
  have eo:(arrOf (SortSt.mk' general' (vs.toArray.zip vs.toArray) #[] 7 none)).map (·.2)=List.toArray ((List.toArray (List.range vs.length)).toList.map λi=>vs.getD i Value.none):=by
   show(vs.toArray.zip vs.toArray).map (·.2)=_
   rw[HV,qr]
   apply Array.toList_inj.mp
   simp[List.map_snd_zip]
  rw[eo]
  refine AA (seqEpoch_at q6 rfl (AA (IU q6 rfl ?_ (CS _) (by rw[HV,qr];lia))))
  simp![bne_self_eq_false,AS,if_false]
  refine AE (fin (List.toArray (List.range vs.length)) (List.Perm.refl _) λi j hij hj=>?_)
  rw[show i=j by lia]
  exact AI _
 ·have h2:2<=vs.length:=by simp at hs2;lia
  rw[if_neg hs2,if_neg hs2]
  obtain⟨κ,k1,k2⟩:=hk h2 _ old
  refine AA (k1 _ _ ?_)
  have run:=kat_run (prog:=prog) (w:=w) (A:=A) (E:=E) (κ:=κ) (ks:=vs) (vs:=vs) (s:={s with heap:=((s.heap.update a (Obj.mapSeq λ_=>(#[]:Array Value))).push (seqObj "tuple" vs.toArray 0)).push (seqObj "list" #[] 0)})
   (Q:=λst' s'=>s'={s with heap:=((s.heap.update a (Obj.mapSeq λ_=>(#[]:Array Value))).push (seqObj "tuple" vs.toArray 0)).push (seqObj "list" #[] 0)}/\failedOf st'=none/\∃p:Array Nat,PP vs.length p/\Up rk p vs.length/\(arrOf st').map (·.2)=List.toArray (p.toList.map λi=>vs.getD i Value.none))
   (G:=λp s'=>s'={s with heap:=((s.heap.update a (Obj.mapSeq λ_=>(#[]:Array Value))).push (seqObj "tuple" vs.toArray 0)).push (seqObj "list" #[] 0)}/\PP vs.length p/\Up rk p vs.length)
   rfl h2 hsm (λp st' s' _ har hf hg=>⟨hg.1,hf,p,hg.2.1,hg.2.2,kat_snds rfl har⟩) (Xe (lt:=ltR rk) (λi j C hi hj hC=>k2 i j C hi hj hC) (T9 h2))
  refine AA (EJ run ?_ λ_ _ x=>x)
  rintro⟨⟨⟩,st'⟩ s' ⟨rfl,hf,p,hp,hu,ho⟩
  dsimp only
  rw[ho]
  refine AA (seqEpoch_at q6 rfl (AA (IU q6 rfl ?_ (CS _) (by rw[AG,AD,BJ,hp.sz];simp at small;lia))))
  rw[hf]
  simp![bne_self_eq_false,AS,if_false]
  exact AE (fin p hp hu)
theorem Ki {l:Addr} {vs:List Value} {Q:Value->Shared->Prop} (hl:s.heap.IsList l vs.toArray) (hsm:vs.length<64) (rk:Nat->Nat)
  (hk:2<=vs.length->∀(A':Around) (g:Heap),(∀b o,s.heap.get? b=some o->g.get? b=some o)->∃κ:SortKind,(∀(Q:SortKind->Shared->Prop) (E':Value->Shared->Prop),Q κ {s with heap:=g}->wpAny (model prog w) A' (keyKind' vs.toArray) Q E' {s with heap:=g}) /\
   ∀(i j:Nat) (C:Bool->Shared->Prop),i<vs.length->j<vs.length->C (decide (rk i<rk j)) {s with heap:=g}->wpAny (model prog w) A' (keyLt' κ (vs.getD i Value.none) (vs.getD j Value.none)) C (λ_ _=>False) {s with heap:=g})
  (fin:∀p:Array Nat,PP vs.length p->Up rk p vs.length->Q (.ref (s.heap.objs.size+1)) {s with heap:=sortedAll s.heap vs (List.toArray (p.toList.map λi=>vs.getD i Value.none))}) :
  wpAny (model prog w) A (call (.builtin "sorted") [.ref l]) Q E s:=by
 have small:vs.length<=sizeLine:=by rw[Db];lia
 refine FY kind_sorted plain_sorted entry_sorted (args_sorted1 _) ?_
 unfold Builtin.«sorted»
 refine AA (m:=checkCount "sorted" 1 1 _) (AE (AA (collect_list hl (AA (IV ?_ small)) small)))
 have szL:((s.heap.push (seqObj "list" #[] 0)).update s.heap.objs.size (Obj.mapSeq (·++vs.toArray))).objs.size=s.heap.objs.size+1:=by rw[JE,size_push']
 have qL:(((s.heap.push (seqObj "list" #[] 0)).update s.heap.objs.size (Obj.mapSeq (·++vs.toArray))).push (seqObj "list" vs.toArray 0)).get? (s.heap.objs.size+1)=some (seqObj "list" vs.toArray 0):=szL ▸ AJ _ rfl
 have old:∀b o,s.heap.get? b=some o->(((s.heap.push (seqObj "list" #[] 0)).update s.heap.objs.size (Obj.mapSeq (·++vs.toArray))).push (seqObj "list" vs.toArray 0)).get? b=some o:=λb o e =>
  AC _ (by rw[DR _ _ _ _ (AT (AM e))];exact AC _ e)
 show wpAny _ _ _ _ _ {s with heap:=(((s.heap.push (seqObj "list" #[] 0)).update s.heap.objs.size (Obj.mapSeq (·++vs.toArray))).push (seqObj "list" vs.toArray 0))}
 rw[szL]
 refine AA (CP (BP slot_list_sort ⟨_,qL,rfl⟩ JW ?go (args_list_sort _)))
 case go =>
  refine uk (s:={s with heap:=(((s.heap.push (seqObj "list" #[] 0)).update s.heap.objs.size (Obj.mapSeq (·++vs.toArray))).push (seqObj "list" vs.toArray 0))}) qL hsm rk (λh2 g hg=>hk h2 _ g λb o e=>hg b o (AT (DP (AM e))) (old b o e)) λp hp hu=>⟨_,rfl,?_⟩
  exact AE ⟨_,rfl,fin p hp hu⟩
end
theorem Dm:∀a:List Int,lexLt a a=false
 | []=>rfl
 | x::xs=>by simp[lexLt,Dm xs]
theorem Ff:∀{a b c:List Int},lexLt a b=true->lexLt b c=true->lexLt a c=true
 | a,b,[],_,h=>by cases b<;>simp[lexLt]at h
 | [],_,_::_,_,_=>rfl
 | x::xs,[],c::cs,h,_=>by simp[lexLt]at h
 | x::xs,y::ys,z::zs,h1,h2=>by
  simp![lexLt]at h1 h2 ⊢
  by_cases e1:x=y
  ·subst e1
   by_cases e2:x=z
   ·subst e2
    simp![if_true]at h1 h2 ⊢
    exact Ff h1 h2
   ·simp![if_true]at h1
    rw[if_neg e2]at h2 ⊢
    exact h2
  ·rw[if_neg e1]at h1
   have h1':=of_decide_eq_true h1
   by_cases e2:y=z
   ·subst e2
    rw[if_neg e1]
    exact h1
   ·rw[if_neg e2]at h2
    have h2':=of_decide_eq_true h2
    rw[if_neg (show ¬x=z by lia)]
    exact decide_eq_true (by lia)
theorem Dp:∀{a b:List Int},lexLt a b=false->lexLt b a=false->a=b
 | [],[],_,_=>rfl
 | [],_::_,h,_=>by simp[lexLt]at h
 | _::_,[],_,h=>by simp[lexLt]at h
 | x::xs,y::ys,h1,h2=>by
  simp![lexLt]at h1 h2
  by_cases e:x=y
  ·subst e
   simp![if_true]at h1 h2
   rw[Dp h1 h2]
  ·rw[if_neg e]at h1
   rw[if_neg (Ne.symm e)]at h2
   have a1:=of_decide_eq_false h1
   have a2:=of_decide_eq_false h2
   lia
theorem Qm {r a b:List Int} (h1:lexLt r b=true) (h2:lexLt a b=false):lexLt r a=true:=by
 cases e:lexLt r a with
 | true=>rfl
 | false =>
  cases e2:lexLt a r with
  | true=>rw[Ff e2 h1]at h2;cases h2
  | false=>rw[Dp e e2,h2]at h1;cases h1
theorem Xf {a b:List Int} (h:lexLt a b=true):lexLt b a=false:=by
 cases e:lexLt b a with
 | false=>rfl
 | true=>have:=Ff h e;rw[Dm]at this;cases this
theorem Bs {α:Type} {p q:α->Bool}:∀{l:List α},(∀x∈l,p x=true->q x=true)->(∃x∈l,q x=true/\p x=false)->l.countP p<l.countP q
 | [],_,h=>by obtain⟨x,hx,_⟩:=h;simp at hx
 | y::r,h1,h2=>by
  have le:r.countP p<=r.countP q:=KA λx hx=>h1 x (AH _ hx)
  obtain⟨x,hx,hq,hp⟩:=h2
  rcases AL.mp hx with rfl | hx
  ·simp[EI,hq,hp];lia
  ·have:=Bs (l:=r) (λz hz=>h1 z (AH _ hz)) ⟨x,hx,hq,hp⟩
   have h0:=h1 y AQ
   simp![EI]
   cases e1:p y with
   | true=>simp[h0 e1];lia
   | false=>simp;lia
def rkL (rs:List (List Int)) (i:Nat):Nat:=rs.countP λr=>lexLt r (rs.getD i [])
theorem Ua {rs:List (List Int)} {i j:Nat} (hi:i<rs.length) (hj:j<rs.length):decide (rkL rs i<rkL rs j)=lexLt (rs.getD i []) (rs.getD j []):=by
 have mi:rs.getD i []∈rs:=by rw[show rs.getD i []=rs[i]by simp[hi]];exact CB hi
 cases e:lexLt (rs.getD i []) (rs.getD j [])with
 | true=>exact decide_eq_true (Bs (λx _ h=>Ff h e) ⟨_,mi,e,Dm _⟩)
 | false =>
  refine decide_eq_false (Nat.not_lt.mpr ?_)
  exact KA λx _ h=>Qm h e
theorem z7 (x:List Int):∀l:List (List Int),(Sy x l).Perm (x::l)
 | []=>.refl _
 | y::r=>by
  unfold Sy
  split
  ·exact((z7 x r).cons y).trans (.swap x y r)
  ·exact .refl _
theorem gg:∀l:List (List Int),(o4 l).Perm l
 | []=>.refl _
 | x::r=>(z7 x (o4 r)).trans ((gg r).cons x)
theorem Qn (x:List Int):∀l:List (List Int),l.Pairwise (λa b=>lexLt b a=false)->(Sy x l).Pairwise (λa b=>lexLt b a=false)
 | [],_=>by simp[Sy]
 | y::r,h=>by
  unfold Sy
  have h':=BW.mp h
  split
  ·rename_i hc
   refine BW.mpr ⟨λz hz=>?_,Qn x r h'.2⟩
   rcases AL.mp ((z7 x r).mem_iff.mp hz)with rfl | hz
   ·exact Xf hc
   ·exact h'.1 z hz
  ·rename_i hc
   have hc':lexLt y x=false:=by simpa using hc
   refine BW.mpr ⟨λz hz=>?_,h⟩
   rcases AL.mp hz with rfl | hz
   ·exact hc'
   ·cases e:lexLt z x with
    | false=>rfl
    | true=>have:=Qm e hc';rw[h'.1 z hz]at this;cases this
theorem z8:∀l:List (List Int),(o4 l).Pairwise (λa b=>lexLt b a=false)
 | []=>.nil
 | x::r=>Qn x _ (z8 r)
theorem range_getD {α:Type} (d:α) (l:List α):(List.range l.length).map (λi=>l.getD i d)=l:=by
 apply CA
 intro i
 by_cases h:i<l.length<;>simp[h]
theorem Bu {rs:List (List Int)} {p:Array Nat} (hp:PP rs.length p) (hu:Up (rkL rs) p rs.length):p.toList.map (λi=>rs.getD i [])=o4 rs:=by
 have p1:(p.toList.map λi=>rs.getD i []).Perm rs:=by
  have:=hp.map λi=>rs.getD i []
  rwa [range_getD]at this
 refine List.Perm.eq_of_pairwise (le:=λa b=>lexLt b a=false) (λa b _ _ h1 h2=>Dp h2 h1) ?_ (z8 rs) (p1.trans (gg rs).symm)
 rw[DD]
 intro i j hi hj hij
 have hsz:=hp.sz
 simp![AD,BJ]at hi hj
 simp![JF,Array.getElem_toList]
 have bi:p[i]<rs.length:=by simpa using hp.mem_iff.mp (show p[i]∈p.toList by simp)
 have bj:p[j]<rs.length:=by simpa using hp.mem_iff.mp (show p[j]∈p.toList by simp)
 rw[<-Ua bj bi]
 refine decide_eq_false (Nat.not_lt.mpr ?_)
 have:=hu i j (by lia) (by lia)
 unfold Ky at this
 simpa[hi,hj]using this
end Lp.Srt
namespace Lp
open PySem PySem.Spec PyProof.Rows L2 Lp.Srt
section
variable {X : Cx} {φ : Phi} {pos : Pos}
theorem Kj {prog:Program} {w:World} {A:Around} {s:Shared} {fin:Bool} {Q:Bool->Shared->Prop}:∀(r1 r2:List Int) (u1 u2:List Value) (i:Nat),cz (r1.map V.int) u1->cz (r2.map V.int) u2->fin=decide (r1.length<r2.length)->Q (lexLt r1 r2) s ->
  PySem.W.KatLex prog w A true fin Q (u1.zip u2) i s
 | [],[],u1,u2,i,h1,h2,hf,q=>by
  cases h1;cases h2
  rw[hf];exact q
 | [],_::_,u1,u2,i,h1,h2,hf,q=>by
  cases h1
  rw[hf];simpa[PySem.W.KatLex,lexLt]using q
 | _::_,[],u1,u2,i,h1,h2,hf,q=>by
  cases h2
  rw[hf,GI];simpa[PySem.W.KatLex,lexLt]using q
 | x::r1,y::r2,u1,u2,i,h1,h2,hf,q=>by
  rw[AR]at h1 h2
  cases h1 with
  | cons a1 b1 =>
   cases h2 with
   | cons a2 b2 =>
    obtain⟨t1,rfl⟩:=a1
    obtain⟨t2,rfl⟩:=a2
    rw[DY]
    refine PySem.W.kat_cons (IX (PySem.W.kat_go (λe=>PySem.W.kat_yes ?_) λe=>PySem.W.kat_no ?_))
    ·have e':x=y:=by simpa using e
     refine Kj r1 r2 _ _ (i+1) b1 b2 (by rw[hf];simp) ?_
     simpa[lexLt,e']using q
    ·have e':¬x=y:=by simpa using e
     have q':Q (decide (x<y)) s:=by simpa[lexLt,e']using q
     cases hi:(true&&i==0)with
     | true=>exact oneLt_int q'
     | false=>exact PySem.W.kat_one _ _ (lt_int (show PySem.W.BoolBack Q (.bool (decide (x<y))) s from q'))
theorem Fg (ns:List Int):gb (ns.map D.int)=some ns:=by
 induction ns with
 | nil=>rfl
 | cons n r ih=>simp[gb,ih]
theorem Fh:∀{ds:List D} {ns:List Int},gb ds=some ns->ns.map D.int=ds
 | [],ns,h=>by simp[gb]at h;subst h;rfl
 | .int i::r,ns,h=>by
  simp![gb]at h
  cases e:gb r with
  | none=>rw[e]at h;simp at h
  | some q =>
   rw[e]at h
   simp at h
   subst h
   rw[AR,Fh e]
 | .non::_,_,h=>by simp[gb]at h
 | .bl _::_,_,h=>by simp[gb]at h
 | .str _::_,_,h=>by simp[gb]at h
 | .tup _::_,_,h=>by simp[gb]at h
 | .lst _::_,_,h=>by simp[gb]at h
 | .loc _::_,_,h=>by simp[gb]at h
theorem Xg {ι:List Addr} {H:Hp} {pins:List (Addr×Obj)} {σ:St} {s:Shared} (I:Inv X pins σ H s) {r:List Int} {v:V} {u:Value} (hd:IsD X.K ι H (.tup (r.map D.int)) v) (hu:RelV v u):∃a its,u=.ref a/\IsTup s.heap a (List.toArray its)/\cz (r.map V.int) its:=by
 simp![IsD]at hd
 obtain⟨a,xs,rfl,hq,hx⟩:=hd
 cases(show u=Value.ref a from hu)
 obtain⟨its,rv,tp,_⟩:=I.tuple hq
 refine⟨a,its,rfl,tp,?_⟩
 have e:xs=r.map V.int:=ints_of hx (Fg r)
 rw[<-e];exact rv
theorem Bv:∀{xs:List D} {rs:List (List Int)},rowsOf xs=some rs->xs=rs.map λr=>D.tup (r.map D.int)
 | [],rs,h=>by simp[rowsOf]at h;subst h;rfl
 | .tup ds::r,rs,h=>by
  simp![rowsOf]at h
  cases e1:gb ds with
  | none=>rw[e1]at h;simp at h
  | some ns =>
   rw[e1]at h
   cases e2:rowsOf r with
   | none=>rw[e2]at h;simp at h
   | some q =>
    rw[e2]at h
    simp at h
    subst h
    rw[AR,Fh e1,<-Bv e2]
 | .non::_,_,h=>by simp[rowsOf]at h
 | .bl _::_,_,h=>by simp[rowsOf]at h
 | .int _::_,_,h=>by simp[rowsOf]at h
 | .str _::_,_,h=>by simp[rowsOf]at h
 | .lst _::_,_,h=>by simp[rowsOf]at h
 | .loc _::_,_,h=>by simp[rowsOf]at h
def z9 (g:Heap) (r:List Int) (u:Value):Prop:=r≠[]/\∃a its,u=Value.ref a/\IsTup g a (List.toArray its)/\cz (r.map V.int) its
theorem Kk {ι:List Addr} {H:Hp} {pins:List (Addr×Obj)} {σ:St} {s:Shared} (I:Inv X pins σ H s):∀{rs:List (List Int)} {xs:List V} {us:List Value},(rs.all λr=>!r.isEmpty)=true->ar X.K ι H (rs.map λr=>D.tup (r.map D.int)) xs->cz xs us->Paired (z9 s.heap) rs us
 | [],xs,us,_,h1,h2=>by
  have:xs=[]:=by simpa[ar]using h1
  subst this
  cases h2
  exact .nil
 | r::rs,xs,us,hn,h1,h2=>by
  rw[AR]at h1
  simp![ar]at h1
  obtain⟨v,q,rfl,hd,ht⟩:=h1
  rw[BB,BC]at hn
  cases h2 with
  | cons a b=>exact .cons ⟨λz=>by rw[z]at hn;simp at hn,Xg I hd a⟩ (Kk I hn.2 ht b)
theorem z9.keep {g g':Heap} {r:List Int} {u:Value} (h:z9 g r u) (k:∀b o,g.get? b=some o->g'.get? b=some o):z9 g' r u:=by
 obtain⟨h0,a,its,e,⟨o,q1,q2,q3⟩,v⟩:=h
 exact⟨h0,a,its,e,⟨o,k _ _ q1,q2,q3⟩,v⟩
theorem Bw {g:Heap}:∀{rs:List (List Int)} {us:List Value},Paired (z9 g) rs us->∃fs,PySem.W.KatTups g us fs/\fs.length=us.length/\∀v∈fs,∃i t,v=Value.int i t
 | _,_,.nil=>⟨[],.nil,rfl,by simp⟩
 | r::rs,_,.cons h t=>by
  obtain⟨fs,f1,f2,f3⟩:=Bw t
  obtain⟨h0,a,its,rfl,⟨o,q1,q2,n,q3⟩,v⟩:=h
  cases r with
  | nil=>exact absurd rfl h0
  | cons x r =>
   rw[AR]at v
   cases v with
   | cons a1 b1 =>
    obtain⟨t1,rfl⟩:=a1
    refine⟨.int x t1::fs,.cons q1 q2 q3 (by simp) f1,by simp[f2],λz hz=>?_⟩
    rcases AL.mp hz with rfl | hz
    ·exact⟨_,_,rfl⟩
    ·exact f3 z hz
theorem jc {α β:Type} {R:α->β->Prop} {d:α} {e:β}:∀{xs:List α} {ys:List β},Paired R xs ys->∀i,i<xs.length->R (xs.getD i d) (ys.getD i e)
 | _,_,.nil,i,h=>by simp at h
 | _,_,.cons a _,0,_=>by simpa using a
 | _,_,.cons _ t,i+1,h=>by simpa using jc t i (by simpa using h)
theorem Aa {K:PySem.W.Frag} {ι:List Addr} {H:Hp} {f:Nat->D} {g:Nat->V}:∀{l:List Nat},(∀i∈l,IsD K ι H (f i) (g i))->ar K ι H (l.map f) (l.map g)
 | [],_=>by simp[ar]
 | i::l,h=>by
  rw[AR,AR]
  simp![ar]
  exact⟨_,_,rfl,h i AQ,Aa λj hj=>h j (AH _ hj)⟩
theorem Ab {f:Nat->V} {g:Nat->Value}:∀{l:List Nat},(∀i∈l,RelV (f i) (g i))->cz (l.map f) (l.map g)
 | [],_=>.nil
 | i::l,h=>.cons (h i AQ) (Ab λj hj=>h j (AH _ hj))
theorem Kl {K:PySem.W.Frag} {ι:List Addr} {H:Hp} {ds:List D} {xs:List V} (h:ar K ι H ds xs) {i:Nat} (hi:i<ds.length):IsD K ι H (ds.getD i .non) (xs.getD i .non):=by
 obtain⟨v,e,q⟩:=h.get (show ds[i]? = some (ds.getD i .non)by simp[hi])
 have:xs.getD i .non=v:=by rw[BF,e];rfl
 rw[this];exact q
theorem Km {m:Mk}:gr X (.builtin "sorted") (uv X.K (btD .sorted m)):=by
 intro pins s σ H xs us Q I r ⟨ι,ds,μ,hS,hds,h⟩
 obtain⟨d,v,rfl,hv,h⟩:=kh hds h
 unfold E1 at h
 cases el:Lp.listOf μ d with
 | none=>rw[el]at h;exact h.elim
 | some zs =>
 rw[el]at h
 simp only at h
 split at h
 ·rename_i h64
  unfold zk at h
  cases er:rowsOf zs with
  | none=>rw[er]at h;exact h.elim
  | some rs =>
  rw[er]at h
  simp only at h
  split at h
  ·rename_i hne
   obtain⟨a,vV,rfl,hq,hz⟩:=mr hS hv el
   obtain⟨u,rfl,ru⟩:=vals1 r
   cases(show u=Value.ref a from ru)
   obtain⟨its,rv,pl,hlen⟩:=I.list hq.sq
   have ez:=Bv er
   subst ez
   have l1:vV.length=rs.length:=by rw[hz.length,AD]
   have l2:its.length=rs.length:=by rw[<-rv.length];exact l1
   have hrs:rs.length<64:=by simpa using h64
   have pr:=Kk I hne hz rv
   refine Ki pl.isList (by lia) (rkL rs) (λ_ A' g hg=>⟨tuples' true,λQ' E' q=>?_,λi j C hi hj hC=>?_⟩) λp hp hu=>G9 ?_
   ·have pg:Paired (z9 g) rs its:=Paired.mapP pr λr u h=>z9.keep h hg
    obtain⟨fs,f1,f2,f3⟩:=Bw pg
    exact PySem.W.kat_kind (s:={s with heap:=g}) (T:=.type "int") f1 (by lia) (λv hv=>by obtain⟨i,t,rfl⟩:=f3 v hv;exact PySem.W.Looks.of_pure rfl) (by decide) q
   ·have pg:Paired (z9 g) rs its:=Paired.mapP pr λr u h=>z9.keep h hg
    rw[Ua (by lia) (by lia)]at hC
    obtain⟨_,a1,i1,e1,⟨o1,g1,_,n1,d1⟩,v1⟩:=jc (d:=[]) (e:=Value.none) pg i (by lia)
    obtain⟨_,a2,i2,e2,⟨o2,g2,_,n2,d2⟩,v2⟩:=jc (d:=[]) (e:=Value.none) pg j (by lia)
    rw[e1,e2]
    refine PySem.W.kat_lt (s:={s with heap:=g}) g1 d1 g2 d2 ?_
    have z1:=v1.length
    have z2:=v2.length
    rw[AD]at z1 z2
    exact Kj _ _ i1 i2 0 v1 v2 (by simp![AG,z1,z2]) hC
   ·rw[l2]at hp hu
    obtain⟨e',he⟩:=sortedAll_at s.heap its (List.toArray (p.toList.map λi=>its.getD i Value.none))
    have mem:∀i∈p.toList,i<rs.length:=λi hi=>by simpa using hp.mem_iff.mp hi
    have hd:ar X.K ι H ((o4 rs).map λr=>D.tup (r.map D.int)) (p.toList.map λi=>vV.getD i .non):=by
     rw[<-Bu hp hu,AY]
     refine Aa λi hi=>?_
     have:=Kl hz (i:=i) (by rw[AD];exact mem i hi)
     have e3:(rs.map λr=>D.tup (r.map D.int)).getD i .non=D.tup ((rs.getD i []).map D.int):=by simp[mem i hi]
     rw[e3]at this
     exact this
    have hv2:cz (p.toList.map λi=>vV.getD i .non) (p.toList.map λi=>its.getD i Value.none):=Ab λi hi=>jc rv i (by have:=mem i hi;lia)
    exact⟨.ref (s.heap.objs.size+1),upd H (s.heap.objs.size+1) (.lst (p.toList.map λi=>vV.getD i .non)),I.laid (t':=s.toks) (λb u e=>sortedAll_old e) (EF _) ⟨by rw[AD,BJ,hp.sz,Db];lia,_,e',hv2,he⟩,rfl,mq hS hd h (I.hok.fresh (EF _))⟩
  ·exact h.elim
 ·exact h.elim
theorem yo {m:Mk} {p:Pos} {e:Expr} {es:List Expr} {xs:Exs} (hm:X.mg "sorted"=none) (ha:PA X (e::es) (tEs X.K φ xs)) (hg:Gl X "sorted":=by rfl) (he:starEach (e::es) X.env=(false,eval e X.env)::starEach es X.env:=by rfl) (hpl:(backTo pos (starEach es X.env)).any (·.1)=false:=by rfl) :
  PE X (.Call (.Name "sorted" p) (e::es) [] pos) (tE X.K φ (.blt .sorted m xs)):=kj (r:=λ_ _ _=>True) (es:=es) (i9 Km hg hm (by first | exact GB | decide +kernel) ha (by decide) (by decide) he hpl)
end
end Lp
namespace Lp.Sets
open PySem PySem.W PyProof.Rows
def Ub (xs:Array Nat):Prop:=∀i j,i<j->j<xs.size->xs.getD i 0<xs.getD j 0
theorem getD_in {xs:Array Nat} {i:Nat} (d:Nat) (h:i<xs.size):xs.getD i d=xs.getD i 0:=by simp[h]
def Xh (xs:Array Nat) (j p:Nat):Prop:=p<=xs.size/\(∀i,i<p->xs.getD i 0<j)/\∀i,p<=i->i<xs.size->j<=xs.getD i 0
theorem Ac {xs:Array Nat} {j:Nat} (hr:Ub xs):∀(f lo hi:Nat),hi-lo<=f->lo<=hi->hi<=xs.size->(∀i,i<lo->xs.getD i 0<j)->(∀i,hi<=i->i<xs.size->j<=xs.getD i 0)->Xh xs j (SetTable.below.go xs j f lo hi)
 | 0,lo,hi,h1,h2,h3,ha,hb=>by
  have e:lo=hi:=by lia
  subst e
  exact⟨h3,ha,hb⟩
 | f+1,lo,hi,h1,h2,h3,ha,hb=>by
  unfold SetTable.below.go
  by_cases hlt:lo<hi
  ·rw[if_pos hlt]
   dsimp only
   have hm:(lo+hi) / 2<xs.size:=by lia
   rw[getD_in j hm]
   by_cases hc:xs.getD ((lo+hi) / 2) 0<j
   ·rw[if_pos hc]
    refine Ac hr f _ hi (by lia) (by lia) h3 (λi hi'=>?_) hb
    by_cases e:i=(lo+hi) / 2
    ·rw[e];exact hc
    ·have:=hr i ((lo+hi) / 2) (by lia) hm
     lia
   ·rw[if_neg hc]
    refine Ac hr f lo _ (by lia) (by lia) (by lia) ha λi hi' hs=>?_
    by_cases e:i=(lo+hi) / 2
    ·rw[e];lia
    ·have:=hr ((lo+hi) / 2) i (by lia) hs
     lia
  ·rw[if_neg hlt]
   have e:lo=hi:=by lia
   subst e
   exact⟨h3,ha,hb⟩
theorem wo {xs:Array Nat} (hr:Ub xs) (j:Nat):Xh xs j (SetTable.below xs j):=Ac hr xs.size 0 xs.size (by lia) (by lia) (by lia) (λi h=>absurd h (by lia)) λi h h'=>absurd h' (by lia)
theorem Ad {α:Type} (xs:Array α) (p:Nat) (x:α):(SetTable.insertAt xs p x).toList=xs.toList.take p++x::xs.toList.drop p:=by
 unfold SetTable.insertAt
 simp[Array.toList_extract,BY]
theorem r9 {xs:Array Nat}:Ub xs↔xs.toList.Pairwise (· < ·):=by
 rw[DD]
 constructor
 ·intro h i j hi hj hij
  have h':=h i j hij (by simpa using hj)
  have e1:i<xs.size:=by simpa using hi
  have e2:j<xs.size:=by simpa using hj
  simpa[e1,e2]using h'
 ·intro h i j hij hj
  have:=h i j (by simp;lia) (by simpa using hj) hij
  have e1:i<xs.size:=by lia
  simpa[e1,hj]using this
theorem Dq {xs:Array Nat} {j:Nat} (hr:Ub xs) (hn:xs[SetTable.below xs j]?≠some j):Ub (SetTable.insertAt xs (SetTable.below xs j) j):=by
 obtain⟨h1,h2,h3⟩:=wo hr j
 have hr':=r9.mp hr
 generalize SetTable.below xs j=p at *
 rw[r9,Ad,List.pairwise_append]
 have hd:∀b∈xs.toList.drop p,j<b:=by
  intro b hb
  obtain⟨i,hi,e⟩:=BS.mp hb
  rw[List.getElem_drop]at e
  have hs:p+i<xs.size:=by simp at hi;lia
  have g:=h3 (p+i) (by lia) hs
  have e':xs.getD (p+i) 0=b:=by simp[hs];simpa using e
  rw[e']at g
  by_cases h0:j=b
  ·exfalso
   subst h0
   have hp:xs[p]? = some (xs.getD p 0):=by
    have:p<xs.size:=by lia
    simp[this]
   have hjp:j<=xs.getD p 0:=h3 p (AI _) (by lia)
   have hpj:xs.getD p 0<=j:=by
    by_cases hi0:i=0
    ·subst hi0;rw[<-e'];exact AI _
    ·have:=hr p (p+i) (by lia) hs
     lia
   exact hn (by rw[hp];congr 1;lia)
  ·lia
 refine⟨hr'.sublist (List.take_sublist _ _),BW.mpr ⟨hd,hr'.sublist (List.drop_sublist _ _)⟩,?_⟩
 intro a ha b hb
 have haj:a<j:=by
  obtain⟨i,hi,e⟩:=BS.mp ha
  rw[GV]at e
  have hs:i<xs.size:=by simp at hi;lia
  have g:=h2 i (by simp at hi;lia)
  have e':xs.getD i 0=a:=by simp[hs];simpa using e
  lia
 rcases AL.mp hb with rfl | hb
 ·exact haj
 ·have:=hd b hb
  lia
theorem Hd (n:Nat):Ub (Array.range n):=by
 rw[r9]
 simpa using JM
structure Tidy (t:SetTable) (l:Bool):Prop where
 rose:Ub t.place
 none:t.dummies=#[]
 led:t.led=l
theorem has_none (j:Nat):SetTable.has #[] j=false:=rfl
theorem yp {t:SetTable} {l:Bool} (h:Tidy t l) {k:Int}:∀(f:Nat) (p:SetTable.Probe),p.dummy=none->∀{j d},SetTable.probe.go t (λ_=>k+1) k f p=some (.empty j d)->d=none/\t.place[SetTable.below t.place j]?≠some j
 | 0,p,_,j,d,e=>by simp[SetTable.probe.go]at e
 | f+1,p,hp,j,d,e=>by
  unfold SetTable.probe.go at e
  have hs:t.slot p.j=if t.place[SetTable.below t.place p.j]?==some p.j then .live (SetTable.below t.place p.j)else .empty:=by
   unfold SetTable.slot
   rw[h.none]
   simp![has_none,AS,if_false]
  rw[hs]at e
  by_cases hc:(t.place[SetTable.below t.place p.j]?==some p.j)=true
  ·rw[if_pos hc]at e
   dsimp only at e
   have hne:(k+1==k)=false:=by simp;lia
   rw[hne]at e
   refine yp h f (t.advance p) ?_ e
   unfold SetTable.advance
   split
   ·exact hp
   ·exact hp
  ·rw[if_neg hc]at e
   injection e with e
   injection e with e1 e2
   subst e1
   refine⟨by rw[<-e2,hp],λhx=>hc (by rw[hx];simp)⟩
theorem l8 {t:SetTable} {l:Bool} (h:Tidy t l) (n:Nat):Tidy (t.standIn n) l:=⟨Hd n,rfl,h.led⟩
theorem Uc {t:SetTable} {l:Bool} (h:Tidy t l) (n:Nat):Tidy (t.orStandIn n) l:=by
 unfold SetTable.orStandIn
 split
 ·exact h
 ·exact l8 h n
theorem Dr {t:SetTable} {l:Bool} (h:Tidy t l) (es:Array (Int×Value)) (k:Int) (x:Value):Tidy (layNew t es k x).2.1 l:=by
 unfold layNew
 cases e:t.freeSlot k with
 | none=>exact l8 h _
 | some z =>
  obtain⟨sl,wd⟩:=z
  dsimp only
  refine Uc ?_ _
  unfold SetTable.freeSlot at e
  have hr:t.place[SetTable.below t.place sl]?≠some sl:=by
   split at e
   ·rename_i j d em
    obtain⟨rfl,q⟩:=yp h _ _ rfl em
    simp at e
    rw[<-e.1];exact q
   ·simp at e
  refine⟨Dq h.rose hr,?_,h.led⟩
  show(if SetTable.has t.dummies sl=true then _ else t.dummies)=#[]
  rw[h.none,has_none];rfl
theorem Ae {t:SetTable} {l:Bool} (h:Tidy t l) (es:Array (Int×Value)) (n:Nat):Tidy (relayAll t es n).2.1 l:=by
 unfold relayAll
 split
 ·rename_i t' order e
  dsimp only
  split
  ·dsimp only
   unfold SetTable.relaid SetTable.laid at e
   simp![Option.bind_eq_bind,Option.bind_eq_some_iff]at e
   obtain⟨owner,_,e⟩:=e
   simp![Option.pure_def,BN,HG]at e
   obtain⟨rfl,_⟩:=e
   refine⟨?_,rfl,h.led⟩
   rw[r9]
   dsimp only
   rw[List.pairwise_map]
   refine List.Pairwise.filterMap _ (R:=(· < ·)) ?_ JM
   intro a a' hlt b hb b' hb'
   simp![Option.mem_def,ED]at hb hb'
   obtain⟨_,_,rfl⟩:=hb
   obtain⟨_,_,rfl⟩:=hb'
   exact hlt
  ·exact l8 h _
 ·exact l8 h _
theorem He (l:Bool):Tidy (.fresh 0 0 l) l:=⟨λi j _ h=>absurd h (by simp[SetTable.fresh]),rfl,rfl⟩
open PySem PySem.W PyProof.Rows PySem.Calls
structure Holds (prog:Program) (w:World) (o:Obj) (es:Array (Int×Value)) (ep:Nat) (t:SetTable) (σ:List Int) (l:Bool):Prop where
 set:o.ExactSet
 data:o.data=.set es ep t
 tidy:Tidy t l
 fits:t.fits es.size=true
 few:es.size<scanBound
 elems:ElemsOf (intKind prog w) es.toList
 vals:∃vs,(es.toList.map (·.2)).Perm vs/\IntsAre vs σ
def Ds (prog:Program) (w:World) (h:Heap) (a:Addr) (σ:List Int) (l:Bool):Prop:=∃o es ep t,h.get? a=some o/\Holds prog w o es ep t σ l
theorem Af:∀{vs:List Value} {ns:List Int},IntsAre vs ns->vs.length=ns.length
 | _,_,.nil=>rfl
 | _,_,.cons n t r=>by simp[Af r]
theorem ints_snoc {n:Int} {t:Tok}:∀{vs:List Value} {ns:List Int},IntsAre vs ns->IntsAre (vs++[.int n t]) (ns++[n])
 | _,_,.nil=>.cons n t .nil
 | _,_,.cons m u r=>.cons m u (ints_snoc r)
theorem Ag:∀{vs:List Value} {ns:List Int},IntsAre vs ns->∀k:Int,k∈ns↔∃v∈vs,Value.isInt k v=true
 | _,_,.nil,k=>by simp
 | _,_,.cons m u r,k=>by
  rw[AL,Ag r k]
  constructor
  ·rintro(rfl | ⟨v,hv,e⟩)
   ·exact⟨_,AQ,by simp[Value.isInt]⟩
   ·exact⟨v,AH _ hv,e⟩
  ·rintro⟨v,hv,e⟩
   rcases AL.mp hv with rfl | hv
   ·left;simp[Value.isInt]at e;exact e.symm
   ·exact .inr ⟨v,hv,e⟩
section
variable {prog : Program} {w : World} {A : Around} {E : Value -> Shared -> Prop} {s : Shared}
theorem Holds.len {o:Obj} {es:Array (Int×Value)} {ep:Nat} {t:SetTable} {σ:List Int} {l:Bool} (H:Holds prog w o es ep t σ l):es.size=σ.length:=by
 obtain⟨vs,p,i⟩:=H.vals
 rw[<-Af i,<-p.length_eq];simp
theorem Holds.found {o:Obj} {es:Array (Int×Value)} {ep:Nat} {t:SetTable} {σ:List Int} {l:Bool} (H:Holds prog w o es ep t σ l) (k:Int) :
  (es.toList.findIdx? λe=>(intKind prog w).is k e.2).isSome=σ.any (·==k):=by
 obtain⟨vs,p,i⟩:=H.vals
 rw[Bool.eq_iff_iff,List.findIdx?_isSome,DM,DM]
 constructor
 ·rintro⟨e,he,q⟩
  exact⟨k,(Ag i k).mpr ⟨e.2,p.mem_iff.mp (List.mem_map_of_mem he),q⟩,by simp⟩
 ·rintro⟨k',hk,q⟩
  have:k'=k:=by simpa using q
  subst this
  obtain⟨v,hv,q⟩:=(Ag i k').mp hk
  obtain⟨e,he,rfl⟩:=AU.mp (p.mem_iff.mpr hv)
  exact⟨e,he,q⟩
theorem Holds.stored {h:Heap} {a:Addr} {o:Obj} {es es':Array (Int×Value)} {ep:Nat} {t t':SetTable} {σ σ':List Int} {l:Bool} (q:h.get? a=some o) (H:Holds prog w o es ep t σ l)
  (T:Tidy t' l) (F:t'.fits es'.size=true) (B:es'.size<scanBound) (L:ElemsOf (intKind prog w) es'.toList) (V:∃vs,(es'.toList.map (·.2)).Perm vs/\IntsAre vs σ') :
  ∃o',(h.update a (Obj.putSet es' t')).get? a=some o'/\Holds prog w o' es' (ep+1) t' σ' l:=by
 refine⟨{o with data:=.set es' (ep+1) t'},?_,⟨H.set,rfl,T,F,B,L,V⟩⟩
 have q':=DV (Obj.putSet es' t') q (by rw[putSet_of es' t' H.data];rfl)
 rwa [putSet_of es' t' H.data]at q'
theorem Fi {g:Bool->Sem Unit} (hg:∀(b:Bool) (s₁:Shared) (Q':Unit->Shared->Prop),Q' () s₁->wpAny (model prog w) A (g b) Q' E s₁) {a:Addr} {o:Obj} {es es':Array (Int×Value)} {ep:Nat} {t t':SetTable} {σ σ':List Int} {l wd:Bool} {R:Option Bool->Shared->Prop}
  (q:s.heap.get? a=some o) (H:Holds prog w o es ep t σ l) (T:Tidy t' l) (F:t'.fits es'.size=true) (B:es'.size<scanBound) (L:ElemsOf (intKind prog w) es'.toList) (V:∃vs,(es'.toList.map (·.2)).Perm vs/\IntsAre vs σ')
  (h:∀h',Heap.SameBut a s.heap h'->Ds prog w h' a σ' l->R (some true) {s with heap:=h'}) :
  wpAny (model prog w) A (do
   storeSet a es' t'
   if(!wd&&t'.tooFull)=true then do
    g (relayAll t' es' (SetTable.grown es'.size)).2.2
    storeSet a (relayAll t' es' (SetTable.grown es'.size)).1 (relayAll t' es' (SetTable.grown es'.size)).2.1
    pure (some true)
   else pure (some true)) R E s:=by
 refine AA (wpAny_storeSet_of q H.data ?_ (fits_of_scanBound B))
 obtain⟨o1,q1,H1⟩:=H.stored q T F B L V
 have b1:=FZ s.heap a (Obj.putSet es' t')
 by_cases hc:(!wd&&t'.tooFull)=true
 ·rw[if_pos hc]
  have P2:=relayAll_perm t' es' (SetTable.grown es'.size)
  have F2:=relayAll_fits t' es' (SetTable.grown es'.size)
  have T2:=Ae T es' (SetTable.grown es'.size)
  generalize relayAll t' es' (SetTable.grown es'.size)=z at P2 F2 T2 ⊢
  obtain⟨es2,t2,g2⟩:=z
  dsimp only at P2 F2 T2 ⊢
  have B2:es2.size<scanBound:=by
   have e:=P2.length_eq
   simp![BJ]at e
   lia
  obtain⟨vs,p,i⟩:=V
  obtain⟨o2,q2,H2⟩:=H1.stored q1 T2 F2 B2 (L.perm P2) ⟨vs,(P2.map _).trans p,i⟩
  exact AA (hg _ _ _ (AA (wpAny_storeSet_of q1 H1.data (AE (h _ (b1.trans (FZ _ a _)) ⟨o2,_,_,_,q2,H2⟩)) (fits_of_scanBound B2))))
 ·rw[if_neg hc]
  exact AE (h _ b1 ⟨o1,_,_,_,q1,H1⟩)
theorem Og {a:Addr} {σ:List Int} {l:Bool} {k:Int} {t:Tok} {Q:Bool->Shared->Prop} (hS:Ds prog w s.heap a σ l) (room:σ.length+1<scanBound)
  (h:∀b h',Heap.SameBut a s.heap h'->Ds prog w h' a (step_dedup σ k) l->Q b {s with heap:=h'}):wpAny (model prog w) A (setAddHashed a (.int k t) ((intKind prog w).hash k)) Q E s:=by
 obtain⟨o,es,ep,tb,q,H⟩:=hS
 have hlen:=H.len
 unfold setAddHashed setAddHashedIn
 refine CP (AA (ER q H.data H.fits ?_))
 dsimp only
 rw[byScan_of rfl H.few H.elems,if_pos rfl]
 refine AA ?_
 unfold setAddByScan
 refine AA (FU (AA (wpAny_setScan_of (intKind_is _ _ _ _) q H.data H.fits H.elems ?_)))
 have hf:=H.found k
 cases hr:List.findIdx? (λe=>(intKind prog w).is k e.2) es.toList with
 | some j =>
  rw[hr]at hf
  dsimp only
  refine AE (AE (h _ s.heap (Heap.SameBut.refl a s.heap) ?_))
  have e:step_dedup σ k=σ:=by unfold step_dedup;rw[if_pos];exact hf.symm
  rw[e]
  exact⟨o,es,ep,tb,q,H⟩
 | none =>
  rw[hr]at hf
  dsimp only
  have e:step_dedup σ k=σ++[k]:=by
   unfold step_dedup;rw[if_neg]
   rw[<-hf];simp
  have P1:=layNew_perm tb es ((intKind prog w).hash k) (.int k t)
  have F1:=layNew_fits tb es ((intKind prog w).hash k) (.int k t)
  have T1:=Dr H.tidy es ((intKind prog w).hash k) (.int k t)
  generalize layNew tb es ((intKind prog w).hash k) (.int k t)=z at P1 F1 T1 ⊢
  obtain⟨es1,t1,wd,gave⟩:=z
  dsimp only at P1 F1 T1 ⊢
  rw[Array.toList_push]at P1
  have B1:es1.size<scanBound:=by
   have e:=P1.length_eq
   simp![BJ,BU,FM]at e
   lia
  have V1:∃vs,(es1.toList.map (·.2)).Perm vs/\IntsAre vs (step_dedup σ k):=by
   obtain⟨vs,p,i⟩:=H.vals
   refine⟨vs++[.int k t],(P1.map _).trans ?_,by rw[e];exact ints_snoc i⟩
   rw[BX]
   exact p.append_right _
  have L1:=(H.elems.push (intKind_is prog w k t) rfl).perm P1
  refine AA ?_
  have gw:∀(b:Bool) (s₁:Shared) (Q':Unit->Shared->Prop),Q' () s₁->wpAny (model prog w) A (match b with | true=>rule "set.scan.the-table-gave-way" | false=>pure ()) Q' E s₁:=by
   intro b s₁ Q' hq
   cases b
   ·exact AE hq
   ·exact FU hq
  refine gw gave _ _ ?_
  split
  ·refine AA (IP (hashByValue_scannable 8 rfl) ?_)
   refine AA (m:=pure _) (AE ?_)
   exact Fi gw q H T1 F1 B1 L1 V1 λh' hb hh=>AE (h _ h' hb hh)
  ·refine AA (AE ?_)
   exact Fi gw q H T1 F1 B1 L1 V1 λh' hb hh=>AE (h _ h' hb hh)
end
theorem Ds.at {prog:Program} {w:World} {h h':Heap} {a:Addr} {σ:List Int} {l:Bool} (H:Ds prog w h a σ l) (k:∀o,h.get? a=some o->h'.get? a=some o):Ds prog w h' a σ l:=by
 obtain⟨o,es,ep,t,q,z⟩:=H
 exact⟨o,es,ep,t,k o q,z⟩
section
variable {prog : Program} {w : World} {A : Around} {R : Result -> Shared -> Prop} {I : Addr} {fp wr : List Addr} {G : Array GenState -> Array GenState -> Prop} {n : Nat} {P : Nat -> Value -> Prop} {St : Nat -> Shared -> Prop} {l : Bool}
theorem Kn (W:WalksS prog w A.in1 I fp wr G n P St) (a:Addr) (af:a∉fp) (val:Nat->Int) (hv:∀i v,P i v->∃t,v=.int (val i) t) (few:n+1<scanBound) :
  ∀(d i:Nat) (s:Shared),n-i=d->i<=n->St i s->Ds prog w s.heap a (firstMet val i) l->(∀s',Moved (a::wr) G s s'->Ds prog w s'.heap a (firstMet val n) l->R (.ok (.ret .none)) s') ->
   codeAny (model prog w) A (.builtin "set.update.loop" ⟨[.ref a,.ref I],[]⟩) R s:=by
 have aw:a∉wr:=λz=>af (W.sub _ z)
 intro d
 induction d with
 | zero =>
  intro i s hd hi st H fin
  have e:i=n:=by lia
  subst e
  refine DT F.entry_set_update_loop ?_
  rw[ES GN]
  show wpAny (model prog w) A.in1 (pyNext (.ref I)>>=_) _ _ s
  refine AA (W.done s _ _ st λs' m=>?_)
  show wpAny (model prog w) A.in1 (ret Value.none) _ _ s'
  exact AE (fin s' (m.mono λb z=>AH _ z) (H.at λo z=>m.heap a o aw z))
 | succ d ih =>
  intro i s hd hi st H fin
  refine DT F.entry_set_update_loop ?_
  rw[ES GN]
  show wpAny (model prog w) A.in1 (pyNext (.ref I)>>=_) _ _ s
  refine AA (W.item i s _ _ (by lia) st λv s' p st' m=>?_)
  obtain⟨t,rfl⟩:=hv i v p
  have H':Ds prog w s'.heap a (firstMet val i) l:=H.at λo z=>m.heap a o aw z
  show wpAny (model prog w) A.in1 (holding [Value.int (val i) t] (setAdd a (.int (val i) t))>>=_) _ _ s'
  unfold setAdd
  refine AA (CP (CP (AA ((intKind prog w).pyHash (k:=val i) (intKind_is ..) ?_))))
  have:=firstMet_length_le val i
  refine Og (s:={s' with toks:=s'.toks+1}) H' (by lia) λb h' sb H2=>?_
  rw[<-firstMet_succ]at H2
  refine AE ⟨ET GN _,ih (i+1) _ (by lia) (by lia) (W.frame _ s' _ _ st' (EF _) λb hb o z=>?_) H2 λs2 m2 H3=>?_⟩
  ·rw[sb.2 b λe=>af (e ▸ hb)];exact z
  ·refine fin s2 (Moved.trans W.gtrans ((m.mono λb z=>AH _ z).then_heap (EF _) λb o hb z=>?_) m2) H3
   rw[sb.2 b λe=>hb (e ▸ AQ)];exact z
end
section
variable {prog : Program} {w : World} {A : Around} {E : Value -> Shared -> Prop} {s : Shared}
abbrev sa (w:World):Bool:=!w.params.followText "set-order"
abbrev l9 (w:World):Obj:={cls:=.type "set",dict:=none,data:=.set #[] 0 (.fresh 0 0 (sa w))}
theorem Hf {h:Heap} {a:Addr} (q:h.get? a=some (l9 w)):Ds prog w h a [] (sa w) :=
 ⟨_,#[],0,_,q,⟨⟨rfl,rfl,rfl⟩,rfl,He _,rfl,by decide,λe z=>by simp at z,[],.refl _,.nil⟩⟩
theorem Ud (x:Value) {Q₁:Value->Shared->Prop} (h:Q₁ (.ref s.heap.objs.size) {s with heap:=s.heap.push (l9 w)}) :
  codeAny (model prog w) A (.call (.builtin "set.__new__") ⟨[.type "set",x],[]⟩) (wants Q₁ E) s:=by
 refine codeAny_of_tree ?_
 show wpAny (model prog w) A.in1 (do checkBuiltinCall "set.__new__" ⟨[.type "set",x],[]⟩;again (.builtin "set.__new__" ⟨[.type "set",x],[]⟩)) _ _ s
 refine AA (IP (PySem.F.newCall_set_1 x) (AE ⟨ET KB _,DT PySem.F.entry_set_new ?_⟩))
 rw[ES KB]
 unfold Builtin.«set.__new__» Builtin.Frozenset.newClass
 have e1:=sub_set_self
 obtain⟨hp,g,d,tk,os⟩:=s
 dsimp only
 wp_walk
 refine FB (AE ?_)
 dsimp only
 simp![newObj]
 exact AA (wpAny_alloc (AE (AE h)))
end
theorem Ue {T:String} (e:T="list"\/T="tuple"):isSubtype (.type T) (.type "set")=pure false/\isSubtype (.type T) (.type "frozenset")=pure false:=by
 rcases e with rfl | rfl
 ·exact⟨PySem.F.sub_list_set,PySem.F.sub_list_frozenset⟩
 ·constructor
  ·rw[FV];kernel_rfl
  ·rw[FV];kernel_rfl
def Xi:Bool->String
 | true=>"list"
 | false=>"tuple"
theorem Xj {b:Bool} {h:Heap} {x:Addr} {items:Array Value} (q:SQ b h x items):∃o,h.get? x=some o/\o.cls=.type (Xi b):=by
 cases b
 ·obtain⟨o,e,c,_⟩:=q;exact⟨o,e,c⟩
 ·obtain⟨o,e,c,_⟩:=q;exact⟨o,e,c⟩
section
variable {prog : Program} {w : World} {A : Around} {E : Value -> Shared -> Prop} {s : Shared}
theorem Oh {b:Bool} (hh:A.handled=none) (I x:Addr) (ne:x≠I) (items:Array Value):Walks prog w A I [I,x] [I] items.size (λi v=>items[i]? = some v) (λi h=>SI b h I x i/\SQ b h x items):=by
 cases b
 ·exact Walks.tuple hh I x ne items
 ·exact Walks.list hh I x ne items
theorem Oi {b:Bool} {a x:Addr} {items:Array Value} {ns:List Int} {Q:Shared->Prop} {P:PySem.Fin->Shared->Prop} (hh:A.handled=none) (hL:SQ b s.heap x items) (hi:IntsAre items.toList ns) (few:items.size+1<scanBound)
  (q:s.heap.get? a=some (l9 w)) (ne:a≠x)
  (fin:∀h' tk,Ds prog w h' a (firstMet (λi=>ns.getD i 0) items.size) (sa w)->(∀c o,c≠a->s.heap.get? c=some o->h'.get? c=some o)->P (.done (.ret .none)) {s with heap:=h',toks:=tk}) :
  wpAny (model prog w) A (Builtin.«set.__init__» ⟨[.ref a,.ref x],[]⟩) P E s:=by
 obtain⟨ox,qx,cx⟩:=Xj hL
 obtain⟨n1,n2⟩:=Ue (T:=Xi b) (by cases b<;>simp[Xi])
 have hT:s.TypeIs (.ref x) (Xi b):=⟨ox,qx,cx⟩
 have nd:(Value.type (Xi b)==Value.type "dict")=false:=by cases b<;>decide
 have hS:s.TypeIs (.ref a) "set":=⟨_,q,rfl⟩
 unfold Builtin.«set.__init__» noKeywords Builtin.Frozenset.updateFrom
 generalize hPI:pyIter=PI
 obtain⟨hp,g,d,tk,os⟩:=s
 wp_walk
 subst hPI
 refine Dk hL (AA (wpAny_runValue ?_))
 have lx:x<hp.objs.size:=SQ.lt hL
 have la:a<hp.objs.size:=AM q
 refine Kn ((Oh (b:=b) (A:=A.in1) (show A.in1.handled=none from hh) hp.objs.size x (AT lx) items).toS) a (l:=sa w) ?_ (λi=>ns.getD i 0) (λi v z=>IntsAre.int_at hi i v (by rw[CZ];exact z)) few items.size 0 _ (by lia) (CS _)
  ⟨?_,SQ.push hL _⟩ (Hf (AC _ q)) λs' m H=>?_
 ·simp![AL,BI,or_false,not_or]
  exact⟨AT la,ne⟩
 ·cases b
  ·exact⟨_,AJ _ rfl,rfl,rfl⟩
  ·exact⟨_,AJ _ rfl,rfl,rfl⟩
 ·rw[KI m]
  refine AE (AE (fin s'.heap s'.toks H λc o hc z=>m.heap c o ?_ (AC _ z)))
  simp![AL,BI,or_false,not_or]
  exact⟨hc,AT (AM z)⟩
theorem Oj {b:Bool} {x:Addr} {items:Array Value} {ns:List Int} {Q:Value->Shared->Prop} (hh:A.handled=none) (hL:SQ b s.heap x items) (hi:IntsAre items.toList ns) (few:items.size+1<scanBound)
  (h:∀h' tk,Ds prog w h' s.heap.objs.size (firstMet (λi=>ns.getD i 0) items.size) (sa w)->(∀c o,s.heap.get? c=some o->h'.get? c=some o)->Q (.ref s.heap.objs.size) {s with heap:=h',toks:=tk}) :
  wpAny (model prog w) A (call (.type "set") [.ref x]) Q E s:=by
 obtain⟨c,tl,hmro⟩:=DL.mro
 have hm:=DL.made
 have hs:=DL.sub
 have hn:=DL.notType
 have hcc:=DL.canCreate
 have hct:=PySem.F.typeCall_set_1 (.ref x)
 refine wpAny_call (codeAny_of_tree ?_)
 show wpAny (model prog w) _ (callAny (.type "set") _) _ _ _
 refine AE ⟨Code.quiet_builtin _ (by decide +kernel),DT PySem.F.entry_type_call ?_⟩
 rw[Around.under_plain (weight_type_call_type "set" [.ref x] []) rfl]
 repeat (any_goals (first | assumption | wp_step))
 refine GO (Ud (w:=w) (.ref x) (E:=E) (Q₁:=λobj s₁=>obj=.ref s.heap.objs.size/\s₁={s with heap:=s.heap.push (l9 w)}) ⟨rfl,rfl⟩) λr s₁ hr=>?_
 cases r with
 | error e=>exact hr
 | ok fl =>
  cases fl with
  | ret obj =>
   obtain⟨rfl,rfl⟩:=hr
   have q:(s.heap.push (l9 w)).get? s.heap.objs.size=some (l9 w):=AJ _ rfl
   have hT:Shared.TypeIs {s with heap:=s.heap.push (l9 w)} (.ref s.heap.objs.size) "set":=⟨_,q,rfl⟩
   have hli:=DL.init.lookup
   have hbi:=DL.init.bind (.ref s.heap.objs.size)
   repeat (any_goals (first | assumption | wp_step))
   refine GO (codeAny_call_builtin (R:=wants (λr s₂=>r=.none/\Q (.ref s.heap.objs.size) s₂) E) DL.init.plain PySem.F.entry_set_init (check_set_init_1 hT ?_)) λr₂ s₂ z=>?_
   ·refine Oi (Q:=λ_=>True) (b:=b) (s:={s with heap:=s.heap.push (l9 w)}) (by simpa using hh) (SQ.push hL _) hi few q (CU (SQ.lt hL)) λh' tk H k=>?_
    exact⟨rfl,h h' tk H λc o e=>k c o (AT (AM e)) (AC _ e)⟩
   ·cases r₂ with
    | error e=>exact z
    | ok fl₂ =>
     cases fl₂ with
     | ret r =>
      obtain⟨rfl,z⟩:=z
      repeat (any_goals (first | assumption | wp_step))
     | _=>exact z
  | _=>exact hr
end
section
theorem t9 {α:Type}:∀(l:List α) (i:Nat) (h:i<l.length),(l[i]::l.eraseIdx i).Perm l
 | x::xs,0,_=>.refl _
 | x::xs,i+1,h=>by
  have hi:i<xs.length:=by simpa using h
  have ih:=t9 xs i hi
  show(xs[i]::x::xs.eraseIdx i).Perm (x::xs)
  exact(List.Perm.swap ..).trans (ih.cons x)
theorem Ko {α:Type} (next:Nat->Nat):∀(f k:Nat) (left:List α) (out:Array α),left.length=f->(pickOrder.go next f k left out).toList.Perm (out.toList++left)
 | 0,k,left,out,h=>by
  have e:left=[]:=EY.mp h
  subst e
  simp[pickOrder.go]
 | f+1,k,left,out,h=>by
  unfold pickOrder.go
  have hl:next k % left.length<left.length:=Nat.mod_lt _ (by lia)
  rw[AB hl]
  dsimp only
  refine(Ko next f (k+1) _ _ (by rw[FW,if_pos hl];lia)).trans ?_
  rw[Array.toList_push,Da]
  refine List.Perm.append_left _ ?_
  show(left[next k % left.length]::left.eraseIdx (next k % left.length)).Perm left
  exact t9 _ _ hl
theorem wq {α:Type} (next:Nat->Nat) (xs:Array α):(pickOrder next xs).toList.Perm xs.toList:=by
 have:=Ko next xs.size 0 xs.toList #[] (by simp)
 simpa[pickOrder]using this
end
section
variable {prog : Program} {w : World} {A : Around} {E : Value -> Shared -> Prop} {s : Shared}
theorem Bx {α:Type}:∀(n:Nat) (xs:List α) (s:Shared) {Q:List α->Shared->Prop},xs.length=n->(∀ys d,ys.Perm xs->Q ys {s with drawn:=d})->wpAny (model prog w) A (drawOrder n xs) Q E s
 | 0,xs,s,Q,hn,h=>by
  have e:xs=[]:=EY.mp hn
  subst e
  unfold drawOrder
  exact AE (h [] s.drawn (.refl _))
 | n+1,[],s,Q,hn,h=>by simp at hn
 | n+1,x::xs,s,Q,hn,h=>by
  unfold drawOrder
  refine AA ?_
  have hc:∀(Q':Nat->Shared->Prop),(∀i,i<(x::xs).length->∀d,Q' i {s with drawn:=d})->wpAny (model prog w) A (choose .order (x::xs).length) Q' E s:=λQ' hq Γ p _=>⟨by simp,hq _ (Nat.mod_lt _ (by simp)) _⟩
  refine hc _ λi hi d=>?_
  rw[AB hi]
  dsimp only
  refine AA (Bx n _ _ (by rw[FW,if_pos hi];simp at hn ⊢;lia) λys d' p=>?_)
  exact AE (h _ d' ((p.cons _).trans (t9 _ _ hi)))
theorem slot_next:Slot "set_iterator" "__next__" "set_iterator.__next__":=Slot.of (owner:="set_iterator") (n:="__next__")
 (by rw[HQ,FO];kernel_rfl)
 (by decide +kernel)
 (by decide +kernel) (by decide +kernel)
 (by first | exact .inl (by decide +kernel) | exact .inr (by decide +kernel))
 (by rw[FV];kernel_rfl)
theorem entry_next:entryFor table "set_iterator.__next__"=some Builtin.«set_iterator.__next__»:=entryFor_of_tree (by kernel_rfl)
theorem Hg:entryFor table "set.__iter__"=some Builtin.«frozenset.__iter__»:=entryFor_alias (id':="frozenset.__iter__") (by kernel_rfl) rfl (by decide +kernel) (by kernel_rfl)
theorem args_next (a:Value):argsOk "set_iterator.__next__" ⟨[a],[]⟩:=by
 unfold argsOk
 kernel_rfl
end
abbrev uw (first:Value) (i:Nat) (a:Addr) (n ep:Nat):Obj:={cls:=.type "set_iterator",dict:=none,data:=.fields #[first,rawInt i,.ref a,rawInt n,rawInt ep],slots:=#[]}
section
variable {prog : Program} {w : World} {A : Around} {E : Value -> Shared -> Prop} {s : Shared} {I a : Addr} {first : Value} {i n slot : Nat} {o : Obj} {es : Array (Int × Value)} {ep : Nat} {t : SetTable} {σ : List Int} {l : Bool}
theorem Kp {x:Value} {nx:Nat} {Q:Option Value->Shared->Prop} (hI:s.heap.get? I=some (uw (rawInt slot) i a n ep)) (q:s.heap.get? a=some o) (H:Holds prog w o es ep t σ l) (hn:es.size=n)
  (hN:∀(A':Around) (E':Value->Shared->Prop) (Q':Option (Value×Nat)->Shared->Prop),Q' (some (x,nx)) s->wpAny (model prog w) A' (setNext a slot i ep) Q' E' s)
  (hQ:∀h',h'.get? I=some (uw (rawInt nx) (i+1) a n ep)->Heap.SameBut I s.heap h'->Q (some x) {s with heap:=h'}):wpAny (model prog w) A (pyNext (.ref I)) Q E s:=by
 have hT:s.TypeIs (.ref I) "set_iterator":=⟨_,hI,rfl⟩
 unfold pyNext
 refine AA (EU (BO (name:=Str.ofString "__next__") hT slot_next (BP slot_next hT entry_next ?_ (args_next _))))
 unfold Builtin.«set_iterator.__next__»
 refine AA (m:=slotArgs _ _ _) (AE ?_)
 dsimp only
 refine AA (IC hI rfl ?_)
 dsimp only[rawInt]
 refine AA (EW q H.data H.fits ?_)
 rw[hn]
 simp![bne_self_eq_false,AS,if_false,CI]
 refine AA (hN _ _ _ ?_)
 dsimp only
 refine AA (BK hI (by simp) λh1 q1 b1=>?_)
 refine AA (BK q1 (by simp) λh2 q2 b2=>?_)
 exact AE ⟨_,rfl,AE (hQ h2 q2 (b1.trans b2))⟩
theorem Kq {Q:Option Value->Shared->Prop} (hh:A.handled=none) (hI:s.heap.get? I=some (uw (rawInt slot) i a n ep)) (q:s.heap.get? a=some o) (H:Holds prog w o es ep t σ l) (hn:es.size=n)
  (hN:∀(A':Around) (E':Value->Shared->Prop) (Q':Option (Value×Nat)->Shared->Prop),Q' none s->wpAny (model prog w) A' (setNext a slot i ep) Q' E' s)
  (hQ:∀h',Heap.ExtBut I s.heap h'->Q none {s with heap:=h'}):wpAny (model prog w) A (pyNext (.ref I)) Q E s:=by
 have hT:s.TypeIs (.ref I) "set_iterator":=⟨_,hI,rfl⟩
 unfold pyNext
 refine AA (EU (BO (name:=Str.ofString "__next__") hT slot_next (BP slot_next hT entry_next ?_ (args_next _))))
 unfold Builtin.«set_iterator.__next__»
 refine AA (m:=slotArgs _ _ _) (AE ?_)
 dsimp only
 refine AA (IC hI rfl ?_)
 dsimp only[rawInt]
 refine AA (EW q H.data H.fits ?_)
 rw[hn]
 simp![bne_self_eq_false,AS,if_false,CI]
 refine AA (hN _ _ _ ?_)
 dsimp only
 refine AA (BK hI (by simp) λh1 q1 b1=>AA ?_)
 simp![newExc,newTuple]
 refine AA (BZ (AA (m:=firstArgMember _ _) (IP (a:=Value.none) (by first | rfl | (simp![firstArgMember];rfl)) (BZ ?_ (by size_fits)))) (by size_fits))
 simp![raiseNew]
 refine AA (wpAny_handled ?_)
 rw[show A.in1.handled=none from hh]
 refine AA (AE (wpAny_throw ?_))
 refine AA ?_
 refine EH (T:="StopIteration") (b:=true) ?_ Ix ?_
 ·exact⟨_,AJ _ rfl,rfl⟩
 exact AE (hQ _ ((b1.extBut.push _).push _))
theorem By (q:s.heap.get? a=some o) (H:Holds prog w o es ep t σ l) (ht:w.params.followText "set-order"=true) {Q:Option (Value×Nat)->Shared->Prop}
  (h:Q (((pickOrder (w.params.setOrder a ep) es)[i]?).map λe=>(e.2,slot)) s):wpAny (model prog w) A (setNext a slot i ep) Q E s:=by
 unfold setNext setsByText setWalk setsByText
 refine AA (ER q H.data H.fits ?_)
 dsimp only
 refine AA (AA (FB (AE ?_)))
 show wpAny _ _ (if w.params.followText "set-order"=true then _ else _) _ _ _
 rw[if_pos ht]
 simp![bne_self_eq_false,AS,if_false]
 refine AA (AA (ER q H.data H.fits ?_))
 dsimp only
 refine AA (AA (FB (AE ?_)))
 show wpAny _ _ (if w.params.followText "set-order"=true then _ else _) _ _ _
 rw[if_pos ht]
 refine AA (FB (AE ?_))
 exact AE h
theorem yq (q:s.heap.get? a=some o) (H:Holds prog w o es ep t σ (sa w)) (ht:w.params.followText "set-order"=false) (hp:(!t.plain&&decide (es.size > 1))=false) {Q:Option (Value×Nat)->Shared->Prop}
  (h:Q (match es[SetTable.below t.place slot]?,t.place[SetTable.below t.place slot]? with | some (_,x),some j=>some (x,j+1) | _,_=>none) s):wpAny (model prog w) A (setNext a slot i ep) Q E s:=by
 unfold setNext setsByText
 refine AA (ER q H.data H.fits ?_)
 dsimp only
 refine AA (AA (FB (AE ?_)))
 show wpAny _ _ (if w.params.followText "set-order"=true then _ else _) _ _ _
 rw[ht,if_neg BA]
 show wpAny _ _ (if(!t.plain&&decide (es.size > 1))=true then _ else _) _ _ _
 rw[hp,if_neg BA]
 refine AA ?_
 show wpAny _ _ (if(!t.led&&!es.isEmpty)=true then _ else _) _ _ _
 have hl:t.led=true:=by rw[H.tidy.led];simp[sa,ht]
 rw[hl]
 exact AE (AE h)
end
theorem slot_self:Slot "set_iterator" "__iter__" "set_iterator.__iter__":=Slot.of (owner:="set_iterator") (n:="__iter__")
 (by rw[HQ,FO];kernel_rfl)
 (by decide +kernel)
 (by decide +kernel) (by decide +kernel)
 (by first | exact .inl (by decide +kernel) | exact .inr (by decide +kernel))
 (by rw[FV];kernel_rfl)
theorem entry_self:entryFor table "set_iterator.__iter__"=some Builtin.«dict_keyiterator.__iter__»:=entryFor_alias (id':="dict_keyiterator.__iter__") (by kernel_rfl) rfl (by decide +kernel) (by kernel_rfl)
theorem args_self (a:Value):argsOk "set_iterator.__iter__" ⟨[a],[]⟩:=by
 unfold argsOk
 kernel_rfl
section
variable {prog : Program} {w : World} {A : Around} {E : Value -> Shared -> Prop} {s : Shared} {I a : Addr} {first : Value} {i n slot : Nat} {o : Obj} {es : Array (Int × Value)} {ep : Nat} {t : SetTable} {σ : List Int} {l : Bool}
theorem Dt {Q:Value->Shared->Prop} (hI:s.heap.get? I=some (uw first i a n ep)) (h:Q (.ref I) s):wpAny (model prog w) A (pyIter (.ref I)) Q E s:=by
 have hT:s.TypeIs (.ref I) "set_iterator":=⟨_,hI,rfl⟩
 refine IQ hT slot_self (BP slot_self hT entry_self ?_ (args_self _))
 exact AE ⟨_,rfl,"set_iterator",_,hT,slot_next.lookup,h⟩
theorem Ol {T:Addr} {ps:Array Value} {j:Nat} {e:Int×Value} {Q:Option Value->Shared->Prop} (hI:s.heap.get? I=some (uw (.ref T) i a n ep)) (q:s.heap.get? a=some o) (H:Holds prog w o es ep t σ l) (hn:es.size=n)
  (hT:s.heap.IsTuple T ps) (hp:ps[i]? = some (rawInt j)) (he:es[j]? = some e)
  (hQ:∀h',h'.get? I=some (uw (.ref T) (i+1) a n ep)->Heap.SameBut I s.heap h'->Q (some e.2) {s with heap:=h'}):wpAny (model prog w) A (pyNext (.ref I)) Q E s:=by
 have hTy:s.TypeIs (.ref I) "set_iterator":=⟨_,hI,rfl⟩
 obtain⟨ot,qt,_,nt,dt⟩:=hT
 unfold pyNext
 refine AA (EU (BO (name:=Str.ofString "__next__") hTy slot_next (BP slot_next hTy entry_next ?_ (args_next _))))
 unfold Builtin.«set_iterator.__next__»
 refine AA (m:=slotArgs _ _ _) (AE ?_)
 dsimp only
 refine AA (IC hI rfl ?_)
 dsimp only[rawInt]
 refine AA (EW q H.data H.fits ?_)
 rw[hn]
 simp![bne_self_eq_false,AS,if_false,CI]
 refine AA (DG qt dt ?_)
 dsimp only
 rw[hp]
 dsimp only[rawInt]
 unfold setNextDrawn
 refine AA (AA (ER q H.data H.fits ?_))
 simp![CI,bne_self_eq_false,AS,if_false]
 rw[he]
 refine AE (AA (BK hI (by simp) λh1 q1 b1=>?_))
 exact AE ⟨_,rfl,AE (hQ h1 q1 b1)⟩
theorem Bz {T:Addr} {ps:Array Value} {Q:Option Value->Shared->Prop} (hh:A.handled=none) (hI:s.heap.get? I=some (uw (.ref T) i a n ep)) (q:s.heap.get? a=some o) (H:Holds prog w o es ep t σ l) (hn:es.size=n)
  (hT:s.heap.IsTuple T ps) (hp:ps[i]? = none) (hQ:∀h',Heap.ExtBut I s.heap h'->Q none {s with heap:=h'}):wpAny (model prog w) A (pyNext (.ref I)) Q E s:=by
 have hTy:s.TypeIs (.ref I) "set_iterator":=⟨_,hI,rfl⟩
 obtain⟨ot,qt,_,nt,dt⟩:=hT
 unfold pyNext
 refine AA (EU (BO (name:=Str.ofString "__next__") hTy slot_next (BP slot_next hTy entry_next ?_ (args_next _))))
 unfold Builtin.«set_iterator.__next__»
 refine AA (m:=slotArgs _ _ _) (AE ?_)
 dsimp only
 refine AA (IC hI rfl ?_)
 dsimp only[rawInt]
 refine AA (EW q H.data H.fits ?_)
 rw[hn]
 simp![bne_self_eq_false,AS,if_false,CI]
 refine AA (DG qt dt ?_)
 dsimp only
 rw[hp]
 dsimp only
 refine AA (BK hI (by simp) λh1 q1 b1=>AA (BK q1 (by simp) λh2 q2 b2=>AA ?_))
 simp![newExc,newTuple]
 refine AA (BZ (AA (m:=firstArgMember _ _) (IP (a:=Value.none) (by first | rfl | (simp![firstArgMember];rfl)) (BZ ?_ (by size_fits)))) (by size_fits))
 simp![raiseNew]
 refine AA (wpAny_handled ?_)
 rw[show A.in1.handled=none from hh]
 refine AA (AE (wpAny_throw ?_))
 refine AA ?_
 refine EH (T:="StopIteration") (b:=true) ?_ Ix ?_
 ·exact⟨_,AJ _ rfl,rfl⟩
 exact AE (hQ _ (((b1.trans b2).extBut.push _).push _))
theorem Ug {Q:Value->Shared->Prop} (q:s.heap.get? a=some o) (H:Holds prog w o es ep t σ (sa w)) (few:es.size<=sizeLine)
  (hm:(w.params.followText "set-order"=true\/(!t.plain&&decide (es.size > 1))=false)->Q (.ref s.heap.objs.size) {s with heap:=s.heap.push (uw (rawInt (0:Nat)) 0 a es.size ep)})
  (hd:w.params.followText "set-order"=false->∀(ys:List Nat) d,ys.Perm (List.range es.size) ->
   Q (.ref (s.heap.objs.size+1)) {s with heap:=(s.heap.push {cls:=.type "tuple",data:=.seq (ys.map fun(i:Nat)=>rawInt i).toArray}).push (uw (.ref s.heap.objs.size) 0 a es.size ep),drawn:=d}) :
  wpAny (model prog w) A (pyIter (.ref a)) Q E s:=by
 have hT:s.TypeIs (.ref a) "set":=⟨o,q,H.set.1⟩
 refine IQ hT KC (BP KC hT Hg ?_ (PySem.F.args_set_iter_1 _))
 unfold Builtin.«frozenset.__iter__» Builtin.Frozenset.slot0 Builtin.Frozenset.sizeOf
 refine AA (AA (m:=slotArgs _ _ _) (AE (AE ?_)))
 refine AA (AA (EW q H.data H.fits (AE ?_)))
 unfold setDrawn setsByText
 refine AA (AA (ER q H.data H.fits ?_))
 dsimp only
 refine AA (AA (FB (AE (AE ?_))))
 show wpAny _ _ (if(!w.params.followText "set-order"&&(!t.plain&&decide (es.size > 1)))=true then _ else _) _ _ _
 by_cases hc:(!w.params.followText "set-order"&&(!t.plain&&decide (es.size > 1)))=true
 ·rw[if_pos hc]
  have ht:w.params.followText "set-order"=false:=by
   rw[BC]at hc
   simpa using hc.1
  refine AA (Bx _ _ _ (by simp) λys d p=>?_)
  refine AA (If ?_ (by rw[AD,p.length_eq,DE];exact few))
  refine AA (wpAny_setEpoch_of (AC _ q) H.data H.fits ?_)
  refine AA (BZ ?_ (by size_fits))
  have hz:(s.heap.push {cls:=.type "tuple",data:=.seq (ys.map fun(i:Nat)=>rawInt i).toArray}).objs.size=s.heap.objs.size+1:=DF ..
  rw[hz]
  refine AE ⟨_,rfl,"set_iterator",_,?_,slot_next.lookup,hd ht ys d p⟩
  exact⟨_,hz ▸ AJ _ rfl,rfl⟩
 ·rw[if_neg hc]
  refine AA (AE ?_)
  refine AA (wpAny_setEpoch_of q H.data H.fits ?_)
  refine AA (BZ ?_ (by size_fits))
  refine AE ⟨_,rfl,"set_iterator",_,⟨_,AJ _ rfl,rfl⟩,slot_next.lookup,hm ?_⟩
  cases ht:w.params.followText "set-order" with
  | true=>exact .inl rfl
  | false=>rw[ht]at hc;exact .inr (by simpa using hc)
end
def atOf (t:SetTable) (i:Nat):Nat:=if i=0 then 0 else t.place.getD (i-1) 0+1
theorem below_at {t:SetTable} {l:Bool} (T:Tidy t l) {i:Nat} (hi:i<=t.place.size):SetTable.below t.place (atOf t i)=i:=by
 obtain⟨p1,p2,p3⟩:=wo T.rose (atOf t i)
 generalize SetTable.below t.place (atOf t i)=p at *
 unfold atOf at p2 p3
 by_cases h0:i=0
 ·subst h0
  simp![if_true]at p2
  by_cases hp:p=0
  ·exact hp
  ·have:=p2 0 (by lia)
   lia
 ·rw[if_neg h0]at p2 p3
  have a1:i<=p:=by
   by_cases h:i<=p
   ·exact h
   ·have:=p3 (i-1) (by lia) (by lia)
    lia
  have a2:p<=i:=by
   by_cases h:p<=i
   ·exact h
   ·have b1:=p2 i (by lia)
    have b2:=T.rose (i-1) i (by lia) (by lia)
    lia
  lia
section
variable {prog : Program} {w : World} {A : Around} {E : Value -> Shared -> Prop} {s : Shared} {I a T : Addr} {o : Obj} {es : Array (Int × Value)} {ep : Nat} {t : SetTable} {σ : List Int}
theorem Hh (hh:A.handled=none) (ne:a≠I) (H:Holds prog w o es ep t σ (sa w)) (ht:w.params.followText "set-order"=true) :
  Walks prog w A I [I,a] [I] es.size (λi v=>((pickOrder (w.params.setOrder a ep) es)[i]?).map (·.2)=some v) (λi h=>h.get? a=some o/\h.get? I=some (uw (rawInt (0:Nat)) i a es.size ep)) where
 sub:=λb hb=>by simp at hb;simp[hb]
 frame:=λi h h' st k=>⟨k a (by simp) _ st.1,k I (by simp) _ st.2⟩
 item:=λi s Q E hi st hQ=>by
  have sz:(pickOrder (w.params.setOrder a ep) es).size=es.size:=by simpa using(wq (w.params.setOrder a ep) es).length_eq
  have e:(pickOrder (w.params.setOrder a ep) es)[i]? = some ((pickOrder (w.params.setOrder a ep) es)[i]'(by lia)):=DB _
  refine Kp (slot:=0) (nx:=0) (x:=((pickOrder (w.params.setOrder a ep) es)[i]'(by lia)).2) st.2 st.1 H rfl (λA' E' Q' hq=>By st.1 H ht (by rw[e];exact hq)) λh' q' b'=>?_
  exact hQ _ h' s.toks (by rw[e];rfl) ⟨(b'.2 a ne).trans st.1,q'⟩ λb o hb z=>b'.extBut b o (λx=>hb (by simp[x])) z
 done:=λs Q E st hQ=>by
  have sz:(pickOrder (w.params.setOrder a ep) es).size=es.size:=by simpa using(wq (w.params.setOrder a ep) es).length_eq
  have e:(pickOrder (w.params.setOrder a ep) es)[es.size]? = none:=GU (by lia)
  exact Kq (slot:=0) hh st.2 st.1 H rfl (λA' E' Q' hq=>By st.1 H ht (by rw[e];exact hq)) λh' b'=>hQ h' s.toks λb o hb z=>b' b o (λx=>hb (by simp[x])) z
 self:=λi s Q E st hQ=>Dt st.2 hQ
theorem Du (hh:A.handled=none) (ne:a≠I) (H:Holds prog w o es ep t σ (sa w)) (ht:w.params.followText "set-order"=false) (hp:(!t.plain&&decide (es.size > 1))=false) :
  Walks prog w A I [I,a] [I] es.size (λi v=>(es[i]?).map (·.2)=some v) (λi h=>h.get? a=some o/\h.get? I=some (uw (rawInt (atOf t i:Nat)) i a es.size ep)):=by
 have sz:t.place.size=es.size:=by
  have:=H.fits
  simp![SetTable.fits,BC,beq_iff_eq]at this
  exact this.1
 refine⟨λb hb=>by simp at hb;simp[hb],λi h h' st k=>⟨k a (by simp) _ st.1,k I (by simp) _ st.2⟩,λi s Q E hi st hQ=>?_,λs Q E st hQ=>?_,λi s Q E st hQ=>Dt st.2 hQ⟩
 ·have e1:es[i]? = some es[i]:=DB hi
  have e2:t.place[i]? = some (t.place.getD i 0):=by
   have:i<t.place.size:=by lia
   simp[this]
  refine Kp (x:=es[i].2) (nx:=t.place.getD i 0+1) st.2 st.1 H rfl (λA' E' Q' hq=>yq st.1 H ht hp (by rw[below_at H.tidy (by lia),e1,e2];exact hq)) λh' q' b'=>?_
  refine hQ _ h' s.toks (by rw[e1];rfl) ⟨(b'.2 a ne).trans st.1,?_⟩ λb o hb z=>b'.extBut b o (λx=>hb (by simp[x])) z
  have e3:atOf t (i+1)=t.place.getD i 0+1:=by simp[atOf]
  rw[e3];exact q'
 ·have e1:es[es.size]? = none:=GU (AI _)
  exact Kq hh st.2 st.1 H rfl (λA' E' Q' hq=>yq st.1 H ht hp (by rw[below_at H.tidy (by lia),e1];exact hq)) λh' b'=>hQ h' s.toks λb o hb z=>b' b o (λx=>hb (by simp[x])) z
theorem Dw (hh:A.handled=none) (ne:a≠I) (nt:T≠I) (H:Holds prog w o es ep t σ (sa w)) {ys:List Nat} (hy:ys.Perm (List.range es.size)) :
  Walks prog w A I [I,a,T] [I] es.size (λi v=>((ys[i]?).bind λj=>es[j]?).map (·.2)=some v) (λi h=>h.get? a=some o/\h.get? I=some (uw (.ref T) i a es.size ep)/\h.IsTuple T (ys.map fun(i:Nat)=>rawInt i).toArray):=by
 have sz:ys.length=es.size:=by simpa using hy.length_eq
 refine⟨λb hb=>by simp at hb;simp[hb],λi h h' st k=>⟨k a (by simp) _ st.1,k I (by simp) _ st.2.1,st.2.2.at λo e=>k T (by simp) o e⟩,λi s Q E hi st hQ=>?_,λs Q E st hQ=>?_,λi s Q E st hQ=>Dt st.2.1 hQ⟩
 ·have hi':i<ys.length:=by lia
  have e1:ys[i]? = some ys[i]:=AB hi'
  have hj:ys[i]<es.size:=by
   have:ys[i]∈List.range es.size:=hy.mem_iff.mp (CB hi')
   simpa using this
  have e2:es[ys[i]]? = some es[ys[i]]:=DB hj
  refine Ol (j:=ys[i]) (e:=es[ys[i]]) st.2.1 st.1 H rfl st.2.2 (by simp[e1]) e2 λh' q' b'=>?_
  exact hQ _ h' s.toks (by rw[e1];show(es[ys[i]]?).map (·.2)=_;rw[e2];rfl) ⟨(b'.2 a ne).trans st.1,q',st.2.2.at λo e=>b'.extBut T o nt e⟩ λb o hb z=>b'.extBut b o (λx=>hb (by simp[x])) z
 ·exact Bz hh st.2.1 st.1 H rfl st.2.2 (by simp[sz]) λh' b'=>hQ h' s.toks λb o hb z=>b' b o (λx=>hb (by simp[x])) z
theorem Om {Q:Bool->Shared->Prop} (q:s.heap.get? a=some o) (H:o.cls=.type "set") (h:Q false s):wpAny (model prog w) A (Builtin.List.listLengthHint (.ref a)) Q E s:=by
 have hT:s.TypeIs (.ref a) "set":=⟨o,q,H⟩
 unfold Builtin.List.listLengthHint
 refine AA (JT hT PySem.F.slot_set_len.lookup ?_)
 generalize hid:("set.__len__":String)=z
 wp_delta
 rw[show splitId z=some ("set","__len__")from by subst hid;decide +kernel]
 subst hid
 refine AA (EH (T:="set") (b:=true) hT (by rw[FV];kernel_rfl) ?_)
 refine FK (λx=>absurd x (by decide)) λ_=>?_
 refine FK (λ_=>?_) λx=>absurd (by decide +kernel) x
 refine AA (FE hT ?_)
 exact AE h
end
def intOf:Value->Int
 | .int n _=>n
 | _=>0
theorem ints_of:∀{vs:List Value} {ns:List Int},IntsAre vs ns->ns=vs.map intOf/\∀v∈vs,∃n t,v=.int n t
 | _,_,.nil=>⟨rfl,λv h=>by simp at h⟩
 | _,_,.cons n t r=>by
  obtain⟨e,h⟩:=ints_of r
  refine⟨by rw[AR,<-e];rfl,λv hv=>?_⟩
  rcases AL.mp hv with rfl | hv
  ·exact⟨n,t,rfl⟩
  ·exact h v hv
theorem Kr:∀{vs:List Value},(∀v∈vs,∃n t,v=Value.int n t)->IntsAre vs (vs.map intOf)
 | [],_=>.nil
 | v::vs,h=>by
  obtain⟨n,t,rfl⟩:=h v AQ
  exact .cons n t (Kr λu hu=>h u (AH _ hu))
theorem Ks {us vs:List Value} {ns:List Int} (h:IntsAre vs ns) (p:us.Perm vs):∃ms,IntsAre us ms/\ms.Perm ns:=by
 obtain⟨e,hv⟩:=ints_of h
 refine⟨us.map intOf,Kr λu hu=>hv u (p.mem_iff.mp hu),?_⟩
 rw[e];exact p.map _
theorem Ah {f:Nat->Option Value} {acc:Array Value} {n:Nat} {ord:List Value} (h:ItemsOf (λi v=>f i=some v) acc n) (ho:ord.length=n) (hf:∀i,i<n->f i=ord[i]?):acc.toList=ord:=by
 obtain⟨h1,h2⟩:=h
 apply CA
 intro i
 by_cases hi:i<n
 ·have e:acc.toList[i]? = some acc[i]:=by
   rw[CZ];exact DB (by lia)
  rw[e,<-hf i hi]
  exact(h2 i _ (DB (by lia))).symm
 ·rw[AZ (by simp;lia),AZ (by lia)]
section
variable {prog : Program} {w : World} {A : Around} {E : Value -> Shared -> Prop} {s : Shared} {a : Addr} {σ : List Int}
theorem Hi {R:Result->Shared->Prop} (hh:A.handled=none) (hS:Ds prog w s.heap a σ (sa w)) (D:Addr) (res:Value) (qD:s.heap.get? D=some {cls:=.type "list",dict:=none,data:=.seq #[] 0,slots:=#[]}) (ne:D≠a) (few:σ.length<=sizeLine)
  (hR:∀(h':Heap) tk d acc c',(∀b o,b≠D->s.heap.get? b=some o->h'.get? b=some o)->h'.get? D=some {cls:=.type "list",dict:=none,data:=.seq acc c',slots:=#[]}->(∃ms,IntsAre acc.toList ms/\ms.Perm σ) ->
   R (.ok (.ret res)) {s with heap:=h',toks:=tk,drawn:=d}) :
  wpAny (model prog w) A.in1 (Builtin.List.listExtendWith (.ref D) (.ref a) res) (λfin s'=>match fin with | .done f=>R (.ok f) s' | .again c'=>c'.quiet=true/\codeAny (model prog w) A c' R s') (λe s'=>R (.error e) s') s:=by
 obtain⟨o,es,ep,t,q,H⟩:=hS
 obtain⟨vs,pv,iv⟩:=H.vals
 have hn:es.size=σ.length:=H.len
 have lD:D<s.heap.objs.size:=AM qD
 have la:a<s.heap.objs.size:=AM q
 have perm:∀{acc:Array Value} {ord:List Value},acc.toList=ord->ord.Perm (es.toList.map (·.2))->∃ms,IntsAre acc.toList ms/\ms.Perm σ:=λe p=>by
  rw[e];exact Ks iv (p.trans pv)
 -- behind the iterator: the list is touched,and the loop runs
 have go:∀(h1:Heap) (d:Drawn) (I:Addr) (fp:List Addr) (P:Nat->Value->Prop) (St:Nat->Heap->Prop),Walks prog w A.in1 I fp [I] es.size P St->D∉fp->(∀b o,s.heap.get? b=some o->h1.get? b=some o)->s.heap.objs.size<=I ->
   (∀h2:Heap,(∀b o,b≠D->h1.get? b=some o->h2.get? b=some o)->St 0 h2)->(∀acc,ItemsOf P acc es.size->∃ms,IntsAre acc.toList ms/\ms.Perm σ) ->
   wpAny (model prog w) A.in1 (holding [.ref I] (Builtin.List.listLengthHint (.ref a))>>=λroom=>if(room || ["set","frozenset","dict","dict_keys","dict_values","dict_items"].any (Value.type "set"==.type ·))=true then do
     rule "list.extend.makes-room"
     Builtin.List.listTouch (.ref D)
     again (.builtin "list.extend.loop" ⟨[.ref D,.ref I,res],[]⟩)
    else again (.builtin "list.extend.loop" ⟨[.ref D,.ref I,res],[]⟩)) (λfin s'=>match fin with | .done f=>R (.ok f) s' | .again c'=>c'.quiet=true/\codeAny (model prog w) A c' R s') (λe s'=>R (.error e) s') {s with heap:=h1,drawn:=d}:=by
  intro h1 d I fp P St W df k1 lI st0 hacc
  refine AA (CP (Om (s:={s with heap:=h1,drawn:=d}) (k1 a o q) H.set.1 ?_))
  rw[if_pos (by decide)]
  refine AA (FU ?_)
  have q1:=k1 D _ qD
  refine AA ?_
  show wpAny _ _ (updateSeq D (·.push .none)>>=λ_=>updateSeq D (·.pop)) _ _ _
  refine AA (JU q1 rfl ?_)
  have q2:=DV (Obj.mapSeq (·.push Value.none)) q1 rfl
  refine JU (hz:=by seq_fits) q2 rfl ?_
  have q3:=DV (Obj.mapSeq (·.pop)) q2 rfl
  have k3:∀b o,b≠D->h1.get? b=some o->((h1.update D (Obj.mapSeq (·.push Value.none))).update D (Obj.mapSeq (·.pop))).get? b=some o:=λb o hb z=>by
   rw[DR _ _ _ _ hb,DR _ _ _ _ hb];exact z
  refine AE ⟨ET IH _,codeAny_extend_loopS W.toS (by lia) D df res es.size 0 _ #[] _ (by lia) (CS _) (st0 _ k3) q3 (ItemsOf.nil _) λs' acc c' m qD' ha=>?_⟩
  rw[KI m]
  refine hR s'.heap s'.toks d acc c' (λb o hb z=>m.heap b o ?_ (k3 b o hb (k1 b o z))) qD' (hacc acc ha)
  simp![AL,BI,or_false,not_or]
  exact⟨hb,AT (AX (AM z) lI)⟩
 unfold Builtin.List.listExtendWith
 refine AA (FE (T:="set") ⟨o,q,H.set.1⟩ ?_)
 have e1:Builtin.List.listSameRef (.ref D) (.ref a)=false:=by simp[Builtin.List.listSameRef,ne]
 have e2:(Value.type "set"==Value.type "list")=false:=by decide
 have e3:(Value.type "set"==Value.type "tuple")=false:=by decide
 simp![e1,e2,e3,KH,AS,if_false]
 refine AA (Ug q H (by lia) (λhm=>?_) λht ys d py=>?_)
 ·cases ht:w.params.followText "set-order" with
  | true =>
   refine go _ s.drawn _ _ _ _ (Hh hh (AT la) H ht) (by simp;exact⟨AT lD,ne⟩) (λb o z=>AC _ z) (AI _) (λh2 k=>⟨k a o (Ne.symm ne) (AC _ q),k _ _ (CU lD) (AJ _ rfl)⟩) λacc ha=>?_
   have pp:=wq (w.params.setOrder a ep) es
   refine perm (Ah (ord:=(pickOrder (w.params.setOrder a ep) es).toList.map (·.2)) ha (by rw[AD,pp.length_eq,BJ]) λi _=>by simp) (pp.map _)
  | false =>
   rcases hm with z | hp
   ·rw[ht]at z;exact absurd z (by decide)
   refine go _ s.drawn _ _ _ _ (Du hh (AT la) H ht hp) (by simp;exact⟨AT lD,ne⟩) (λb o z=>AC _ z) (AI _) (λh2 k=>⟨k a o (Ne.symm ne) (AC _ q),k _ _ (CU lD) (AJ _ rfl)⟩) λacc ha=>?_
   exact perm (Ah (ord:=es.toList.map (·.2)) ha (by simp) λi _=>by simp) (.refl _)
 ·have hz:(s.heap.push {cls:=.type "tuple",data:=.seq (ys.map fun(i:Nat)=>rawInt i).toArray}).objs.size=s.heap.objs.size+1:=DF ..
  have sy:ys.length=es.size:=by simpa using py.length_eq
  refine go _ d _ _ _ _ (Dw (A:=A.in1) (I:=s.heap.objs.size+1) (T:=s.heap.objs.size) (show A.in1.handled=none from hh) (AT (DP la)) (AT (HD _)) H py) (by simp;exact⟨AT (DP lD),ne,AT lD⟩) (λb o z=>AC _ (AC _ z)) (EF _)
   (λh2 k=>⟨k a o (Ne.symm ne) (AC _ (AC _ q)),k _ _ (CU (DP lD)) (hz ▸ AJ _ rfl),⟨_,k _ _ (CU lD) (AC _ (AJ _ rfl)),rfl,_,rfl⟩⟩) λacc ha=>?_
  refine perm (Ah (ord:=ys.map λj=>(es.getD j (0,.none)).2) ha (by rw[AD];exact sy) λi hi=>?_) ?_
  ·have hi':i<ys.length:=by lia
   have hj:ys[i]<es.size:=by
    have:ys[i]∈List.range es.size:=py.mem_iff.mp (CB hi')
    simpa using this
   simp[hi',hj]
  ·have e:es.toList.map (·.2)=(List.range es.size).map λj=>(es.getD j (0,.none)).2:=by
    apply CA
    intro i
    by_cases hi:i<es.size
    ·simp[hi]
    ·simp[hi]
   rw[e]
   exact py.map _
theorem Dx {Q:List Value->Shared->Prop} (hh:A.handled=none) (hS:Ds prog w s.heap a σ (sa w)) (few:σ.length<=sizeLine)
  (hQ:∀(h':Heap) tk d us ms,(∀b o,s.heap.get? b=some o->h'.get? b=some o)->s.heap.objs.size<h'.objs.size->IntsAre us ms->ms.Perm σ->Q us {s with heap:=h',toks:=tk,drawn:=d}):wpAny (model prog w) A (collect (.ref a)) Q E s:=by
 have la:a<s.heap.objs.size:=by obtain⟨o,_,_,_,q,_⟩:=hS;exact AM q
 unfold collect
 refine AA (wpAny_runValue (DT PySem.F.entry_proto_collect ?_))
 rw[ES PySem.F.plain_proto_collect]
 show wpAny (model prog w) A.in1 (newList []>>=λz=>again (.builtin "list.__iadd__" ⟨[z,.ref a],[]⟩)) _ _ s
 refine AA (BZ (AE ⟨ET JG _,DT PySem.F.entry_list_iadd ?_⟩))
 rw[ES JG]
 have qD:(s.heap.push {cls:=.type "list",data:=.seq ([]:List Value).toArray}).get? s.heap.objs.size=some {cls:=.type "list",dict:=none,data:=.seq #[] 0,slots:=#[]}:=AJ _ rfl
 refine EJ (Hi (A:=A) (s:={s with heap:=s.heap.push {cls:=.type "list",data:=.seq ([]:List Value).toArray}}) (R:=λr' s'=>r'=.ok (.ret (.ref s.heap.objs.size))/\∃(h':Heap) (tk:Nat) (d:Drawn) (acc:Array Value) (c':Nat),s'={s with heap:=h',toks:=tk,drawn:=d}/\(∀b o',s.heap.get? b=some o'->h'.get? b=some o') /\
   h'.get? s.heap.objs.size=some {cls:=.type "list",dict:=none,data:=.seq acc c',slots:=#[]}/\∃ms,IntsAre acc.toList ms/\ms.Perm σ) hh (hS.at λo z=>AC _ z) s.heap.objs.size (.ref s.heap.objs.size) qD (CU la) few
   λh' tk d acc c' k q m=>⟨rfl,h',tk,d,acc,c',rfl,λb o z=>k b o (AT (AM z)) (AC _ z),q,m⟩) (λfin s' h=>?_) λe s' h=>absurd h.1 (by simp)
 have fin':∀(r':Result) (s'':Shared),(r'=.ok (.ret (.ref s.heap.objs.size))/\∃(h':Heap) (tk:Nat) (d:Drawn) (acc:Array Value) (c':Nat),s''={s with heap:=h',toks:=tk,drawn:=d}/\(∀b o',s.heap.get? b=some o'->h'.get? b=some o') /\
   h'.get? s.heap.objs.size=some {cls:=.type "list",dict:=none,data:=.seq acc c',slots:=#[]}/\∃ms,IntsAre acc.toList ms/\ms.Perm σ)->wpAny (model prog w) A (match Value.ref s.heap.objs.size with
   | Value.ref a=>do
    match(<-load a).data with
     | Data.seq xs _=>pure xs.toList
     | _=>unsupported "internal:collect"
   | _=>unsupported "internal:collect") Q E s'':=by
  rintro r' s'' ⟨rfl,h',tk,d,acc,c',rfl,k,q,ms,i,p⟩
  show wpAny (model prog w) A (load s.heap.objs.size>>=_) _ _ _
  exact AA (wpAny_load q (AE (hQ h' tk d _ ms k (AM q) i p)))
 cases fin with
 | done f =>
  have e:f=.ret (.ref s.heap.objs.size):=by have:=h.1;cases this;rfl
  subst e
  exact fin' _ _ h
 | again c'=>exact⟨h.1,GO h.2 λr' s'' hr=>by obtain⟨rfl,z⟩:=hr;exact fin' _ _ ⟨rfl,z⟩⟩
theorem Hj {Q:Value->Shared->Prop} (hh:A.handled=none) (hS:Ds prog w s.heap a σ (sa w)) (few:σ.length<64)
  (h:∀(h':Heap) tk d p out ns c,(∀b o,s.heap.get? b=some o->h'.get? b=some o)->s.heap.objs.size<=p->h'.get? p=some (seqObj "list" out c)->IntsAre out.toList ns->ns.Perm σ->ns.Pairwise (·<=·)->Q (.ref p) {s with heap:=h',toks:=tk,drawn:=d}) :
  wpAny (model prog w) A (call (.builtin "sorted") [.ref a]) Q E s:=by
 have small:σ.length<=sizeLine:=by rw[Db];lia
 refine FY kind_sorted plain_sorted entry_sorted (args_sorted1 _) ?_
 unfold Builtin.«sorted»
 refine AA (m:=checkCount "sorted" 1 1 _) (AE (AA (Dx (show A.in1.handled=none from hh) hS small λh1 tk d us ms k lz i p=>?_)))
 have lu:us.length=σ.length:=by rw[Af i,p.length_eq]
 refine AA (IV ?_ (by lia))
 have qL:(h1.push (seqObj "list" us.toArray 0)).get? h1.objs.size=some (seqObj "list" us.toArray 0):=AJ _ rfl
 refine AA (CP (BP slot_list_sort ⟨_,qL,rfl⟩ JW (list_sort_tree (s:={s with heap:=h1.push (seqObj "list" us.toArray 0),toks:=tk,drawn:=d}) qL i (by lia) λout ns j1 j2 j3=>⟨_,rfl,?_⟩) (args_list_sort _)))
 obtain⟨c,qc⟩:∃c,(sortedHeap (h1.push (seqObj "list" us.toArray 0)) h1.objs.size us out).get? h1.objs.size=some (seqObj "list" out c) :=
  ⟨_,JV (AC _ (AC _ (JV qL λ_=>#[]))) λ_=>out⟩
 refine AE ⟨_,rfl,h _ tk d _ out ns c (λb o z=>?_) (FD lz) qc j1 (j2.trans p) j3⟩
 have zb:b≠h1.objs.size:=AT (AM (k b o z))
 unfold sortedHeap
 rw[DR _ _ _ _ zb]
 refine AC _ (AC _ ?_)
 rw[DR _ _ _ _ zb]
 exact AC _ (k b o z)
end
end Lp.Sets
namespace Lp
open PySem PySem.Spec PyProof.Rows L2
namespace Sets
theorem insI_perm (x:Int):∀l:List Int,(insI x l).Perm (x::l)
 | []=>.refl _
 | y::r=>by
  unfold insI
  split
  ·exact .refl _
  ·exact((insI_perm x r).cons y).trans (List.Perm.swap ..)
theorem sortI_perm:∀l:List Int,(sortI l).Perm l
 | []=>.refl _
 | x::r=>(insI_perm x (sortI r)).trans ((sortI_perm r).cons x)
theorem Kt (x:Int):∀l:List Int,l.Pairwise (·<=·)->(insI x l).Pairwise (·<=·)
 | [],_=>by simp[insI]
 | y::r,h=>by
  obtain⟨h1,h2⟩:=BW.mp h
  unfold insI
  split
  ·rename_i hc
   refine BW.mpr ⟨λz hz=>?_,h⟩
   rcases AL.mp hz with rfl | hz
   ·exact hc
   ·exact Int.le_trans hc (h1 z hz)
  ·rename_i hc
   refine BW.mpr ⟨λz hz=>?_,Kt x r h2⟩
   rcases AL.mp ((insI_perm x r).mem_iff.mp hz)with rfl | hz
   ·lia
   ·exact h1 z hz
theorem Fj:∀l:List Int,(sortI l).Pairwise (·<=·)
 | []=>.nil
 | x::r=>Kt x _ (Fj r)
theorem Ku:∀{l m:List Int},l.Perm m->l.Pairwise (·<=·)->m.Pairwise (·<=·)->l=m
 | [],m,p,_,_=>(List.nil_perm.mp p).symm
 | x::l,[],p,_,_=>by have:=p.length_eq;simp at this
 | x::l,y::m,p,h1,h2=>by
  obtain⟨a1,a2⟩:=BW.mp h1
  obtain⟨b1,b2⟩:=BW.mp h2
  have e:x=y:=by
   have hx:x∈y::m:=p.mem_iff.mp AQ
   have hy:y∈x::l:=p.mem_iff.mpr AQ
   rcases AL.mp hx with e | hx
   ·exact e
   ·rcases AL.mp hy with e | hy
    ·exact e.symm
    ·exact Int.le_antisymm (a1 y hy) (b1 x hx)
  subst e
  rw[Ku (List.Perm.cons_inv p) a2 b2]
theorem um (ns:List Int):firstMet (λi=>ns.getD i 0) ns.length=zl ns:=by
 unfold firstMet zl
 have e:(List.range ns.length).map (λi=>ns.getD i 0)=ns:=by
  apply CA
  intro i
  by_cases h:i<ns.length
  ·simp[h]
  ·simp[h]
 rw[e]
 rfl
theorem ded_len (ns:List Int):(zl ns).length<=ns.length:=by
 rw[<-um];exact firstMet_length_le _ _
theorem vals_ints:∀{ns:List Int} {us:List Value},cz (ns.map V.int) us->IntsAre us ns
 | [],[],_=>.nil
 | n::r,u::us,h=>by
  cases h with
  | cons h1 h2 =>
   obtain⟨t,rfl⟩:=h1
   exact .cons n t (vals_ints h2)
 | [],u::us,h=>by cases h
 | n::r,[],h=>by cases h
theorem B0:∀{us:List Value} {ns:List Int},IntsAre us ns->cz (ns.map V.int) us
 | _,_,.nil=>.nil
 | _,_,.cons n t r=>.cons ⟨t,rfl⟩ (B0 r)
theorem drew {X:Cx} {pins:List (Addr×Obj)} {σ:List (Option V)} {H:Hp} {s:Shared} {d:Drawn} (I:Inv X pins σ H s):Inv X pins σ H {s with drawn:=d} :=
 ⟨I.ok,I.os,I.bare,I.base,I.loc,I.cell,I.free,I.freeC,I.pin,I.hok,I.len⟩
end Sets
section
variable {X : Cx} {φ : Phi} {a : Expr} {xa : Ex} {p p2 pos pos2 : Pos} {m : Mk}
def aba (K:PySem.W.Frag) (ta:TE) (k:List Int->Hp->VK->Prop):TE:=λσ H Q=>ta σ H λv H1=>∃(b:Addr) (ns:List Int),v=.ref b/\(LsL K H1 b (ns.map V.int)\/SqT K H1 b (ns.map V.int))/\ns.length<64/\k ns H1 Q
theorem Oo {σv:St} {H:Hp} {Q:VK} (h:tE X.K φ (.blt .sortedSet m (.cons xa .nil)) σv H Q) :
  aba X.K (tE X.K φ xa) (λns H Q=>∀q,H q=none->FQ Q (.ref q) (upd H q (.lst ((sortI (zl ns)).map V.int)))) σv H Q:=by
 obtain⟨ι,σ,μ,hS,hL,h⟩:=h
 simp![evE,jh]at h
 rw[Res.bind_assoc]at h
 obtain⟨d,μ1,e1,h⟩:=h.bind
 refine⟨ι,σ,μ,hS,hL,?_⟩
 rw[e1]
 intro ι1 v H1 p1 x1 s1 d1
 have h:=h.mono p1 x1
 simp![Res.bg]at h
 simp![btD,ff]at h
 obtain⟨b,ns,rfl,hq,h⟩:=Di s1 d1 h
 split at h
 ·rename_i h64
  exact⟨b,ns,rfl,hq,h64,λq z=>mq s1 (ar.ints _) h z⟩
 ·exact h.elim
theorem wt (hms:X.mg "sorted"=none) (hmt:X.mg "set"=none) (ha:PE X a (tE X.K φ xa)) (hgs:Gl X "sorted":=by rfl) (hgt:Gl X "set":=by rfl) (hc:X.calm=true:=by rfl)
  (hs:starEach [a] X.env=[(false,eval a X.env)]:=by rfl) (hs2:starEach [.Call (.Name "set" p2) [a] [] pos2] X.env=[(false,eval (.Call (.Name "set" p2) [a] [] pos2) X.env)]:=by rfl) :
  PE X (.Call (.Name "sorted" p) [.Call (.Name "set" p2) [a] [] pos2] [] pos) (tE X.K φ (.blt .sortedSet m (.cons xa .nil))):=by
 refine PE.imp (t:=aba X.K (tE X.K φ xa) λns H Q=>∀q,H q=none->FQ Q (.ref q) (upd H q (.lst ((sortI (zl ns)).map V.int)))) ?_ λσv H Q h=>Oo h
 intro pins s σ H Q I h
 refine DX (qk I hgs hms (by first | exact GB | decide +kernel) ?_ (by decide) (by decide))
 refine HB ?_ hs2 rfl
 rw[hs2]
 refine DW ?_
 refine DX (qk I hgt hmt (by first | exact PyProof.Rows.boot_set | decide +kernel) ?_ (by decide) (by decide))
 refine CJ ?_ hs rfl
 rw[hs]
 refine DW (thn (ha pins s σ H _ I h) λu s1 ⟨v,H1,I1,r1,b,ns,ev,hq,h64,q⟩=>EO ?_)
 subst ev
 cases(show u=Value.ref b from r1)
 obtain⟨bb,its,hv,hsq⟩:∃(bb:Bool) (its:List Value),cz (ns.map V.int) its/\SQ bb s1.heap b its.toArray:=by
  rcases hq with hq | hq
  ·obtain⟨z,its,n,hv,hl,hg⟩:=I1.ls hq
   exact⟨true,its,hv,⟨_,hg,rfl,n,rfl⟩⟩
  ·obtain⟨its,hv,ht,hz⟩:=I1.tuple hq
   exact⟨false,its,hv,ht⟩
 have ln:its.length=ns.length:=by have:=hv.length;simpa using this.symm
 refine Sets.Oj (ns:=ns) (I1.ok.hd hc) hsq (by simpa using Sets.vals_ints hv) (by rw[AG];unfold scanBound;lia) λh1 tk1 hH k1=>EO ?_
 have hsz:its.toArray.size=ns.length:=by rw[AG];exact ln
 rw[hsz,Sets.um]at hH
 have hd:=Sets.ded_len ns
 refine E2 (Sets.Hj (s:={s1 with heap:=h1,toks:=tk1}) (I1.ok.hd hc) hH (by lia) λh2 tk2 d pq out ms c k2 lp qp i1 i2 i3=>?_)
 have e:ms=sortI (zl ns):=Sets.Ku (i2.trans (Sets.sortI_perm _).symm) i3 (Sets.Fj _)
 subst e
 have l1:s1.heap.objs.size<h1.objs.size:=by obtain⟨o,_,_,_,z,_⟩:=hH;exact AM z
 have lp':s1.heap.objs.size<=pq:=by
  have:h1.objs.size<=pq:=lp
  lia
 have lz:(sortI (zl ns)).length<=ns.length:=by rw[(Sets.sortI_perm _).length_eq];exact hd
 have I2:=I1.laid (a:=pq) (o:=.lst ((sortI (zl ns)).map V.int)) (h':=h2) (t':=tk2) (λb o z=>k2 b o (k1 b o z)) lp' ⟨by rw[AD,Db];lia,out.toList,c,Sets.B0 i1,by rw[KG];exact qp⟩
 exact⟨.ref pq,_,Sets.drew I2,rfl,q pq (I1.hok.fresh lp')⟩
end
section
variable {X : Cx} {φ : Phi} {o e : Expr} {es : List Expr} {xo : Ex} {xs : Exs} {apos cpos : Pos}
def rInsert:V->List V->Hp->VK->Prop:=λx vs H Q=>∃l xs i y,x=.ref l/\vs=[.int i,y]/\H l=some (.lst xs)/\0<=i/\i<=(xs.length:Int)/\xs.length<sizeLine/\Q .non (upd H l (.lst (xs.take i.toNat++y::xs.drop i.toNat)))
theorem Kv:MtM X "list.insert" rInsert:=by
 intro pins s σ H x vs v us Q I rx rv h
 obtain⟨l,xs,i,y,rfl,rfl,hH,h1,h2,hz,q⟩:=h
 cases rx
 obtain⟨a,u,rfl,ra,ru⟩:=vals2 rv
 obtain⟨t,rfl⟩:=ra
 obtain⟨z,its,n,r,hl,e⟩:=I.lstM hH
 have h24:sizeLine=16777216:=Db
 refine FT F.slot_list_insert ⟨_,e,rfl⟩ F.entry_list_insert (F.args_list_insert_3 _ _ _)
  (AutoSeq1.list_insert_list_int_val_1 l its.toArray n i t u (by rw[fitsIndex_both (k:=i) (by lia) (by lia)];decide) (by rw[AG];lia)) ⟨e,?_⟩
 refine⟨.non,_,I.lset (its':=its.take i.toNat++u::its.drop i.toNat) hH e ?_ ((r.take i.toNat).append (.cons ru (r.drop i.toNat))) ?_,rfl,q⟩
 ·have hk:(if i<0 then(i+((its.toArray.size:Nat):Int)).toNat else min i.toNat its.toArray.size)=i.toNat:=by
   rw[if_neg (by lia),AG];lia
  simp![hk]
  apply Array.toList_inj.mp
  simp
  exact BY (by simp)
 ·simp
  lia
theorem Oq:MtR X "list.insert" (rMt X.K .insert):=MtR.imp Kv λx vs H Q h0=>by
 obtain⟨ι,n,ob,xs,ds,μ,a,ws,hS,hds,rfl,ha,hH,h1,h2,h⟩:=Jz (by decide) h0
 clear h0
 simp![mtL]at h
 split at h
 ·rename_i i d
  obtain⟨v,w,rfl,hv,hw⟩:=Jy hds
  cases f6 hv
  split at h
  ·rename_i hf
   rw[l6]at hf
   refine⟨a,ws,i,w,rfl,rfl,hH,hf.1,by rw[h1.length];exact hf.2.1,by rw[h1.length];exact hf.2.2.2,nz hS ha hH ((h1.take _).append ((ar.one hw).append (h1.drop _))) (λes e=>((h2 es e).take _).append ((ar.one (vz hf.2.2.1 hw es e)).append ((h2 es e).drop _))) (by simp[IsD]) h⟩
  ·exact h.elim
 ·exact h.elim
theorem Dy (ho:PE X o (tE X.K φ xo)) (ha:PA X (e::es) (tEs X.K φ xs)) (h5:Ma X o "insert" e es apos cpos:=by exact⟨rfl,rfl,rfl,rfl,rfl⟩):PE X (.Call (.Attribute o "insert" apos) (e::es) [] cpos) (tE X.K φ (.meth .insert xo xs)) :=
 J9 (ng λ_ _=>rfl) (Sn FS F.slot_list_insert F.type_list_insert Oq ho ha h5.b h5.f h5.l h5.s h5.p)
end
open PySem.SeqAt (EqAt)
theorem B3 (l:Addr) (items:Array Value) (n:Nat) (x:Value) (e:Nat->Bool) (j:Nat) (hj:j<items.size) (ej:e j=true) (hz:items.size<=sizeLine):∀k i:Nat,j-i=k->i<=j->(∀m,i<=m->m<j->e m=false) ->
  Meets (Builtin.«list.remove.loop» ⟨[.ref l,x,rawInt i],[]⟩) (λA R s=>s.heap.get? l=some {cls:=Value.type "list",data:=.seq items n}/\(∀m (hm:m<items.size),EqAt A.in1 s items[m] x (e m)) /\
   R (.ok (.ret .none)) {s with heap:=s.heap.update l (Obj.mapSeq λxs=>xs.eraseIdxIfInBounds j)}):=by
 intro k
 induction k with
 | zero =>
  intro i h1 h2 _ prog w A R s ⟨hl,he,hR⟩
  have:i=j:=by lia
  subst this
  unfold Builtin.«list.remove.loop»
  simp![rawInt]
  refine AA (DK hl rfl ?_)
  have e1:items[((i:Int)).toNat]? = some items[i]:=by simp[hj]
  simp![e1]
  refine AA (he i hj prog w _ _ ?_)
  simp![ej,if_true]
  refine AA (IU hl rfl ?_ hz (by show(items.eraseIdxIfInBounds i).size<=_;unfold Array.eraseIdxIfInBounds;split<;>simp<;>lia))
  exact AE hR
 | succ k ih =>
  intro i h1 h2 h3 prog w A R s ⟨hl,he,hR⟩
  have hi:i<items.size:=by lia
  unfold Builtin.«list.remove.loop»
  simp![rawInt]
  refine AA (DK hl rfl ?_)
  have e1:items[((i:Int)).toNat]? = some items[i]:=by simp[hi]
  simp![e1]
  refine AA (he i hi prog w _ _ ?_)
  simp![h3 i (AI _) (by lia),AS,if_false]
  exact AE ⟨ET ID _,DT IE (ih (i+1) (by lia) (by lia) (λm a b=>h3 m (by lia) b) prog w A R s ⟨hl,he,hR⟩)⟩
section
variable {X : Cx} {φ : Phi} {o e : Expr} {es : List Expr} {xo : Ex} {xs : Exs} {apos cpos : Pos}
theorem yr:∀{os:List (Option D)} {ds:List D},cj os=some ds->ds.length=os.length
 | [],ds,h=>by simp[cj]at h;subst h;rfl
 | none::r,ds,h=>by simp[cj]at h
 | some d::r,ds,h=>by
  simp![cj]at h
  cases e:cj r with
  | none=>rw[e]at h;cases h
  | some q =>
   rw[e]at h
   cases h
   simp[yr e]
theorem yt {p:D->Bool}:∀{os:List (Option D)} {ds:List D},cj os=some ds->(∀d,some d∈os->p d=true)->∀d∈ds,p d=true
 | [],ds,h,_=>by simp[cj]at h;subst h;simp
 | none::r,ds,h,_=>by simp[cj]at h
 | some x::r,ds,h,hp=>by
  simp![cj]at h
  cases e:cj r with
  | none=>rw[e]at h;cases h
  | some q =>
   rw[e]at h
   cases h
   intro d hd
   rcases AL.mp hd with rfl | hd
   ·exact hp _ AQ
   ·exact yt e (λy hy=>hp y (AH _ hy)) d hd
theorem yu:∀{xs:List V} {us:List Value},cz xs us->∀j,cz (xs.eraseIdx j) (us.eraseIdx j)
 | _,_,.nil,_=>.nil
 | _,_,.cons a t,0=>t
 | _,_,.cons a t,j+1=>.cons a (yu t j)
theorem Ot (hu:X.A.units+64<cLine):MtR X "list.remove" (rMt X.K .remove):=by
 intro pins s σ H x vs v us Q I rx rv h0
 obtain⟨ι,n,ob,xs,ds,μ,a,ws,hS,hds,rfl,ha,hH,h1,h2,h⟩:=Jz (by decide) h0
 clear h0
 simp![mtL]at h
 obtain⟨d,y,rfl,hd,h⟩:=kh hds h
 cases e1:cj (xs.map (bx μ 8))with
 | none=>rw[e1]at h;exact h.elim
 | some es =>
 cases e2:bx μ 8 d with
 | none=>rw[e1,e2]at h;exact h.elim
 | some z =>
 rw[e1,e2]at h
 simp only at h
 cases e3:es.findIdx? (λx=>deq x z)with
 | none=>rw[e3]at h;exact h.elim
 | some j =>
 rw[e3]at h
 simp only at h
 cases rx
 obtain⟨u,rfl,ru⟩:=vals1 rv
 obtain⟨hz,its,k,r,hl,e⟩:=I.lstM hH
 have len:es.length=its.length:=by rw[yr e1,AD,<-h1.length,r.length]
 obtain⟨hj,ej,hb⟩:=List.findIdx?_eq_some_iff_getElem.mp e3
 have iw:ou X.K H es ws:=C9 hS _ (λd e v=>vp hS 8 d e v) e1 h1
 have iz:IsW X.K H z y:=vp hS 8 d z y e2 hd
 have pz:D.pureN 8 z=true:=i6 8 d z e2
 have pe:∀d∈es,D.pureN 8 d=true:=yt e1 λd hd=>by
  obtain⟨c,_,q⟩:=AU.mp hd
  exact i6 8 c d q
 have hc24:sizeLine=16777216:=Db
 refine FT F.slot_list_remove ⟨_,e,rfl⟩ F.entry_list_remove (F.args_list_remove_2 _ _)
  (MeetsSeq.meets_again rfl ID IE (B3 a its.toArray k u (λm=>deq (es.getD m .non) z) j (by rw[AG,<-len];exact hj) (by simpa[hj]using ej) (by rw[AG];lia) j 0 rfl (CS _) λm _ hm=>?_)) ⟨e,λm hm=>?_,?_⟩
 ·have:=hb m hm
  have hm':m<es.length:=by lia
  simpa[hm']using this
 ·have hm':m<es.length:=by rw[AG]at hm;lia
  obtain⟨v',e4,h4⟩:=iw.get (show es[m]? = some (es.getD m .non)by simp[hm'])
  obtain⟨u',e5,h5⟩:=r.get e4
  have e6:its.toArray[m]=u':=by
   rw[AG]at hm
   have:its[m]? = some its[m]:=AB hm
   rw[this]at e5
   simpa using e5
  rw[e6]
  exact Ws I 8 _ _ _ v' y u' u (by have:=in1_units X.A;lia) (pe _ (by rw[show es.getD m .non=es[m]by simp[hm']];exact CB hm')) pz h4 iz h5 ru
 ·refine⟨.non,_,I.lset (its':=its.eraseIdx j) hH e ?_ ?_ ?_,rfl,nz hS ha hH (h1.eraseIdx j) (λds q=>(h2 ds q).eraseIdx j) (by simp[IsD]) h⟩
  ·unfold Array.eraseIdxIfInBounds
   rw[dif_pos (by rw[AG,<-len];exact hj)]
   simp
  ·exact yu r j
  ·rw[FW];split<;>lia
theorem Hk (hu:X.A.units+64<cLine) (ho:PE X o (tE X.K φ xo)) (ha:PA X (e::es) (tEs X.K φ xs)) (h5:Ma X o "remove" e es apos cpos:=by exact⟨rfl,rfl,rfl,rfl,rfl⟩):PE X (.Call (.Attribute o "remove" apos) (e::es) [] cpos) (tE X.K φ (.meth .remove xo xs)) :=
 J9 (ng λ_ _=>rfl) (Sn FS F.slot_list_remove F.type_list_remove (Ot hu) ho ha h5.b h5.f h5.l h5.s h5.p)
end
end Lp
namespace Lp.Srt
open PySem PySem.W PyProof.Rows PySem.Calls
open PySem.SeqAt (EqAt)
theorem Xk (l b:Addr):Builtin.«list.__lt__» ⟨[.ref l,.ref b],[]⟩=(do
 let t <-isInstance (.ref b) (.type "list")
 if(!t)=true then ret .notImplemented else again (.builtin "list.__eq__.loop" ⟨[.ref l,.ref b,rawInt 0,rawInt 0],[]⟩)):=rfl
theorem Hl {ns ms:List Int} {i:Nat} (h1:i<ns.length) (h2:i<ms.length):lexLt (ns.drop i) (ms.drop i)=if ns[i]=ms[i]then lexLt (ns.drop (i+1)) (ms.drop (i+1))else decide (ns[i]<ms[i]):=by
 rw[DU h1,DU h2,lexLt]
theorem Kw {ns ms:List Int} {i:Nat} (h:¬(i<ns.length/\i<ms.length)) (hi:i<=ns.length) (hj:i<=ms.length):lexLt (ns.drop i) (ms.drop i)=decide (ns.length<ms.length):=by
 by_cases h1:i<ns.length
 ·have h2:i=ms.length:=by lia
  subst h2
  rw[HC,decide_eq_false (by lia)]
  cases ns.drop ms.length<;>rfl
 ·have h2:i=ns.length:=by lia
  subst h2
  rw[HC]
  by_cases h3:ns.length<ms.length
  ·rw[DU h3,decide_eq_true h3];rfl
  ·rw[JN (by lia),decide_eq_false h3];rfl
theorem D0:∀{vs:List Value} {ns:List Int},IntsAre vs ns->∀i (h:i<ns.length),∃t,vs[i]? = some (.int ns[i] t)
 | _,_,.nil,i,h=>by simp at h
 | _,_,.cons n t r,0,_=>⟨t,rfl⟩
 | _,_,.cons n t r,i+1,h=>by
  obtain⟨u,e⟩:=D0 r i (by simpa using h)
  exact⟨u,by simpa using e⟩
theorem Uh (l b:Addr) (items items2:Array Value) (n n2:Nat) (ns ms:List Int) (ii:IntsAre items.toList ns) (jj:IntsAre items2.toList ms):∀k i:Nat,ns.length-i=k->i<=ns.length->i<=ms.length ->
  Meets (Builtin.«list.__eq__.loop» ⟨[.ref l,.ref b,rawInt i,rawInt 0],[]⟩) (λA R s=>s.heap.get? l=some {cls:=Value.type "list",data:=.seq items n}/\s.heap.get? b=some {cls:=Value.type "list",data:=.seq items2 n2} /\
   R (.ok (.ret (.bool (lexLt (ns.drop i) (ms.drop i))))) s):=by
 have z1:ns.length=items.size:=by rw[<-ii.length,BJ]
 have z2:ms.length=items2.size:=by rw[<-jj.length,BJ]
 have at1:∀i (h:i<ns.length),∃t,items[i]? = some (.int ns[i] t):=λi h=>by
  obtain⟨t,e⟩:=D0 ii i h
  exact⟨t,by rw[<-CZ];exact e⟩
 have at2:∀i (h:i<ms.length),∃t,items2[i]? = some (.int ms[i] t):=λi h=>by
  obtain⟨t,e⟩:=D0 jj i h
  exact⟨t,by rw[<-CZ];exact e⟩
 have stop:∀i:Nat,¬(i<ns.length/\i<ms.length)->i<=ns.length->i<=ms.length->∀(prog:Program) (w:World) (A:Around) (R:Result->Shared->Prop) (s:Shared),(s.heap.get? l=some {cls:=Value.type "list",data:=.seq items n}/\s.heap.get? b=some {cls:=Value.type "list",data:=.seq items2 n2} /\
   R (.ok (.ret (.bool (lexLt (ns.drop i) (ms.drop i))))) s)->wpAny (model prog w) A.in1 (Builtin.«list.__eq__.loop» ⟨[.ref l,.ref b,rawInt i,rawInt 0],[]⟩) (λfin s'=>match fin with | .done f=>R (.ok f) s' | .again c'=>c'.quiet=true/\codeAny (model prog w) A c' R s') (λe s'=>R (.error e) s') s:=by
  intro i h h2 h3 prog w A R s ⟨hl,hb,hR⟩
  rw[Kw h h2 h3,z1,z2]at hR
  show wpAny (model prog w) A.in1 (Builtin.List.listItems (.ref l)>>=_) _ _ s
  refine AA (DK hl rfl ?_)
  refine AA (DK hb rfl ?_)
  by_cases h1:i<ns.length
  ·have e2:items2[((i:Int)).toNat]? = none:=by simp;lia
   obtain⟨t1,e1⟩:=at1 i h1
   have e1:items[((i:Int)).toNat]? = some (.int ns[i] t1):=e1
   simp![e1,e2]
   refine AA (DK hl rfl (AA (DK hb rfl (AE hR))))
  ·have e1:items[((i:Int)).toNat]? = none:=by simp;lia
   simp![e1]
   refine AA (DK hl rfl (AA (DK hb rfl (AE hR))))
 intro k
 induction k with
 | zero=>exact λi h1 h2 h3=>stop i (by lia) h2 h3
 | succ k ih =>
  intro i h1 h2 h3
  by_cases h4:i<ns.length/\i<ms.length
  ·intro prog w A R s ⟨hl,hb,hR⟩
   rw[Hl h4.1 h4.2]at hR
   obtain⟨t1,e1⟩:=at1 i h4.1
   obtain⟨t2,e2⟩:=at2 i h4.2
   have e1:items[((i:Int)).toNat]? = some (.int ns[i] t1):=e1
   have e2:items2[((i:Int)).toNat]? = some (.int ms[i] t2):=e2
   show wpAny (model prog w) A.in1 (Builtin.List.listItems (.ref l)>>=_) _ _ s
   refine AA (DK hl rfl ?_)
   refine AA (DK hb rfl ?_)
   simp![e1,e2]
   refine AA (IX ?_)
   by_cases h5:ns[i]=ms[i]
   ·rw[if_pos h5]at hR
    simp![h5,beq_self_eq_true,if_true]
    exact AE ⟨ET JH _,DT JI (ih (i+1) (by lia) (by lia) (by lia) prog w A R s ⟨hl,hb,hR⟩)⟩
   ·rw[if_neg h5]at hR
    have h6:(ns[i]==ms[i])=false:=by simpa using h5
    simp![h6,AS,if_false]
    refine AA (DK hl rfl ?_)
    refine AA (DK hb rfl ?_)
    simp![e1,e2]
    refine AA (m:=richCompare .Lt _ _) (lt_int (AE hR))
  ·exact stop i h4 h2 h3
theorem Ui (l b:Addr) (items items2:Array Value) (n n2:Nat) (ns ms:List Int) (ii:IntsAre items.toList ns) (jj:IntsAre items2.toList ms) :
  Meets (Builtin.«list.__lt__» ⟨[.ref l,.ref b],[]⟩) (λA R s=>s.heap.get? l=some {cls:=Value.type "list",data:=.seq items n}/\s.heap.get? b=some {cls:=Value.type "list",data:=.seq items2 n2} /\
   R (.ok (.ret (.bool (lexLt ns ms)))) s):=by
 intro prog w A R s ⟨hl,hb,hR⟩
 rw[Xk]
 refine AA (EH (T:="list") ⟨_,hb,rfl⟩ AutoSeq1.sub_list_list ?_)
 simp![HI,AS,if_false]
 exact AE ⟨ET JH _,DT JI (Uh l b items items2 n n2 ns ms ii jj _ 0 rfl (CS _) (CS _) prog w A R s ⟨hl,hb,hR⟩)⟩
section
variable {prog : Program} {w : World} {A : Around} {E : Value -> Shared -> Prop} {s : Shared}
theorem Hm {l b:Addr} {items items2:Array Value} {n n2:Nat} {ns ms:List Int} {Q:Bool->Shared->Prop} (hu:A.units<cLine) (hl:s.heap.get? l=some {cls:=Value.type "list",data:=.seq items n}) (hb:s.heap.get? b=some {cls:=Value.type "list",data:=.seq items2 n2})
  (ii:IntsAre items.toList ns) (jj:IntsAre items2.toList ms) (h:Q (lexLt ns ms) s):wpAny (model prog w) A (oneLt' true (.ref l) (.ref b)) Q E s:=by
 show wpAny (model prog w) A (cRoomFor "comparison" [.ref l,.ref b]>>=_) _ _ s
 refine AA (wpAny_cRoomFor hu ?_)
 refine AA (wpAny_callSpecialIfBound?_slot ⟨_,hl,rfl⟩ F.slot_list_lt (FT F.slot_list_lt ⟨_,hl,rfl⟩ F.entry_list_lt (F.args_list_lt_2 _ _) (Ui l b items items2 n n2 ns ms ii jj) ⟨hl,hb,?_⟩))
 show wpAny (model prog w) A (truthy (.bool (lexLt ns ms))) Q E s
 exact AE h
theorem Hn {vs:List Value} (h2:2<=vs.length) (hv:∀v∈vs,∃a its n,v=Value.ref a/\s.heap.get? a=some {cls:=Value.type "list",data:=.seq its n}) {Q:SortKind->Shared->Prop} (q:Q oneType' s):wpAny (model prog w) A (keyKind' vs.toArray) Q E s:=by
 have ty:∀v∈vs,s.TypeIs v "list":=λv hm=>by
  obtain⟨a,its,n,rfl,e⟩:=hv v hm
  exact⟨_,e,rfl⟩
 have f1:∀v∈vs,∀Q':Option Value->Shared->Prop,Q' none s->wpAny (model prog w) A (firstOfTuple' v) Q' E s:=λv hm Q' q'=>by
  show wpAny (model prog w) A (typeOf v>>=_) _ _ s
  refine AA (FE (ty v hm) ?_)
  exact AE q'
 have al:∀k:Nat,2<=k->((List.replicate k (none:Option Value)).toArray.all λx=>x.isSome)=false:=λk hk=>by
  obtain⟨k,rfl⟩:∃m,k=m+1:=⟨k-1,by lia⟩
  simp[CY]
 rw[keyKind'_eq,List.mapM_toArray,map_eq_pure_bind,bind_assoc]
 refine AA (kas_mapM vs f1 ?_)
 rw[pure_bind]
 have e1:vs.map (λ_=>(none:Option Value))=List.replicate vs.length none:=List.map_const' ..
 rw[e1,al _ h2]
 simp![AS,if_false]
 have e2:((List.replicate vs.length (none:Option Value)).toArray[0]?.bind id)=none:=by
  obtain⟨k,e⟩:∃m,vs.length=m+1:=⟨vs.length-1,by lia⟩
  rw[e];simp[CY]
 rw[e2]
 simp![Option.isSome_none,AS,if_false]
 rw[oneTypeOnly'_eq,List.mapM_toArray,map_eq_pure_bind,bind_assoc,bind_assoc]
 refine AA (kas_mapM (r:=Value.type "list") vs (λv hm Q' q'=>FE (ty v hm) q') ?_)
 rw[pure_bind]
 have e3:vs.map (λ_=>Value.type "list")=List.replicate vs.length (Value.type "list"):=List.map_const' ..
 have e4:(List.replicate vs.length (Value.type "list")).toArray[0]? = some (Value.type "list"):=by
  obtain⟨k,e⟩:∃m,vs.length=m+1:=⟨vs.length-1,by lia⟩
  rw[e];simp[CY]
 have e5:((List.replicate vs.length (Value.type "list")).toArray.all λx=>x==Value.type "list")=true:=by
  rw[List.all_toArray]
  exact AN.mpr λx hx=>by rw[List.eq_of_mem_replicate hx];decide
 rw[e3]
 simp![e4,e5,if_true]
 rw[pure_bind]
 exact AE q
theorem Ho {l:Addr} {vs:List Value} {Q:Value->Shared->Prop} (hl:s.heap.IsList l vs.toArray) (hsm:vs.length<64) (rk:Nat->Nat)
  (hk:2<=vs.length->∀(A':Around) (g:Heap),A'.units<=A.units+8->(∀b o,s.heap.get? b=some o->g.get? b=some o)->∃κ:SortKind,(∀(Q:SortKind->Shared->Prop) (E':Value->Shared->Prop),Q κ {s with heap:=g}->wpAny (model prog w) A' (keyKind' vs.toArray) Q E' {s with heap:=g}) /\
   ∀(i j:Nat) (C:Bool->Shared->Prop),i<vs.length->j<vs.length->C (decide (rk i<rk j)) {s with heap:=g}->wpAny (model prog w) A' (keyLt' κ (vs.getD i Value.none) (vs.getD j Value.none)) C (λ_ _=>False) {s with heap:=g})
  (fin:∀p:Array Nat,PP vs.length p->Up rk p vs.length->Q (.ref (s.heap.objs.size+1)) {s with heap:=sortedAll s.heap vs (List.toArray (p.toList.map λi=>vs.getD i Value.none))}) :
  wpAny (model prog w) A (call (.builtin "sorted") [.ref l]) Q E s:=by
 have small:vs.length<=sizeLine:=by rw[Db];lia
 refine FY kind_sorted plain_sorted entry_sorted (args_sorted1 _) ?_
 unfold Builtin.«sorted»
 refine AA (m:=checkCount "sorted" 1 1 _) (AE (AA (collect_list hl (AA (IV ?_ small)) small)))
 have szL:((s.heap.push (seqObj "list" #[] 0)).update s.heap.objs.size (Obj.mapSeq (·++vs.toArray))).objs.size=s.heap.objs.size+1:=by rw[JE,size_push']
 have qL:(((s.heap.push (seqObj "list" #[] 0)).update s.heap.objs.size (Obj.mapSeq (·++vs.toArray))).push (seqObj "list" vs.toArray 0)).get? (s.heap.objs.size+1)=some (seqObj "list" vs.toArray 0):=szL ▸ AJ _ rfl
 have old:∀b o,s.heap.get? b=some o->(((s.heap.push (seqObj "list" #[] 0)).update s.heap.objs.size (Obj.mapSeq (·++vs.toArray))).push (seqObj "list" vs.toArray 0)).get? b=some o:=λb o e =>
  AC _ (by rw[DR _ _ _ _ (AT (AM e))];exact AC _ e)
 show wpAny _ _ _ _ _ {s with heap:=(((s.heap.push (seqObj "list" #[] 0)).update s.heap.objs.size (Obj.mapSeq (·++vs.toArray))).push (seqObj "list" vs.toArray 0))}
 rw[szL]
 refine AA (CP (BP slot_list_sort ⟨_,qL,rfl⟩ JW ?go (args_list_sort _)))
 case go =>
  refine uk (s:={s with heap:=(((s.heap.push (seqObj "list" #[] 0)).update s.heap.objs.size (Obj.mapSeq (·++vs.toArray))).push (seqObj "list" vs.toArray 0))}) qL hsm rk (λh2 g hg=>hk h2 _ g ?u λb o e=>hg b o (AT (DP (AM e))) (old b o e)) λp hp hu=>⟨_,rfl,?_⟩
  case u =>
   simp![Around.in1_units]
   lia
  exact AE ⟨_,rfl,fin p hp hu⟩
end
end Lp.Srt
namespace Lp
open PySem PySem.Spec PyProof.Rows L2 Lp.Srt
section
variable {X : Cx} {φ : Phi} {pos : Pos}
theorem Kx {ι:List Addr} {pins:List (Addr×Obj)} {σ:St} {s:Shared}:∀{xs:List D} {H:Hp} {μ:Sto} {vV:List V} {p:List (List Int)×Sto},Inv X pins σ H s->Sim X.K ι H μ->ar X.K ι H xs vV->rf xs μ=some p ->
  ∃H',Ext H H'/\Inv X pins σ H' s/\Sim X.K ι H' p.2/\ar X.K ι H' (p.1.map λr=>D.lst (r.map D.int)) vV
 | [],H,μ,vV,p,I,hS,hd,h=>by
  simp![rf,BN]at h
  subst h
  exact⟨H,.refl _,I,hS,by simpa[ar]using hd⟩
 | .loc n::r,H,μ,vV,p,I,hS,hd,h=>by
  simp![rf]at h
  simp![ar]at hd
  obtain⟨v,vr,rfl,hd1,hd2⟩:=hd
  cases em:μ[n]? with
  | none=>rw[em]at h;cases h
  | some o =>
  rw[em]at h
  cases o with
  | l ds =>
   simp only at h
   cases e1:gb ds with
   | none=>rw[e1]at h;cases h
   | some x =>
   cases e2:rf r (μ.set n .dead)with
   | none=>rw[e1,e2]at h;cases h
   | some q =>
   rw[e1,e2]at h
   simp![BN]at h
   subst h
   simp![IsD]at hd1
   obtain⟨a,rfl,ha⟩:=hd1
   obtain⟨a',ha',ws,hH,hw⟩:=hS.at em
   rw[ha]at ha';cases ha'
   have ew:ws=x.map V.int:=ints_of (ar.mono (CN) (.refl _) _ _ hw:ar X.K ι H ds ws) e1
   subst ew
   obtain⟨o,I1⟩:=I.freeze hH
   obtain⟨H',x2,I2,s2,d2⟩:=Kx I1 (hS.put (o:=.dead) ha (.lst hH) ⟨_,bf⟩) (ar.mono (AO _) (.lst hH) _ _ hd2) e2
   refine⟨H',(Ext.lst hH).trans x2,I2,s2,?_⟩
   simp![AR,ar]
   refine⟨_,_,rfl,?_,d2⟩
   simp![IsD]
   exact⟨a,_,rfl,.inl ⟨o,x2.frzs _ _ _ bf⟩,ar.ints x⟩
  | _=>cases h
 | .non::_,_,_,_,_,_,_,_,h=>by simp[rf]at h
 | .bl _::_,_,_,_,_,_,_,_,h=>by simp[rf]at h
 | .int _::_,_,_,_,_,_,_,_,h=>by simp[rf]at h
 | .str _::_,_,_,_,_,_,_,_,h=>by simp[rf]at h
 | .tup _::_,_,_,_,_,_,_,_,h=>by simp[rf]at h
 | .lst _::_,_,_,_,_,_,_,_,h=>by simp[rf]at h
def abb (g:Heap) (r:List Int) (u:Value):Prop:=∃a its n,u=Value.ref a/\g.get? a=some {cls:=.type "list",data:=.seq (List.toArray its) n}/\cz (r.map V.int) its
theorem Kz {ι:List Addr} {H:Hp} {pins:List (Addr×Obj)} {σ:St} {s:Shared} (I:Inv X pins σ H s):∀{rs:List (List Int)} {xs:List V} {us:List Value},ar X.K ι H (rs.map λr=>D.lst (r.map D.int)) xs->cz xs us->Paired (abb s.heap) rs us
 | [],xs,us,h1,h2=>by
  have:xs=[]:=by simpa[ar]using h1
  subst this
  cases h2
  exact .nil
 | r::rs,xs,us,h1,h2=>by
  rw[AR]at h1
  simp![ar]at h1
  obtain⟨v,q,rfl,hd,ht⟩:=h1
  cases h2 with
  | cons a b =>
   refine .cons ?_ (Kz I ht b)
   simp![IsD]at hd
   obtain⟨c,ys,rfl,hq,hx⟩:=hd
   cases(show _=Value.ref c from a)
   obtain⟨_,its,n,hv,_,e⟩:=I.ls (.inr hq)
   have ey:ys=r.map V.int:=ints_of hx (Fg r)
   subst ey
   exact⟨c,its,n,rfl,e,hv⟩
theorem Hq {m:Mk} (hu:X.A.units+64<cLine):gr X (.builtin "sorted") (uv X.K (btD .sortedL m)):=by
 intro pins s σ H xs us Q I r ⟨ι,ds,μ,hS,hds,h⟩
 obtain⟨d,v,rfl,hv,h⟩:=kh hds h
 unfold C6 at h
 cases el:Lp.listOf μ d with
 | none=>rw[el]at h;exact h.elim
 | some zs =>
 rw[el]at h
 simp only at h
 split at h
 ·rename_i h64
  cases er:rf zs μ with
  | none=>rw[er]at h;exact h.elim
  | some p0 =>
  obtain⟨rs,μ'⟩:=p0
  rw[er]at h
  simp only at h
  obtain⟨a,vV,rfl,hq,hz⟩:=mr hS hv el
  obtain⟨u,rfl,ru⟩:=vals1 r
  cases(show u=Value.ref a from ru)
  obtain⟨its,rv,pl,hlen⟩:=I.list hq.sq
  obtain⟨H',x',I',S',hz'⟩:=Kx I hS hz er
  simp only at S' hz'
  have h':i5 X.K (RD X.K) ι H' (mkL m ((o4 rs).map λr=>D.lst (r.map D.int)) μ') Q:=h.mono (AO _) x'
  have l1:vV.length=rs.length:=by rw[hz'.length,AD]
  have l2:its.length=rs.length:=by rw[<-rv.length];exact l1
  have l3:zs.length=rs.length:=by rw[<-hz.length];exact l1
  have hrs:rs.length<64:=by lia
  have pr:=Kz I' hz' rv
  have pk:∀g:Heap,(∀b o,s.heap.get? b=some o->g.get? b=some o)->Paired (abb g) rs its:=λg hg=>Paired.mapP pr λr u ⟨a,is,n,e,q1,q2⟩=>⟨a,is,n,e,hg _ _ q1,q2⟩
  refine Ho pl.isList (by lia) (rkL rs) (λh2 A' g hA hg=>⟨oneType',λQ' E' q=>?_,λi j C hi hj hC=>?_⟩) λp hp hu'=>G9 ?_
  ·refine Hn (s:={s with heap:=g}) h2 (λv hm=>?_) q
   obtain⟨i,hi,rfl⟩:=BS.mp hm
   obtain⟨c,is,n,e,q1,_⟩:=jc (d:=[]) (e:=Value.none) (pk g hg) i (by lia)
   exact⟨c,_,n,by rw[<-e];simp[hi],q1⟩
  ·rw[Ua (by lia) (by lia)]at hC
   obtain⟨a1,i1,n1,e1,g1,v1⟩:=jc (d:=[]) (e:=Value.none) (pk g hg) i (by lia)
   obtain⟨a2,i2,n2,e2,g2,v2⟩:=jc (d:=[]) (e:=Value.none) (pk g hg) j (by lia)
   rw[e1,e2,keyLt'_oneType]
   exact Hm (s:={s with heap:=g}) (by lia) g1 g2 (intsAre_of v1) (intsAre_of v2) hC
  ·rw[l2]at hp hu'
   obtain⟨e',he⟩:=sortedAll_at s.heap its (List.toArray (p.toList.map λi=>its.getD i Value.none))
   have mem:∀i∈p.toList,i<rs.length:=λi hi=>by simpa using hp.mem_iff.mp hi
   have hd:ar X.K ι H' ((o4 rs).map λr=>D.lst (r.map D.int)) (p.toList.map λi=>vV.getD i .non):=by
    rw[<-Bu hp hu',AY]
    refine Aa λi hi=>?_
    have:=Kl hz' (i:=i) (by rw[AD];exact mem i hi)
    have e3:(rs.map λr=>D.lst (r.map D.int)).getD i .non=D.lst ((rs.getD i []).map D.int):=by simp[mem i hi]
    rw[e3]at this
    exact this
   have hv2:cz (p.toList.map λi=>vV.getD i .non) (p.toList.map λi=>its.getD i Value.none):=Ab λi hi=>jc rv i (by have:=mem i hi;lia)
   exact⟨.ref (s.heap.objs.size+1),upd H' (s.heap.objs.size+1) (.lst (p.toList.map λi=>vV.getD i .non)),I'.laid (t':=s.toks) (λb u e=>sortedAll_old e) (EF _) ⟨by rw[AD,BJ,hp.sz,Db];lia,_,e',hv2,he⟩,rfl,mq S' hd h' (I'.hok.fresh (EF _))⟩
 ·exact h.elim
theorem K0 {m:Mk} {p:Pos} {e:Expr} {es:List Expr} {xs:Exs} (hu:X.A.units+64<cLine) (hm:X.mg "sorted"=none) (ha:PA X (e::es) (tEs X.K φ xs)) (hg:Gl X "sorted":=by rfl) (he:starEach (e::es) X.env=(false,eval e X.env)::starEach es X.env:=by rfl) (hpl:(backTo pos (starEach es X.env)).any (·.1)=false:=by rfl) :
  PE X (.Call (.Name "sorted" p) (e::es) [] pos) (tE X.K φ (.blt .sortedL m xs)):=kj (r:=λ_ _ _=>True) (es:=es) (i9 (Hq hu) hg hm (by first | exact GB | decide +kernel) ha (by decide) (by decide) he hpl)
end
theorem aag {α:Type} {Q:α->Prop}:∀(j:Nat) e,([]:List α)[j]? = some e->Q e:=λj e h=>by simp at h
theorem d7 {α:Type} {Q:α->Prop} {a:α} {l:List α} (h:Q a) (t:∀(j:Nat) e,l[j]? = some e->Q e):∀(j:Nat) e,(a::l)[j]? = some e->Q e
 | 0,_,z=>by
  have z':some a=some _:=z
  cases z'
  exact h
 | j+1,_,z=>t j _ z
theorem dmk {T:List Df} {P:Program} {w:World} {K:PySem.W.Frag} {mg:Str->Option Value} {base:Heap} {es:List Ent} {e:Ent}
  (dv:∀(n:Nat) (fa:Addr) (cdv:Value) (A:Around) (outer:List Env) (s:Shared) (H:Hp) (E:XK),(A.deeper (envOfC e.name (c8 e.st) s.heap.objs.size fa cdv)).units+64<cLine ->
   (∀(j:Nat) e',es[j]? = some e'->Callee P w K mg base (A.deeper (envOfC e.name (c8 e.st) s.heap.objs.size fa cdv)) (ak T n) e'.id e'.name) ->
   PSs (Ni CX0 P w K mg base e.N e.name (c8 e.st) fa cdv A outer s H E).nox (nv e.st) (tSs K (ak T n) e.df.body))
  (sc:FnScope e.N e.ps (c8 e.st):=by exact⟨rfl,rfl,rfl,by decide +kernel,rfl,by decide +kernel,by decide +kernel⟩) (tb:T[e.id]? = some e.df:=by rfl) (np:e.df.np=e.ps.length:=by rfl) (nn:e.df.nn=e.N.length:=by rfl):Derived T P w K mg base es e:=⟨sc,tb,np,nn,dv⟩
abbrev qd:Nat:=2
abbrev dq:Nat:=3
abbrev ee:Nat:=4
abbrev i8:Nat:=5
abbrev n4:Nat:=6
abbrev wu:Nat:=13
abbrev dr:Nat:=34
abbrev ko:Nat:=37
abbrev ku:Nat:=38
abbrev n8:Nat:=39
abbrev ma:Nat:=41
abbrev dj:Nat:=42
abbrev cu:Nat:=53
abbrev fh:Nat:=54
abbrev cy:Nat:=55
abbrev g7:Nat:=56
abbrev sd:Nat:=57
abbrev ju:Nat:=58
abbrev jv:Nat:=59
abbrev n9:Nat:=60
abbrev ua:Nat:=61
abbrev wx:Nat:=62
abbrev gn:Nat:=64
abbrev nh:Nat:=65
abbrev qe:Nat:=66
abbrev fk:Nat:=73
abbrev fg:Nat:=110
abbrev gh:Nat:=111
abbrev ja:Nat:=112
abbrev wy:Nat:=115
abbrev jw:Nat:=142
abbrev md:Nat:=143
abbrev jd:Nat:=162
def D_can_burn:Df:=⟨3,6,(.cons (.unp [3,4,5] (.ix (.ix (.var 0) (.cst (.int 2))) (.var 1))) (.cons (.ret (.cmp (.var 2) (.cons .notin (.var 5) .nil))) .nil))⟩
def D_law_next:Df:=⟨1,1,(.cons (.ite (.cmp (.blt .len .z (.cons (.var 0) .nil)) (.cons .gt (.cst (.int 0)) .nil)) (.cons (.ret (.meth .pop (.var 0) .nil)) .nil) .nil) (.cons (.ret (.cst (.int 0))) .nil))⟩
def D_law_turn:Df:=⟨1,2,(.cons (.set 1 (.bin .Mod .z (.bin .Mult .z (.bin .Add .z (.bin .Mod .z (.var 0) (.bin .Pow .z (.cst (.int 10)) (.cst (.int 60)))) (.cst (.int 1))) (.cst (.int 69621))) (.cst (.int 2147483647)))) (.cons (.ret (.bin .FloorDiv .z (.bin .Mod .z (.bin .Mult .z (.var 1) (.var 1)) (.cst (.int 1000000007))) (.cst (.int 7)))) .nil))⟩
def D_law_size:Df:=⟨2,3,(.cons (.set 2 (.call false ee (.cons (.var 0) .nil))) (.cons (.ite (.cmp (.bin .Mod .z (.var 2) (.cst (.int 8))) (.cons .lt (.cst (.int 6)) .nil)) (.cons (.ret (.blt .min .z (.cons (.var 1) (.cons (.bin .Mod .z (.bin .FloorDiv .z (.var 2) (.cst (.int 8))) (.cst (.int 13))) .nil)))) .nil) .nil) (.cons (.ite (.cmp (.bin .Mod .z (.var 2) (.cst (.int 8))) (.cons .eq (.cst (.int 6)) .nil)) (.cons (.ret (.bin .Sub .z (.var 1) (.bin .Mod .z (.bin .FloorDiv .z (.var 2) (.cst (.int 8))) (.cst (.int 2))))) .nil) .nil) (.cons (.ret (.bin .Mod .z (.var 0) (.bin .Add .z (.var 1) (.cst (.int 1))))) .nil))))⟩
def D_law_whole:Df:=⟨1,1,(.cons (.ret (.and (.isi (.var 0) .int) (.not (.isi (.var 0) .bool)))) .nil)⟩
def nj:Ex:=(.cmp (.var 0) (.cons .lt (.var 1) .nil))
def D_rises:Df:=⟨1,1,(.cons (.ret (.blt .all .z (.cons (.comp .z [] 2 (.many [0,1]) (.zip (.var 0) (.sl .z (.var 0) (.so (.cst (.int 1))) .no)) .nil nj) .nil))) .nil)⟩
def gs:Sms:=(.cons (.setx (.var 2) (.var 3) (.bin .Sub .z (.bin .Add .z (.meth .get (.var 2) (.cons (.var 3) (.cons (.cst (.int 0)) .nil))) (.var 5)) (.var 4))) .nil)
def gu:Ex:=(.meth .get (.var 0) (.cons (.var 1) (.cons (.cst (.int 0)) .nil)))
def D_ticks_of_spans:Df:=⟨2,6,(.cons (.set 2 (.dic false .nil)) (.cons (.loop (.many [3,4,5]) (.seq (.var 1)) gs) (.cons (.ret (.blt .tuple .z (.cons (.comp .z [2] 1 (.one 1) (.rng (.var 0)) .nil gu) .nil))) .nil)))⟩
def D_law_share:Df:=⟨3,3,(.cons (.ite (.cmp (.bin .Mod .z (.var 0) (.cst (.int 4))) (.cons .lt (.cst (.int 2)) .nil)) (.cons (.ret (.bin .Add .z (.var 1) (.bin .Mod .z (.bin .Mult .z (.bin .FloorDiv .z (.var 0) (.cst (.int 4))) (.cst (.int 1000003))) (.bin .Add .z (.bin .Sub .z (.var 2) (.var 1)) (.cst (.int 1)))))) .nil) .nil) (.cons (.ret (.ix (.lst .z (.cons (.var 1) (.cons (.var 2) .nil))) (.bin .Mod .z (.var 0) (.cst (.int 2))))) .nil))⟩
def mv:Ex:=(.ix (.var 0) (.bin .Mod .z (.bin .Add .z (.var 2) (.var 1)) (.blt .len .z (.cons (.var 0) .nil))))
def mx:Sms:=(.cons (.set 8 (.blt .max .z (.cons (.cst (.int 0)) (.cons (.bin .Sub .z (.var 5) (.bin .Mult .z (.var 2) (.bin .Sub .z (.bin .Sub .z (.blt .len .z (.cons (.var 4) .nil)) (.var 7)) (.cst (.int 1))))) .nil)))) (.cons (.set 9 (.call false ko (.cons (.bin .Add .z (.bin .Add .z (.bin .FloorDiv .z (.var 0) (.cst (.int 8))) (.bin .Mult .z (.bin .Mult .z (.cst (.int 7919)) (.var 7)) (.var 7))) (.var 7)) (.cons (.var 8) (.cons (.blt .min .z (.cons (.var 2) (.cons (.var 5) .nil))) .nil))))) (.cons (.ex (.meth .append (.var 6) (.cons (.tup (.cons (.ix (.var 4) (.var 7)) (.cons (.var 9) .nil))) .nil))) (.cons (.set 5 (.bin .Sub .z (.var 5) (.var 9))) .nil))))
def D_law_ticks:Df:=⟨4,10,(.cons (.set 4 (.comp .z [1,0] 1 (.one 2) (.rng (.blt .len .z (.cons (.var 1) .nil))) .nil mv)) (.cons (.set 5 (.bin .Mult .z (.var 3) (.var 2))) (.cons (.set 6 (.lst .l .nil)) (.cons (.loop (.one 7) (.rng (.blt .len .z (.cons (.var 4) .nil))) mx) (.cons (.ret (.frz 6)) .nil)))))⟩
def fu:Sms:=(.cons (.set 6 (.bin .Add .z (.var 3) (.var 5))) (.cons (.ite (.cmp (.var 5) (.cons .gt (.cst (.int 0)) .nil)) (.cons (.ex (.meth .append (.var 2) (.cons (.tup (.cons (.var 4) (.cons (.var 3) (.cons (.blt .min .z (.cons (.var 6) (.cons (.var 0) .nil))) .nil)))) .nil))) .nil) .nil) (.cons (.ite (.cmp (.var 6) (.cons .gt (.var 0) .nil)) (.cons (.ex (.meth .append (.var 2) (.cons (.tup (.cons (.var 4) (.cons (.cst (.int 0)) (.cons (.bin .Sub .z (.var 6) (.var 0)) .nil)))) .nil))) .nil) .nil) (.cons (.set 3 (.bin .Mod .z (.var 6) (.var 0))) .nil))))
def D_law_spans:Df:=⟨2,7,(.cons (.set 2 (.lst .l .nil)) (.cons (.set 3 (.cst (.int 0))) (.cons (.loop (.many [4,5]) (.seq (.var 1)) fu) (.cons (.ret (.blt .tuple .z (.cons (.blt .sorted .z (.cons (.var 2) .nil)) .nil))) .nil))))⟩
def g8:Exs:=(.cons (.cmp (.var 0) (.cons .notin (.ix (.ix (.var 1) (.cst (.int 2))) (.var 2)) .nil)) .nil)
def g9:Ex:=(.var 2)
def ky:Sms:=(.cons (.set 4 (.comp .z [3,1] 1 (.one 2) (.rng (.ix (.var 1) (.cst (.int 0)))) g8 g9)) (.cons (.set 5 (.blt .max .z (.cons (.cst (.int 1)) (.cons (.call false i8 (.cons (.call false dq (.cons (.var 0) .nil)) (.cons (.bin .Pow .z (.cst (.int 10)) (.cst (.int 15))) .nil))) .nil)))) (.cons (.set 6 (.call false ee (.cons (.call false dq (.cons (.var 0) .nil)) .nil))) (.cons (.set 7 (.bin .Mod .z (.var 6) (.bin .Add .z (.blt .len .z (.cons (.var 4) .nil)) (.cst (.int 1))))) (.cons (.set 8 (.lst .z .nil)) (.cons (.ite (.cmp (.blt .len .z (.cons (.var 4) .nil)) (.cons .gt (.cst (.int 0)) .nil)) (.cons (.set 8 (.call false ku (.cons (.bin .FloorDiv .z (.var 6) (.cst (.int 16))) (.cons (.var 4) (.cons (.var 5) (.cons (.var 7) .nil)))))) .nil) .nil) (.cons (.ex (.meth .append (.var 2) (.cons (.tup (.cons (.var 5) (.cons (.var 7) (.cons (.var 8) (.cons (.call false n8 (.cons (.var 5) (.cons (.var 8) .nil))) .nil))))) .nil))) .nil)))))))
def D_law_nights:Df:=⟨2,9,(.cons (.set 2 (.lst .l .nil)) (.cons (.loop (.one 3) (.rng (.ix (.var 1) (.cst (.int 1)))) ky) (.cons (.ret (.frz 2)) .nil)))⟩
def D_law_slack:Df:=⟨1,2,(.cons (.set 1 (.call false ee (.cons (.call false dq (.cons (.var 0) .nil)) .nil))) (.cons (.ite (.cmp (.bin .Mod .z (.var 1) (.cst (.int 3))) (.cons .lt (.cst (.int 2)) .nil)) (.cons (.ret (.cst (.int 0))) .nil) .nil) (.cons (.ret (.bin .Mod .z (.bin .FloorDiv .z (.var 1) (.cst (.int 3))) (.cst (.int 7)))) .nil)))⟩
def D_have_tick_in_common:Df:=⟨2,2,(.cons (.ret (.and (.cmp (.ix (.var 0) (.cst (.int 0))) (.cons .eq (.ix (.var 1) (.cst (.int 0))) .nil)) (.cmp (.ix (.var 1) (.cst (.int 1))) (.cons .lt (.ix (.var 0) (.cst (.int 2))) .nil)))) .nil)⟩
def a7:Sms:=(.cons (.ite (.not (.and (.cmp (.cst (.int 0)) (.cons .le (.var 3) (.cons .lt (.var 1) .nil))) (.cmp (.cst (.int 0)) (.cons .le (.var 4) (.cons .lt (.var 5) (.cons .le (.var 0) .nil)))))) (.cons (.ret (.cst (.bl true))) .nil) .nil) .nil)
def dk:Ex:=(.call false cu (.cons (.var 0) (.cons (.var 1) .nil)))
def D_has_span_fault:Df:=⟨3,6,(.cons (.loop (.many [3,4,5]) (.seq (.var 2)) a7) (.cons (.ret (.or (.not (.call false wu (.cons (.var 2) .nil))) (.blt .any .z (.cons (.comp .z [] 2 (.many [0,1]) (.zip (.var 2) (.sl .z (.var 2) (.so (.cst (.int 1))) .no)) .nil dk) .nil)))) .nil))⟩
def gv:Sms:=(.cons (.setx (.var 3) (.var 5) (.bin .Add .z (.meth .get (.var 3) (.cons (.var 5) (.cons (.cst (.int 0)) .nil))) (.cst (.int 1)))) (.cons (.setx (.var 3) (.var 6) (.bin .Sub .z (.meth .get (.var 3) (.cons (.var 6) (.cons (.cst (.int 0)) .nil))) (.cst (.int 1)))) .nil))
def gx:Ex:=(.cmp (.var 0) (.cons .ne (.cst (.int 0)) .nil))
def D_has_dark_fault:Df:=⟨3,7,(.cons (.set 3 (.dic false (.cons (.cst (.int 0)) (.cons (.neg (.var 1)) (.cons (.var 0) (.cons (.var 1) .nil)))))) (.cons (.loop (.many [4,5,6]) (.seq (.var 2)) gv) (.cons (.ret (.blt .any .z (.cons (.comp .z [] 1 (.one 0) (.vals (.var 3)) .nil gx) .nil))) .nil)))⟩
def h9:Ex:=(.var 1)
def D_held_at_first:Df:=⟨1,1,(.cons (.ret (.tup (.cons (.ix (.var 0) (.cst (.int 1))) (.cons (.blt .tuple .z (.cons (.comp .z [] 3 (.many [0,1,2]) (.seq (.ix (.var 0) (.cst (.int 2)))) .nil h9) .nil)) .nil)))) .nil)⟩
def rl:Ex:=(.bin .Add .z (.var 0) (.var 1))
def D_filled:Df:=⟨2,2,(.cons (.ret (.blt .tuple .z (.cons (.comp .z [] 2 (.many [0,1]) (.zip (.var 0) (.var 1)) .nil rl) .nil))) .nil)⟩
def jk:Ex:=(.bin .Sub .z (.var 0) (.var 1))
def D_held_behind:Df:=⟨3,11,(.cons (.unp [3,4] (.var 1)) (.cons (.unp [5,6,7,8] (.var 2)) (.cons (.set 9 (.bin .Sub .z (.bin .Add .z (.bin .Add .z (.var 3) (.var 5)) (.var 6)) (.blt .sum .z (.cons (.var 7) .nil)))) (.cons (.set 10 (.call false dr (.cons (.blt .len .z (.cons (.var 4) .nil)) (.cons (.var 8) .nil)))) (.cons (.ret (.tup (.cons (.blt .min .z (.cons (.var 9) (.cons (.ix (.var 0) (.cst (.int 0))) .nil))) (.cons (.blt .tuple .z (.cons (.comp .z [] 2 (.many [0,1]) (.zip (.call false sd (.cons (.var 4) (.cons (.var 7) .nil))) (.var 10)) .nil jk) .nil)) .nil)))) .nil)))))⟩
def jl:Ex:=(.not (.call false qd (.cons (.var 0) (.cons (.var 2) (.cons (.var 1) .nil)))))
def jm:Ex:=(.cmp (.var 0) (.cons .gt (.var 1) .nil))
def D_night_fault:Df:=⟨4,10,(.cons (.unp [4,5,6,7,8] (.ix (.ix (.var 0) (.cst (.int 3))) (.var 1))) (.cons (.ite (.call false fh (.cons (.var 7) (.cons (.blt .len .z (.cons (.var 2) .nil)) (.cons (.var 3) .nil)))) (.cons (.ret (.cst (.str (PySem.Str.ofString "span")))) .nil) .nil) (.cons (.ite (.blt .any .z (.cons (.comp .z [0,1] 3 (.many [2,3,4]) (.seq (.var 3)) .nil jl) .nil)) (.cons (.ret (.cst (.str (PySem.Str.ofString "away")))) .nil) .nil) (.cons (.set 9 (.call false dr (.cons (.blt .len .z (.cons (.var 2) .nil)) (.cons (.var 3) .nil)))) (.cons (.ite (.blt .any .z (.cons (.comp .z [] 2 (.many [0,1]) (.zip (.var 9) (.var 2)) .nil jm) .nil)) (.cons (.ret (.cst (.str (PySem.Str.ofString "oil")))) .nil) .nil) (.cons (.ite (.call false cy (.cons (.var 7) (.cons (.var 8) (.cons (.var 3) .nil)))) (.cons (.ret (.cst (.str (PySem.Str.ofString "dark")))) .nil) .nil) (.cons (.ret (.cst .non)) .nil)))))))⟩
def my:Ex:=(.cmp (.var 0) (.cons .gt (.ix (.var 1) (.cst (.int 0))) .nil))
def D_day_fault:Df:=⟨4,16,(.cons (.unp [4,5,6,7,8] (.ix (.ix (.var 0) (.cst (.int 3))) (.var 1))) (.cons (.unp [9,10] (.var 2)) (.cons (.unp [11,12,13,14] (.var 3)) (.cons (.ite (.not (.cmp (.cst (.int 0)) (.cons .le (.var 11) (.cons .le (.var 4) .nil)))) (.cons (.ret (.cst (.str (PySem.Str.ofString "boat")))) .nil) .nil) (.cons (.ite (.not (.cmp (.cst (.int 0)) (.cons .le (.var 12) (.cons .le (.var 5) .nil)))) (.cons (.ret (.cst (.str (PySem.Str.ofString "market")))) .nil) .nil) (.cons (.ite (.or (.cmp (.blt .min1 .z (.cons (.var 13) .nil)) (.cons .lt (.cst (.int 0)) .nil)) (.cmp (.blt .sum .z (.cons (.var 13) .nil)) (.cons .gt (.bin .Add .z (.bin .Add .z (.var 9) (.var 11)) (.var 12)) .nil))) (.cons (.ret (.cst (.str (PySem.Str.ofString "pour")))) .nil) .nil) (.cons (.set 15 (.call false sd (.cons (.var 10) (.cons (.var 13) .nil)))) (.cons (.ite (.blt .any .z (.cons (.comp .z [] 2 (.many [0,1]) (.zip (.var 15) (.ix (.var 0) (.cst (.int 2)))) .nil my) .nil)) (.cons (.ret (.cst (.str (PySem.Str.ofString "tank")))) .nil) .nil) (.cons (.ret (.call false jv (.cons (.var 0) (.cons (.var 1) (.cons (.var 15) (.cons (.var 14) .nil)))))) .nil)))))))))⟩
def qf:Sms:=(.cons (.set 5 (.call false n9 (.cons (.var 0) (.cons (.var 3) (.cons (.var 2) (.cons (.var 4) .nil)))))) (.cons (.ite (.cmp (.var 5) (.cons .isnot (.cst .non) .nil)) (.cons (.ret (.tup (.cons (.var 3) (.cons (.var 5) .nil)))) .nil) .nil) (.cons (.set 2 (.call false ju (.cons (.var 0) (.cons (.var 2) (.cons (.var 4) .nil))))) .nil)))
def D_fault:Df:=⟨2,6,(.cons (.set 2 (.call false g7 (.cons (.var 0) .nil))) (.cons (.loop (.many [3,4]) (.enum (.var 1)) qf) (.cons (.ret (.cst .non)) .nil)))⟩
def D_keeps:Df:=⟨2,2,(.cons (.ret (.cmp (.call false ua (.cons (.var 0) (.cons (.var 1) .nil))) (.cons .is (.cst .non) .nil))) .nil)⟩
def ck:Sms:=(.cons (.ite (.or (.cmp (.var 7) (.cons .ge (.ix (.var 2) (.var 3)) .nil)) (.and (.cmp (.ix (.var 7) (.cst (.int 0))) (.cons .eq (.var 4) .nil)) (.and (.cmp (.ix (.var 7) (.cst (.int 1))) (.cons .lt (.var 6) .nil)) (.cmp (.var 5) (.cons .lt (.ix (.var 7) (.cst (.int 2))) .nil))))) (.cons (.ret (.cst (.bl true))) .nil) .nil) .nil)
def bq:Sms:=(.cons (.unp [4,5,6] (.ix (.var 2) (.var 3))) (.cons (.ite (.or (.not (.cmp (.cst (.int 0)) (.cons .le (.var 4) (.cons .lt (.var 1) .nil)))) (.not (.cmp (.cst (.int 0)) (.cons .le (.var 5) (.cons .lt (.var 6) (.cons .le (.var 0) .nil)))))) (.cons (.ret (.cst (.bl true))) .nil) .nil) (.cons (.loop (.one 7) (.seq (.sl .z (.var 2) .no (.so (.var 3)))) ck) .nil)))
def D_law_span_bad:Df:=⟨3,8,(.cons (.loop (.one 3) (.rng (.blt .len .z (.cons (.var 2) .nil))) bq) (.cons (.ret (.cst (.bl false))) .nil))⟩
def oa:Ex:=(.ix (.var 0) (.cst (.int 1)))
def og:Ex:=(.ix (.var 0) (.cst (.int 2)))
def ic:Exs:=(.cons (.and (.cmp (.ix (.var 1) (.cst (.int 1))) (.cons .le (.var 0) .nil)) (.cmp (.var 0) (.cons .lt (.ix (.var 1) (.cst (.int 2))) .nil))) .nil)
def ie:Ex:=(.var 1)
def ig:Sms:=(.cons (.ite (.cmp (.var 4) (.cons .lt (.var 0) .nil)) (.cons (.ite (.cmp (.blt .len .z (.cons (.comp .z [4] 1 (.one 1) (.seq (.var 2)) ic ie) .nil)) (.cons .ne (.var 1) .nil)) (.cons (.ret (.cst (.bl true))) .nil) .nil) .nil) .nil) .nil)
def D_law_dark:Df:=⟨3,5,(.cons (.set 3 (.blt .sortedSet .z (.cons (.bin .Add .z (.bin .Add .z (.lst .z (.cons (.cst (.int 0)) .nil)) (.comp .z [] 1 (.one 0) (.seq (.var 2)) .nil oa)) (.comp .z [] 1 (.one 0) (.seq (.var 2)) .nil og)) .nil))) (.cons (.loop (.one 4) (.seq (.var 3)) ig) (.cons (.ret (.cst (.bl false))) .nil)))⟩
def jx:Exs:=(.cons (.cmp (.var 0) (.cons .lt (.cst (.int 0)) .nil)) .nil)
def jy:Ex:=(.var 0)
def oh:Ex:=(.bin .Add .z (.ix (.var 0) (.var 2)) (.ix (.var 1) (.var 2)))
def jz:Exs:=(.cons (.cmp (.ix (.var 0) (.var 2)) (.cons .gt (.ix (.ix (.ix (.var 1) (.cst (.int 2))) (.var 2)) (.cst (.int 0))) .nil)) .nil)
def j0:Ex:=(.var 2)
def j4:Exs:=(.cons (.cmp (.var 0) (.cons .in_ (.ix (.ix (.ix (.var 1) (.cst (.int 2))) (.ix (.var 2) (.cst (.int 0)))) (.cst (.int 2))) .nil)) .nil)
def j5:Ex:=(.var 2)
def j6:Exs:=(.cons (.cmp (.ix (.var 1) (.cst (.int 0))) (.cons .eq (.var 0) .nil)) .nil)
def j7:Ex:=(.bin .Sub .z (.ix (.var 1) (.cst (.int 2))) (.ix (.var 1) (.cst (.int 1))))
def j8:Sms:=(.cons (.ite (.cmp (.blt .sum .z (.cons (.comp .z [15] 1 (.one 1) (.seq (.var 13)) j6 j7) .nil)) (.cons .gt (.ix (.var 14) (.var 15)) .nil)) (.cons (.ret (.cst (.str (PySem.Str.ofString "oil")))) .nil) .nil) .nil)
def D_law_word:Df:=⟨5,16,(.cons (.unp [5,6,7,8,9] (.ix (.ix (.var 0) (.cst (.int 3))) (.var 1))) (.cons (.unp [10,11,12,13] (.var 4)) (.cons (.ite (.or (.cmp (.var 10) (.cons .lt (.cst (.int 0)) .nil)) (.cmp (.var 10) (.cons .gt (.var 5) .nil))) (.cons (.ret (.cst (.str (PySem.Str.ofString "boat")))) .nil) .nil) (.cons (.ite (.or (.cmp (.var 11) (.cons .lt (.cst (.int 0)) .nil)) (.cmp (.var 11) (.cons .gt (.var 6) .nil))) (.cons (.ret (.cst (.str (PySem.Str.ofString "market")))) .nil) .nil) (.cons (.ite (.or (.cmp (.blt .len .z (.cons (.comp .z [] 1 (.one 0) (.seq (.var 12)) jx jy) .nil)) (.cons .gt (.cst (.int 0)) .nil)) (.cmp (.blt .sum .z (.cons (.var 12) .nil)) (.cons .gt (.bin .Add .z (.bin .Add .z (.var 2) (.var 10)) (.var 11)) .nil))) (.cons (.ret (.cst (.str (PySem.Str.ofString "pour")))) .nil) .nil) (.cons (.set 14 (.comp .z [3,12] 1 (.one 2) (.rng (.blt .len .z (.cons (.var 3) .nil))) .nil oh)) (.cons (.ite (.cmp (.blt .len .z (.cons (.comp .z [14,0] 1 (.one 2) (.rng (.blt .len .z (.cons (.var 14) .nil))) jz j0) .nil)) (.cons .gt (.cst (.int 0)) .nil)) (.cons (.ret (.cst (.str (PySem.Str.ofString "tank")))) .nil) .nil) (.cons (.ite (.call false gn (.cons (.var 8) (.cons (.blt .len .z (.cons (.var 3) .nil)) (.cons (.var 13) .nil)))) (.cons (.ret (.cst (.str (PySem.Str.ofString "span")))) .nil) .nil) (.cons (.ite (.cmp (.blt .len .z (.cons (.comp .z [1,0] 1 (.one 2) (.seq (.var 13)) j4 j5) .nil)) (.cons .gt (.cst (.int 0)) .nil)) (.cons (.ret (.cst (.str (PySem.Str.ofString "away")))) .nil) .nil) (.cons (.loop (.one 15) (.rng (.blt .len .z (.cons (.var 14) .nil))) j8) (.cons (.ite (.call false nh (.cons (.var 8) (.cons (.var 9) (.cons (.var 13) .nil)))) (.cons (.ret (.cst (.str (PySem.Str.ofString "dark")))) .nil) .nil) (.cons (.ret (.cst (.str (PySem.Str.ofString "")))) .nil))))))))))))⟩
def D_law_same_fault:Df:=⟨2,2,(.cons (.ite (.cmp (.var 1) (.cons .is (.cst .non) .nil)) (.cons (.ret (.cmp (.var 0) (.cons .is (.cst .non) .nil))) .nil) .nil) (.cons (.ite (.or (.not (.isi (.var 0) .tuple)) (.or (.cmp (.blt .len .z (.cons (.var 0) .nil)) (.cons .ne (.cst (.int 2)) .nil)) (.not (.call false n4 (.cons (.ix (.var 0) (.cst (.int 0))) .nil))))) (.cons (.ret (.cst (.bl false))) .nil) .nil) (.cons (.ret (.and (.isi (.ix (.var 0) (.cst (.int 1))) .str) (.cmp (.var 0) (.cons .eq (.var 1) .nil)))) .nil)))⟩
def D_law_other:Df:=⟨3,4,(.cons (.set 3 (.bin .Mod .z (.bin .FloorDiv .z (.var 1) (.cst (.int 8))) (.bin .Pow .z (.cst (.int 10)) (.cst (.int 9))))) (.cons (.ret (.ix (.lst .z (.cons (.bin .Sub .z (.var 0) (.cst (.int 1))) (.cons (.bin .Add .z (.var 0) (.cst (.int 1))) (.cons (.neg (.cst (.int 1))) (.cons (.bin .Add .z (.var 2) (.cst (.int 1))) (.cons (.var 2) (.cons (.bin .Sub .z (.neg (.cst (.int 1))) (.var 3)) (.cons (.bin .Add .z (.var 0) (.var 3)) (.cons (.cst (.int 0)) .nil))))))))) (.bin .Mod .z (.var 1) (.cst (.int 8))))) .nil))⟩
def c7:Ex:=(.blt .list .l (.cons (.var 0) .nil))
def jr:Ex:=(.blt .tuple .z (.cons (.var 0) .nil))
def d9:Ex:=(.blt .tuple .z (.cons (.var 0) .nil))
def D_law_span_spoilt:Df:=⟨4,7,(.cons (.set 0 (.comp .r [] 1 (.one 0) (.seq (.var 0)) .nil c7)) (.cons (.set 4 (.bin .Mod .z (.var 1) (.cst (.int 8)))) (.cons (.set 5 (.bin .FloorDiv .z (.var 1) (.cst (.int 8)))) (.cons (.ite (.or (.cmp (.blt .len .z (.cons (.var 0) .nil)) (.cons .eq (.cst (.int 0)) .nil)) (.cmp (.var 4) (.cons .eq (.cst (.int 0)) .nil))) (.cons (.ex (.meth .append (.var 0) (.cons (.lst .l (.cons (.bin .Mod .z (.var 5) (.var 3)) (.cons (.cst (.int 0)) (.cons (.bin .Add .z (.cst (.int 1)) (.bin .Mod .z (.bin .FloorDiv .z (.var 5) (.cst (.int 8))) (.var 2))) .nil)))) .nil))) (.cons (.ret (.blt .sorted .z (.cons (.comp .z [] 1 (.one 0) (.seq (.var 0)) .nil jr) .nil))) .nil)) .nil) (.cons (.set 6 (.ix (.var 0) (.bin .Mod .z (.var 5) (.blt .len .z (.cons (.var 0) .nil))))) (.cons (.ite (.cmp (.var 4) (.cons .eq (.cst (.int 1)) .nil)) (.cons (.ex (.meth .remove (.var 0) (.cons (.var 6) .nil))) .nil) (.cons (.ite (.cmp (.var 4) (.cons .eq (.cst (.int 2)) .nil)) (.cons (.setx (.var 6) (.cst (.int 0)) (.ix (.lst .z (.cons (.neg (.cst (.int 1))) (.cons (.var 3) (.cons (.bin .Add .z (.ix (.var 6) (.cst (.int 0))) (.cst (.int 1))) (.cons (.cst (.int 0)) .nil))))) (.bin .Mod .z (.bin .FloorDiv .z (.var 5) (.cst (.int 8))) (.cst (.int 4))))) .nil) (.cons (.ite (.cmp (.var 4) (.cons .eq (.cst (.int 3)) .nil)) (.cons (.setx (.var 6) (.cst (.int 1)) (.call false fg (.cons (.ix (.var 6) (.cst (.int 1))) (.cons (.bin .FloorDiv .z (.var 5) (.cst (.int 8))) (.cons (.var 2) .nil))))) .nil) (.cons (.ite (.cmp (.var 4) (.cons .eq (.cst (.int 4)) .nil)) (.cons (.setx (.var 6) (.cst (.int 2)) (.call false fg (.cons (.ix (.var 6) (.cst (.int 2))) (.cons (.bin .FloorDiv .z (.var 5) (.cst (.int 8))) (.cons (.var 2) .nil))))) .nil) (.cons (.ite (.cmp (.var 4) (.cons .eq (.cst (.int 5)) .nil)) (.cons (.ex (.meth .insert (.var 0) (.cons (.bin .Mod .z (.bin .FloorDiv .z (.var 5) (.cst (.int 8))) (.bin .Add .z (.blt .len .z (.cons (.var 0) .nil)) (.cst (.int 1)))) (.cons (.blt .list .l (.cons (.var 6) .nil)) .nil)))) .nil) (.cons (.ite (.cmp (.var 4) (.cons .eq (.cst (.int 6)) .nil)) (.cons (.ex (.meth .reverse (.var 0) .nil)) .nil) (.cons (.ex (.meth .append (.var 0) (.cons (.lst .l (.cons (.ix (.var 6) (.cst (.int 0))) (.cons (.ix (.var 6) (.cst (.int 1))) (.cons (.bin .Add .z (.ix (.var 6) (.cst (.int 1))) (.bin .FloorDiv .z (.bin .Sub .z (.ix (.var 6) (.cst (.int 2))) (.ix (.var 6) (.cst (.int 1)))) (.cst (.int 2)))) .nil)))) .nil))) (.cons (.setx (.var 6) (.cst (.int 1)) (.bin .Add .z (.ix (.var 6) (.cst (.int 1))) (.bin .FloorDiv .z (.bin .Sub .z (.ix (.var 6) (.cst (.int 2))) (.ix (.var 6) (.cst (.int 1)))) (.cst (.int 2))))) (.cons (.set 0 (.blt .sortedL .l (.cons (.var 0) .nil))) .nil)))) .nil)) .nil)) .nil)) .nil)) .nil)) (.cons (.ret (.comp .z [] 1 (.one 0) (.seq (.var 0)) .nil d9)) .nil)))))))⟩
def D_law_spoilt_2:Df:=⟨3,17,(.cons (.set 3 (.bin .Mod .z (.bin .FloorDiv .z (.var 2) (.cst (.int 8))) (.blt .len .z (.cons (.var 1) .nil)))) (.cons (.set 4 (.bin .FloorDiv .z (.var 2) (.cst (.int 128)))) (.cons (.unp [5,6,7,8] (.ix (.var 1) (.var 3))) (.cons (.unp [9,10,11,12,13] (.ix (.ix (.var 0) (.cst (.int 3))) (.var 3))) (.cons (.set 7 (.blt .list .l (.cons (.var 7) .nil))) (.cons (.set 14 (.blt .list .l (.cons (.ix (.var 0) (.cst (.int 2))) .nil))) (.cons (.set 15 (.bin .Mod .z (.var 4) (.blt .len .z (.cons (.var 14) .nil)))) (.cons (.ite (.cmp (.bin .Mod .z (.var 2) (.cst (.int 8))) (.cons .eq (.cst (.int 0)) .nil)) (.cons (.set 5 (.call false fg (.cons (.var 5) (.cons (.var 4) (.cons (.var 9) .nil))))) .nil) (.cons (.ite (.cmp (.bin .Mod .z (.var 2) (.cst (.int 8))) (.cons .eq (.cst (.int 1)) .nil)) (.cons (.set 6 (.call false fg (.cons (.var 6) (.cons (.var 4) (.cons (.var 10) .nil))))) .nil) (.cons (.ite (.or (.cmp (.bin .Mod .z (.var 2) (.cst (.int 8))) (.cons .eq (.cst (.int 2)) .nil)) (.cmp (.bin .Mod .z (.var 2) (.cst (.int 8))) (.cons .eq (.cst (.int 3)) .nil))) (.cons (.setx (.var 7) (.var 15) (.call false fg (.cons (.ix (.var 7) (.var 15)) (.cons (.bin .FloorDiv .z (.var 4) (.cst (.int 8))) (.cons (.ix (.ix (.var 14) (.var 15)) (.cst (.int 0))) .nil))))) .nil) (.cons (.ite (.cmp (.bin .Mod .z (.var 2) (.cst (.int 8))) (.cons .eq (.cst (.int 4)) .nil)) (.cons (.setx (.var 14) (.var 15) (.tup (.cons (.ix (.ix (.var 14) (.var 15)) (.cst (.int 0))) (.cons (.ix (.ix (.var 14) (.var 15)) (.cst (.int 1))) (.cons (.blt .tuple .z (.cons (.blt .sortedSet .z (.cons (.bin .Add .z (.ix (.ix (.var 14) (.var 15)) (.cst (.int 2))) (.tup (.cons (.var 3) .nil))) .nil)) .nil)) .nil))))) .nil) (.cons (.ite (.cmp (.bin .Mod .z (.var 2) (.cst (.int 8))) (.cons .eq (.cst (.int 5)) .nil)) (.cons (.set 16 (.blt .max .z (.cons (.cst (.int 0)) (.cons (.call false fg (.cons (.ix (.ix (.var 14) (.var 15)) (.cst (.int 0))) (.cons (.bin .FloorDiv .z (.var 4) (.cst (.int 8))) (.cons (.cst (.int 0)) .nil)))) .nil)))) (.cons (.setx (.var 14) (.var 15) (.tup (.cons (.blt .min .z (.cons (.var 16) (.cons (.bin .Pow .z (.cst (.int 10)) (.cst (.int 30))) .nil))) (.cons (.blt .min .z (.cons (.var 16) (.cons (.ix (.ix (.var 14) (.var 15)) (.cst (.int 1))) .nil))) (.cons (.ix (.ix (.var 14) (.var 15)) (.cst (.int 2))) .nil))))) .nil)) (.cons (.set 8 (.call false gh (.cons (.var 8) (.cons (.var 4) (.cons (.var 12) (.cons (.blt .len .z (.cons (.var 14) .nil)) .nil)))))) .nil)) .nil)) .nil)) .nil)) .nil)) (.cons (.set 1 (.bin .Add .z (.bin .Add .z (.sl .z (.var 1) .no (.so (.var 3))) (.tup (.cons (.tup (.cons (.var 5) (.cons (.var 6) (.cons (.blt .tuple .z (.cons (.var 7) .nil)) (.cons (.blt .tuple .z (.cons (.var 8) .nil)) .nil))))) .nil))) (.sl .z (.var 1) (.so (.bin .Add .z (.var 3) (.cst (.int 1)))) .no))) (.cons (.ret (.tup (.cons (.tup (.cons (.ix (.var 0) (.cst (.int 0))) (.cons (.ix (.var 0) (.cst (.int 1))) (.cons (.blt .tuple .z (.cons (.var 14) .nil)) (.cons (.ix (.var 0) (.cst (.int 3))) .nil))))) (.cons (.var 1) .nil)))) .nil))))))))))⟩
def me:Sms:=(.cons (.unp [1,2] (.call false ja (.cons (.var 1) (.cons (.var 2) (.cons (.call false ee (.cons (.bin .Add .z (.ix (.var 3) (.var 4)) (.bin .Mult .z (.cst (.int 7919)) (.var 4))) .nil)) .nil))))) (.cons (.set 5 (.ix (.call false jd (.cons (.var 1) (.cons (.var 2) .nil))) (.cst (.int 0)))) (.cons (.ite (.not (.call false fk (.cons (.call false ua (.cons (.var 1) (.cons (.var 2) .nil))) (.cons (.var 5) .nil)))) (.cons (.ret (.cst (.bl false))) .nil) .nil) (.cons (.set 6 (.call false wx (.cons (.var 1) (.cons (.var 2) .nil)))) (.cons (.ite (.or (.not (.isi (.var 6) .bool)) (.cmp (.var 6) (.cons .ne (.cmp (.var 5) (.cons .is (.cst .non) .nil)) .nil))) (.cons (.ret (.cst (.bl false))) .nil) .nil) .nil)))))
def D_law_k08:Df:=⟨1,7,(.cons (.unp [1,2] (.call false md (.cons (.blt .listRev .l (.cons (.var 0) .nil)) .nil))) (.cons (.set 3 (.bin .Add .z (.sl .z (.var 0) (.so (.neg (.cst (.int 3)))) .no) (.lst .z (.cons (.cst (.int 0)) .nil)))) (.cons (.loop (.one 4) (.rng (.blt .len .z (.cons (.var 3) .nil))) me) (.cons (.ret (.cst (.bl true))) .nil))))⟩
def fm:Exs:=(.cons (.and (.cmp (.bin .Mod .z (.var 0) (.cst (.int 3))) (.cons .eq (.cst (.int 1)) .nil)) (.cmp (.bin .Mod .z (.bin .RShift .z (.var 0) (.bin .Add .z (.var 1) (.cst (.int 2)))) (.cst (.int 2))) (.cons .eq (.cst (.int 1)) .nil))) .nil)
def ft:Ex:=(.var 1)
def gq:Sms:=(.cons (.set 6 (.call false ee (.cons (.call false dq (.cons (.var 0) .nil)) .nil))) (.cons (.ex (.meth .append (.var 4) (.cons (.comp .z [6] 1 (.one 1) (.rng (.var 3)) fm ft) .nil))) .nil))
def D_law_frame_2:Df:=⟨1,7,(.cons (.set 1 (.call false ee (.cons (.call false dq (.cons (.var 0) .nil)) .nil))) (.cons (.set 2 (.bin .Add .z (.cst (.int 1)) (.bin .Mod .z (.var 1) (.cst (.int 3))))) (.cons (.set 3 (.bin .Add .z (.cst (.int 1)) (.bin .Mod .z (.bin .FloorDiv .z (.var 1) (.cst (.int 3))) (.cst (.int 4))))) (.cons (.ite (.cmp (.bin .Mod .z (.bin .FloorDiv .z (.var 1) (.cst (.int 12))) (.cst (.int 7))) (.cons .eq (.cst (.int 1)) .nil)) (.cons (.set 2 (.bin .Add .z (.cst (.int 1)) (.bin .Mod .z (.bin .FloorDiv .z (.var 1) (.cst (.int 84))) (.cst (.int 8))))) (.cons (.set 3 (.bin .Add .z (.cst (.int 1)) (.bin .Mod .z (.bin .FloorDiv .z (.var 1) (.cst (.int 672))) (.cst (.int 16))))) .nil)) .nil) (.cons (.set 4 (.lst .l .nil)) (.cons (.loop (.one 5) (.rng (.var 2)) gq) (.cons (.ret (.tup (.cons (.var 2) (.cons (.var 3) (.cons (.frz 4) .nil))))) .nil)))))))⟩
def k6:Ex:=(.call false dj (.cons (.var 0) .nil))
def k7:Ex:=(.cst (.int 0))
def k9:Sms:=(.cons (.setx (.var 15) (.var 16) (.var 17)) .nil)
def lb:Ex:=(.bin .Add .z (.blt .max .z (.cons (.cst (.int 0)) (.cons (.bin .Sub .z (.ix (.var 0) (.var 3)) (.ix (.var 1) (.var 3))) .nil))) (.call false dj (.cons (.var 2) .nil)))
def lg:Ex:=(.bin .Add .z (.ix (.var 0) (.var 2)) (.ix (.var 1) (.var 2)))
def lh:Ex:=(.blt .max .z (.cons (.ix (.var 0) (.var 2)) (.cons (.ix (.var 1) (.var 2)) .nil)))
def lj:Ex:=(.bin .Sub .z (.ix (.var 0) (.var 2)) (.ix (.var 1) (.var 2)))
def ij:Sms:=(.cons (.set 15 (.comp .l [] 1 (.one 0) (.rng (.ix (.var 1) (.cst (.int 0)))) .nil k7)) (.cons (.loop (.many [16,17]) (.seq (.var 13)) k9) (.cons (.set 18 (.comp .z [15,6,0] 1 (.one 3) (.rng (.ix (.var 1) (.cst (.int 0)))) .nil lb)) (.cons (.set 19 (.bin .Add .z (.blt .max .z (.cons (.cst (.int 0)) (.cons (.bin .Sub .z (.blt .sum .z (.cons (.var 18) .nil)) (.var 10)) .nil))) (.call false dj (.cons (.var 0) .nil)))) (.cons (.set 20 (.call false ko (.cons (.call false ee (.cons (.call false dq (.cons (.var 0) .nil)) .nil)) (.cons (.cst (.int 0)) (.cons (.var 19) .nil))))) (.cons (.set 6 (.comp .z [6,18] 1 (.one 2) (.rng (.ix (.var 1) (.cst (.int 0)))) .nil lg)) (.cons (.set 7 (.comp .z [7,6] 1 (.one 2) (.rng (.ix (.var 1) (.cst (.int 0)))) .nil lh)) (.cons (.set 6 (.comp .z [6,15] 1 (.one 2) (.rng (.ix (.var 1) (.cst (.int 0)))) .nil lj)) (.cons (.set 10 (.blt .min .z (.cons (.var 3) (.cons (.bin .Sub .z (.bin .Add .z (.var 10) (.var 19)) (.blt .sum .z (.cons (.var 18) .nil))) .nil)))) (.cons (.set 21 (.call false i8 (.cons (.call false dq (.cons (.var 0) .nil)) (.cons (.bin .Pow .z (.cst (.int 10)) (.cst (.int 15))) .nil)))) (.cons (.ex (.meth .append (.var 8) (.cons (.tup (.cons (.bin .Add .z (.var 20) (.call false dj (.cons (.var 0) .nil))) (.cons (.bin .Add .z (.bin .Sub .z (.var 19) (.var 20)) (.call false dj (.cons (.var 0) .nil))) (.cons (.var 21) (.cons (.var 11) (.cons (.var 12) .nil)))))) .nil))) (.cons (.ex (.meth .append (.var 9) (.cons (.tup (.cons (.var 20) (.cons (.bin .Sub .z (.var 19) (.var 20)) (.cons (.blt .tuple .z (.cons (.var 18) .nil)) (.cons (.var 14) .nil))))) .nil))) .nil))))))))))))
def lq:Sms:=(.cons (.ex (.meth .append (.var 22) (.cons (.tup (.cons (.bin .Add .z (.ix (.var 7) (.var 16)) (.call false dj (.cons (.var 0) .nil))) (.cons (.ix (.var 5) (.var 16)) (.cons (.blt .tuple .z (.cons (.ix (.ix (.var 1) (.cst (.int 2))) (.var 16)) .nil)) .nil)))) .nil))) .nil)
def D_law_kept_3:Df:=⟨1,23,(.cons (.set 1 (.call false jw (.cons (.var 0) .nil))) (.cons (.set 2 (.call false ma (.cons (.var 0) (.cons (.var 1) .nil)))) (.cons (.set 3 (.call false i8 (.cons (.call false dq (.cons (.var 0) .nil)) (.cons (.bin .Pow .z (.cst (.int 10)) (.cst (.int 30))) .nil)))) (.cons (.set 4 (.call false dj (.cons (.var 0) .nil))) (.cons (.set 5 (.comp .z [0] 1 (.one 1) (.rng (.ix (.var 1) (.cst (.int 0)))) .nil k6)) (.cons (.set 6 (.blt .list .z (.cons (.var 5) .nil))) (.cons (.set 7 (.blt .list .z (.cons (.var 5) .nil))) (.cons (.set 8 (.lst .l .nil)) (.cons (.set 9 (.lst .l .nil)) (.cons (.set 10 (.var 4)) (.cons (.loop (.many [11,12,13,14]) (.seq (.var 2)) ij) (.cons (.set 22 (.lst .l .nil)) (.cons (.loop (.one 16) (.rng (.ix (.var 1) (.cst (.int 0)))) lq) (.cons (.ret (.tup (.cons (.tup (.cons (.var 3) (.cons (.var 4) (.cons (.blt .tuple .z (.cons (.var 22) .nil)) (.cons (.blt .tuple .z (.cons (.var 8) .nil)) .nil))))) (.cons (.blt .tuple .z (.cons (.var 9) .nil)) .nil)))) .nil))))))))))))))⟩
def lr:Ex:=(.ix (.var 0) (.cst (.int 1)))
def ly:Ex:=(.bin .Add .z (.ix (.var 0) (.var 2)) (.ix (.var 1) (.var 2)))
def l4:Sms:=(.cons (.setx (.var 3) (.var 11) (.bin .Sub .z (.ix (.var 3) (.var 11)) (.bin .Sub .z (.var 13) (.var 12)))) .nil)
def ik:Sms:=(.cons (.set 6 (.call false qe (.cons (.var 0) (.cons (.var 5) (.cons (.var 2) (.cons (.var 3) (.cons (.ix (.var 1) (.var 5)) .nil))))))) (.cons (.ite (.cmp (.var 6) (.cons .ne (.cst (.str (PySem.Str.ofString ""))) .nil)) (.cons (.ret (.tup (.cons (.tup (.cons (.var 5) (.cons (.var 6) .nil))) (.cons (.frz 4) .nil)))) .nil) .nil) (.cons (.unp [7,8,9,10] (.ix (.var 1) (.var 5))) (.cons (.set 2 (.blt .min .z (.cons (.ix (.var 0) (.cst (.int 0))) (.cons (.bin .Sub .z (.bin .Add .z (.bin .Add .z (.var 2) (.var 7)) (.var 8)) (.blt .sum .z (.cons (.var 9) .nil))) .nil)))) (.cons (.set 3 (.comp .l [3,9] 1 (.one 2) (.rng (.blt .len .z (.cons (.var 3) .nil))) .nil ly)) (.cons (.loop (.many [11,12,13]) (.seq (.var 10)) l4) (.cons (.ex (.meth .append (.var 4) (.cons (.tup (.cons (.var 2) (.cons (.blt .tuple .z (.cons (.var 3) .nil)) .nil))) .nil))) .nil)))))))
def D_law_walk_2:Df:=⟨2,14,(.cons (.set 2 (.ix (.var 0) (.cst (.int 1)))) (.cons (.set 3 (.comp .l [] 1 (.one 0) (.seq (.ix (.var 0) (.cst (.int 2)))) .nil lr)) (.cons (.set 4 (.lst .l .nil)) (.cons (.loop (.one 5) (.rng (.blt .len .z (.cons (.var 1) .nil))) ik) (.cons (.ret (.tup (.cons (.cst .non) (.cons (.frz 4) .nil)))) .nil)))))⟩
def Dz:Df:=⟨0,0,.nil⟩
def GL:List Df:=[Dz,Dz,D_can_burn,D_law_next,D_law_turn,D_law_size,D_law_whole,Dz,Dz,Dz,Dz,Dz,Dz,D_rises,Dz,Dz,Dz,Dz,Dz,Dz,Dz,Dz,Dz,Dz,Dz,Dz,Dz,Dz,Dz,Dz,Dz,Dz,Dz,Dz,D_ticks_of_spans,Dz,Dz,D_law_share,D_law_ticks,D_law_spans,Dz,D_law_nights,D_law_slack,Dz,Dz,Dz,Dz,Dz,Dz,Dz,Dz,Dz,Dz,D_have_tick_in_common,D_has_span_fault,D_has_dark_fault,D_held_at_first,D_filled,D_held_behind,D_night_fault,D_day_fault,D_fault,D_keeps,Dz,D_law_span_bad,D_law_dark,D_law_word,Dz,Dz,Dz,Dz,Dz,Dz,D_law_same_fault,Dz,Dz,Dz,Dz,Dz,Dz,Dz,Dz,Dz,Dz,Dz,Dz,Dz,Dz,Dz,Dz,Dz,Dz,Dz,Dz,Dz,Dz,Dz,Dz,Dz,Dz,Dz,Dz,Dz,Dz,Dz,Dz,Dz,Dz,Dz,Dz,D_law_other,D_law_span_spoilt,D_law_spoilt_2,Dz,Dz,D_law_k08,Dz,Dz,Dz,Dz,Dz,Dz,Dz,Dz,Dz,Dz,Dz,Dz,Dz,Dz,Dz,Dz,Dz,Dz,Dz,Dz,Dz,Dz,Dz,Dz,Dz,Dz,D_law_frame_2,D_law_kept_3,Dz,Dz,Dz,Dz,Dz,Dz,Dz,Dz,Dz,Dz,Dz,Dz,Dz,Dz,Dz,Dz,Dz,Dz,D_law_walk_2,Dz,Dz,Dz,Dz]
theorem Hr:GL[qd]? = some D_can_burn:=rfl
theorem Hs:GL[dq]? = some D_law_next:=rfl
theorem Ht:GL[ee]? = some D_law_turn:=rfl
theorem Hu:GL[i8]? = some D_law_size:=rfl
theorem D1:GL[n4]? = some D_law_whole:=rfl
theorem K1:GL[wu]? = some D_rises:=rfl
theorem ux:GL[dr]? = some D_ticks_of_spans:=rfl
theorem wz:GL[ko]? = some D_law_share:=rfl
theorem D2:GL[ku]? = some D_law_ticks:=rfl
theorem D3:GL[n8]? = some D_law_spans:=rfl
theorem B4:GL[ma]? = some D_law_nights:=rfl
theorem D4:GL[dj]? = some D_law_slack:=rfl
theorem je:GL[cu]? = some D_have_tick_in_common:=rfl
theorem oz:GL[fh]? = some D_has_span_fault:=rfl
theorem uy:GL[cy]? = some D_has_dark_fault:=rfl
theorem w4:GL[g7]? = some D_held_at_first:=rfl
theorem Ou:GL[sd]? = some D_filled:=rfl
theorem Ai:GL[ju]? = some D_held_behind:=rfl
theorem Aj:GL[jv]? = some D_night_fault:=rfl
theorem D5:GL[n9]? = some D_day_fault:=rfl
theorem Uj:GL[ua]? = some D_fault:=rfl
theorem Uk:GL[wx]? = some D_keeps:=rfl
theorem x8:GL[gn]? = some D_law_span_bad:=rfl
theorem Hv:GL[nh]? = some D_law_dark:=rfl
theorem Hw:GL[qe]? = some D_law_word:=rfl
theorem o3:GL[fk]? = some D_law_same_fault:=rfl
theorem D6:GL[fg]? = some D_law_other:=rfl
theorem uc:GL[gh]? = some D_law_span_spoilt:=rfl
theorem x9:GL[ja]? = some D_law_spoilt_2:=rfl
theorem K2:GL[wy]? = some D_law_k08:=rfl
theorem se:GL[jw]? = some D_law_frame_2:=rfl
theorem B5:GL[md]? = some D_law_kept_3:=rfl
theorem B6:GL[jd]? = some D_law_walk_2:=rfl
end Lp
namespace Lr
open Lp
open PySem
theorem Ak {f:D->Sl->Sto->Res Fl} (I:Nat->Sl->Sto->Prop):∀{ds:List D} {σ:Sl} {μ:Sto} (k:Nat),I k σ μ ->
  (∀(j:Nat) d σ μ,ds[j]? = some d->I (k+j) σ μ->∃σ' μ',f d σ μ=.ok (.nx σ') μ'/\I (k+j+1) σ' μ') ->
  ∃σ' μ',kg none f ds σ μ=.ok (.nx σ') μ'/\I (k+ds.length) σ' μ'
 | [],σ,μ,k,h,_=>⟨σ,μ,by simp[kg],h⟩
 | d::ds,σ,μ,k,h,st=>by
  obtain⟨σ1,μ1,e1,h1⟩:=st 0 d σ μ rfl h
  obtain⟨σ2,μ2,e2,h2⟩:=Ak I (ds:=ds) (σ:=σ1) (μ:=μ1) (k+1) h1 λj d σ μ e i=>by
   obtain⟨σ',μ',a,b⟩:=st (j+1) d σ μ (by simpa using e) (by rw[show k+(j+1)=k+1+j by omega];exact i)
   exact⟨σ',μ',a,by rw[show k+1+j+1=k+(j+1)+1 by omega];exact b⟩
  refine⟨σ2,μ2,?_,by rw[show k+(d::ds).length=k+1+ds.length by simp;omega];exact h2⟩
  simp![kg,tu,if_true,e1,Res.bg,e2]
theorem B7 {g:Gd} {f:D->Sl->Sto->Res Fl} (I:Nat->Sl->Sto->Prop) (R:Fl->Sto->Prop):∀{ds:List D} {σ:Sl} {μ:Sto} (k:Nat),(∀j σ μ,I j σ μ->gd g μ)->I k σ μ ->
  (∀(j:Nat) d σ μ,ds[j]? = some d->I (k+j) σ μ->∃fl μ',f d σ μ=.ok fl μ'/\match fl with
   | .nx σ'=>I (k+j+1) σ' μ'
   | .ct σ'=>I (k+j+1) σ' μ'
   | .bk σ'=>R (.nx σ') μ'
   | .rt v=>R (.rt v) μ')->(∀σ μ,I (k+ds.length) σ μ->R (.nx σ) μ) ->
  ∃fl μ',kg g f ds σ μ=.ok fl μ'/\R fl μ'
 | [],σ,μ,k,hg,h,_,fin=>⟨.nx σ,μ,by simp[kg,hg k σ μ h],fin σ μ h⟩
 | d::ds,σ,μ,k,hg,h,st,fin=>by
  obtain⟨fl,μ1,e1,h1⟩:=st 0 d σ μ rfl h
  have rest:∀σ1,I (k+1) σ1 μ1->∃fl μ',kg g f ds σ1 μ1=.ok fl μ'/\R fl μ':=λσ1 i=>B7 I R (ds:=ds) (k+1) hg i (λj d σ μ e i=>by
   obtain⟨fl,μ',a,b⟩:=st (j+1) d σ μ (by simpa using e) (by rw[show k+(j+1)=k+1+j by omega];exact i)
   refine⟨fl,μ',a,?_⟩
   rw[show k+(j+1)+1=k+1+j+1 by omega]at b
   exact b) λσ μ i=>fin σ μ (by rw[show k+(d::ds).length=k+1+ds.length by simp;omega];exact i)
  cases fl with
  | nx σ1 =>
   obtain⟨fl,μ',a,b⟩:=rest σ1 h1
   exact⟨fl,μ',by simp![kg,hg k σ μ h,if_true,e1,Res.bg,a],b⟩
  | ct σ1 =>
   obtain⟨fl,μ',a,b⟩:=rest σ1 h1
   exact⟨fl,μ',by simp![kg,hg k σ μ h,if_true,e1,Res.bg,a],b⟩
  | bk σ1=>exact⟨.nx σ1,μ1,by simp![kg,hg k σ μ h,if_true,e1,Res.bg],h1⟩
  | rt v=>exact⟨.rt v,μ1,by simp![kg,hg k σ μ h,if_true,e1,Res.bg],h1⟩
theorem ao {T:List Df} {n i:Nat} {d:Df} {ds:List D} {μ:Sto} (h:T[i]? = some d):ak T (n+1) i ds μ=U8 (ak T n) d ds μ:=by
 simp![ak,h]
def finD (fl:Fl) (μ:Sto):Res D:=match fl with
 | .nx _=>.ok .non μ
 | .rt d=>.ok d μ
 | _=>.stuck
@[simp] theorem K3 (d:D) (μ:Sto):finD (.rt d) μ=.ok d μ:=rfl
@[simp] theorem K4 (σ:Sl) (μ:Sto):finD (.nx σ) μ=.ok .non μ:=rfl
theorem run_eq {φ:Phi} {f:Df} {ds:List D} {μ:Sto} (h:ds.length=f.np):U8 φ f ds μ=(qa φ f.body (ds.map some++List.replicate (f.nn-f.np) none) μ).bind finD:=by
 rw[U8,if_pos h];rfl
theorem nk (b:Nat):∀(k:Nat) (d:D),D.pureN k d=true->D.belowN b k d=true
 | 0,d,h=>by cases d<;>simp_all[D.pureN,D.belowN]
 | k+1,d,h=>by
  cases d with
  | tup ds =>
   simp![D.pureN,D.belowN,AN]at h ⊢
   exact λx hx=>nk b k x (h x hx)
  | lst ds =>
   simp![D.pureN,D.belowN,AN]at h ⊢
   exact λx hx=>nk b k x (h x hx)
  | loc n=>simp[D.pureN]at h
  | _=>rfl
theorem dy {k:Nat} {ds:List D}:D.pureN (k+1) (.tup ds)=ds.all (D.pureN k):=rfl
theorem mf {k:Nat} {ds:List D}:D.pureN (k+1) (.lst ds)=ds.all (D.pureN k):=rfl
theorem eh {k:Nat} {i:Int}:D.pureN k (.int i)=true:=by cases k<;>rfl
theorem K5 {k:Nat}:D.pureN k .non=true:=by cases k<;>rfl
theorem yw (b:Nat) (o:O) (h:noR o=true):gc b o=true:=by cases o<;>simp_all[noR,gc]
abbrev l5 (μ:Sto):Prop:=μ.all (gc μ.length)=true
theorem Hx {d:D} {μ:Sto} {b:Nat} (hd:d.pure=true) (hb:μ.length=b) (hr:l5 μ):uu false b (.ok d μ)=.ok d μ:=by
 have e:μ.take b=μ:=BY (by omega)
 have hr':μ.all (gc b)=true:=by rw[<-hb];exact hr
 simp![uu,AS,if_false,e,nk b 8 d hd,hr',and_self,if_true]
@[simp] theorem ud {d:D} {μ:Sto} {b:Nat}:uu true b (.ok d μ)=.ok d μ:=by simp[uu]
theorem op_mul {i j:Int} {μ:Sto} (h:CMul i j):opI .Mult i j μ=.ok (.int (i*j)) μ:=by simp[opI,h]
theorem ir {i j:Int} {μ:Sto} (h:0<j) (h2:j<1073741824):opI .FloorDiv i j μ=.ok (.int (i / j)) μ:=by simp[opI,h,h2]
theorem op_mod {i j:Int} {μ:Sto} (h:0<j):opI .Mod i j μ=.ok (.int (i % j)) μ:=by simp[opI,h]
theorem op_add {i j:Int} {μ:Sto}:opI .Add i j μ=.ok (.int (i+j)) μ:=rfl
theorem op_sub {i j:Int} {μ:Sto}:opI .Sub i j μ=.ok (.int (i-j)) μ:=rfl
theorem op_pow {i:Int} {j:Int} {μ:Sto} (h:0<=j/\j<=1000000/\i.natAbs<2 ^ 64):opI .Pow i j μ=.ok (.int (i ^ j.toNat)) μ:=by simp[opI,h]
theorem op_shr {i j:Int} {μ:Sto} (h:0<=j):opI .RShift i j μ=.ok (.int (i / 2 ^ j.toNat)) μ:=by simp[opI,h]
theorem D7 {op:Operator} {m:Mk} {i j:Int} {μ:Sto}:opD op m (.int i) (.int j) μ=opI op i j μ:=rfl
theorem _root_.Lp.CMul.left {i j:Int} (h:-(2 ^ 64)<i) (h2:i<2 ^ 64):CMul i j:=.inl ⟨h,h2⟩
theorem _root_.Lp.CMul.right {i j:Int} (h:-(2 ^ 64)<j) (h2:j<2 ^ 64):CMul i j:=.inr ⟨h,h2⟩
theorem jf (ns:List Int):gb (ns.map D.int)=some ns:=by
 induction ns with
 | nil=>rfl
 | cons n r ih=>simp[gb,ih]
theorem g6 (ns:List Bool):qo (ns.map D.bl)=some ns:=by
 induction ns with
 | nil=>rfl
 | cons n r ih=>simp[qo,ih]
theorem u9 (i:Int):(D.int i).pure=true:=rfl
open PySem
section
variable (φ : Phi)
def abc (o:Option (Option D)) (μ:Sto):Res D:=match o with
 | some (some d)=>.ok d μ
 | _=>.stuck
def kB (op:Operator) (m:Mk) (b:Ex) (σ:Sl) (x:D) (μ:Sto):Res D:=(evE φ b σ μ).bind (opD op m x)
def kNeg (x:D) (μ:Sto):Res D:=match x with
 | .int i=>.ok (.int (-i)) μ
 | _=>.stuck
def kNot (x:D) (μ:Sto):Res D:=match x with
 | .bl b=>.ok (.bl (!b)) μ
 | _=>.stuck
def aah (b:Ex) (σ:Sl) (x:D) (μ:Sto):Res D:=match x with
 | .bl c=>if c=true then evE φ b σ μ else .ok (.bl false) μ
 | _=>.stuck
def kOr (b:Ex) (σ:Sl) (x:D) (μ:Sto):Res D:=match x with
 | .bl c=>if c=true then .ok (.bl true) μ else evE φ b σ μ
 | _=>.stuck
def aai (a b:Ex) (σ:Sl) (x:D) (μ:Sto):Res D:=match x with
 | .bl c=>if c=true then evE φ a σ μ else evE φ b σ μ
 | _=>.stuck
def abd (r:Cps) (σ:Sl) (x:D) (μ:Sto):Res D:=evC φ r x σ μ
def Yy (r:Cps) (y:D) (σ:Sl) (z:D) (μ:Sto):Res D:=match z with
 | .bl b=>if b=true then evC φ r y σ μ else .ok (.bl false) μ
 | _=>.stuck
def kCh (op:Cp) (x:D) (r:Cps) (σ:Sl) (y:D) (μ:Sto):Res D:=(cpD op x y μ).bind (Yy φ r y σ)
def w6 (keep:Bool) (f:Nat) (ds:List D) (μ:Sto):Res D:=uu keep μ.length (φ f ds μ)
def kM (mt:Mt) (es:Exs) (σ:Sl) (x:D) (μ:Sto):Res D:=if jb mt x μ=true then(jh φ es σ μ).bind (mtD mt x)else .stuck
def kIx (b:Ex) (σ:Sl) (x:D) (μ:Sto):Res D:=(evE φ b σ μ).bind (ixD x)
def aaj (m:Mk) (hi:ExO) (σ:Sl) (x:D) (l:Option Int) (μ:Sto):Res D:=(evO φ hi σ μ).bind (slD m x l)
def kSl (m:Mk) (lo hi:ExO) (σ:Sl) (x:D) (μ:Sto):Res D:=(evO φ lo σ μ).bind (aaj φ m hi σ x)
def kTup (ds:List D) (μ:Sto):Res D:=.ok (.tup ds) μ
def aak (d:D) (ds:List D) (μ:Sto):Res (List D):=.ok (d::ds) μ
def kEs (es:Exs) (σ:Sl) (d:D) (μ:Sto):Res (List D):=(jh φ es σ μ).bind (aak d)
def kInt (x:D) (μ:Sto):Res (Option Int):=match x with
 | .int i=>.ok (some i) μ
 | _=>.stuck
def kOne (x:D) (μ:Sto):Res (List D):=.ok [x] μ
def Yz (elt:Ex) (σ:Sl) (b:Bool) (μ:Sto):Res (List D):=if b=true then(evE φ elt σ μ).bind kOne else .ok [] μ
def abe (cs:Exs) (elt:Ex) (μ:Sto) (σ:Sl):Res (List D):=(G8 φ cs σ μ).bind (Yz φ elt σ)
def iu (tg:Tg) (cs:Exs) (elt:Ex) (σ0:Sl) (d:D) (μ:Sto):Res (List D):=qm (gf tg d σ0) (abe φ cs elt μ)
def gy (m:Mk) (tg:Tg) (cs:Exs) (elt:Ex) (σ0:Sl) (w:List D×Gd) (μ:Sto):Res D:=(mapR w.2 (iu φ tg cs elt σ0) w.1 μ).bind (mkL m)
def kCs (es:Exs) (σ:Sl) (x:D) (μ:Sto):Res Bool:=match x with
 | .bl b=>if b=true then G8 φ es σ μ else .ok false μ
 | _=>.stuck
def kSeq (x:D) (μ:Sto):Res (List D×Gd):=match du μ x with
 | some w=>.ok w μ
 | none=>.stuck
def kRng (x:D) (μ:Sto):Res (List D×Gd):=match x with
 | .int j=>if -(lim:Int)<=j/\j<=lim then .ok ((List.range j.toNat).map fun(i:Nat)=>D.int i,none) μ else .stuck
 | _=>.stuck
def Qo (x y:D) (μ:Sto):Res (List D×Gd):=match x,y with
 | .int i,.int j=>if -(lim:Int)<=i/\i<=lim/\j<=lim /\ -(lim:Int)<=j/\(j-i)<=lim then .ok ((List.range (j-i).toNat).map fun(k:Nat)=>D.int (i+k),none) μ else .stuck
 | _,_=>.stuck
def Xl (b:Ex) (σ:Sl) (x:D) (μ:Sto):Res (List D×Gd):=(evE φ b σ μ).bind (Qo x)
def uz (x y:D) (μ:Sto):Res (List D×Gd):=match du μ x,cv [] y with
 | some w,some ys=>.ok ((w.1.zip ys).map λp=>.tup [p.1,p.2],w.2) μ
 | _,_=>.stuck
def abf (b:Ex) (σ:Sl) (x:D) (μ:Sto):Res (List D×Gd):=(evE φ b σ μ).bind (uz x)
def kEnum (x:D) (μ:Sto):Res (List D×Gd):=match du μ x with
 | some w=>.ok ((List.range w.1.length |>.zip w.1).map fun(p:Nat×D)=>.tup [.int p.1,p.2],w.2) μ
 | none=>.stuck
def kVals (x:D) (μ:Sto):Res (List D×Gd):=match x with
 | .loc n=>match μ[n]? with
  | some (.d kvs)=>.ok (kvs.map (·.2),none) (μ.set n .dead)
  | _=>.stuck
 | _=>.stuck
def abg (i:Nat) (σ:Sl) (d:D) (μ:Sto):Res Fl:=.ok (.nx (σ.set i (some d))) μ
def aal (o:Option Sl) (μ:Sto):Res Fl:=match o with
 | some σ'=>.ok (.nx σ') μ
 | none=>.stuck
def abh (is:List Nat) (σ:Sl) (d:D) (μ:Sto):Res Fl:=aal (gf (.many is) d σ) μ
def kNx {α:Type} (σ:Sl) (_:α) (μ:Sto):Res Fl:=.ok (.nx σ) μ
def aam (σ:Sl) (d x:D) (y:D) (μ:Sto):Res Fl:=(ur x y d μ).bind (kNx σ)
def aan (i:Ex) (σ:Sl) (d:D) (x:D) (μ:Sto):Res Fl:=(evE φ i σ μ).bind (aam σ d x)
def kSx (o i:Ex) (σ:Sl) (d:D) (μ:Sto):Res Fl:=(evE φ o σ μ).bind (aan φ i σ d)
def kIf (a b:Sms) (σ:Sl) (x:D) (μ:Sto):Res Fl:=match x with
 | .bl k=>if k=true then qa φ a σ μ else qa φ b σ μ
 | _=>.stuck
def kLp (b:Sms) (μ:Sto) (σ:Sl):Res Fl:=qa φ b σ μ
def fLp (tg:Tg) (b:Sms) (d:D) (σ:Sl) (μ:Sto):Res Fl:=qm (gf tg d σ) (kLp φ b μ)
def ue (tg:Tg) (b:Sms) (σ:Sl) (w:List D×Gd) (μ:Sto):Res Fl:=kg w.2 (fLp φ tg b) w.1 σ μ
def kRet (d:D) (μ:Sto):Res Fl:=.ok (.rt d) μ
def kSs (r:Sms) (fl:Fl) (μ:Sto):Res Fl:=match fl with
 | .nx σ'=>qa φ r σ' μ
 | fl=>.ok fl μ
end
section
variable {φ : Phi} {σ : Sl} {μ : Sto} {a b c e o i : Ex} {es : Exs} {m : Mk} {op : Operator} {r : Cps} {s : Sm} {rs : Sms}
theorem Xm {i:Nat}:evE φ (.var i) σ μ=abc σ[i]? μ:=rfl
theorem Xn {d:D}:evE φ (.cst d) σ μ=.ok d μ:=rfl
theorem Xo:evE φ (.bin op m a b) σ μ=(evE φ a σ μ).bind (kB φ op m b σ):=rfl
theorem Xp:evE φ (.neg a) σ μ=(evE φ a σ μ).bind kNeg:=rfl
theorem Xq:evE φ (.not a) σ μ=(evE φ a σ μ).bind kNot:=rfl
theorem Xr:evE φ (.and a b) σ μ=(evE φ a σ μ).bind (aah φ b σ):=rfl
theorem abi:evE φ (.or a b) σ μ=(evE φ a σ μ).bind (kOr φ b σ):=rfl
theorem Xs:evE φ (.ite c a b) σ μ=(evE φ c σ μ).bind (aai φ a b σ):=rfl
theorem Xt:evE φ (.cmp a r) σ μ=(evE φ a σ μ).bind (abd φ r σ):=rfl
theorem Ov {α:Type} (x:Res α):(x.bind λa μ=>.ok a μ)=x:=by cases x<;>rfl
theorem Xu {op:Cp} {x:D}:evC φ (.cons op e .nil) x σ μ=(evE φ e σ μ).bind (cpD op x):=by
 simp![evC,Ov]
theorem Qp {op op':Cp} {x:D} {e':Ex}:evC φ (.cons op e (.cons op' e' r)) x σ μ=(evE φ e σ μ).bind (kCh φ op x (.cons op' e' r) σ):=by
 rw[evC]
 all_goals rfl
theorem Qq {keep:Bool} {f:Nat}:evE φ (.call keep f es) σ μ=(jh φ es σ μ).bind (w6 φ keep f):=rfl
theorem Xv {b:Bt}:evE φ (.blt b m es) σ μ=(jh φ es σ μ).bind (btD b m):=rfl
theorem Xw {c:Cl}:evE φ (.isi a c) σ μ=(evE φ a σ μ).bind (Qb c):=rfl
theorem Qr {mt:Mt}:evE φ (.meth mt o es) σ μ=(evE φ o σ μ).bind (kM φ mt es σ):=rfl
theorem abj:evE φ (.ix a b) σ μ=(evE φ a σ μ).bind (kIx φ b σ):=rfl
theorem abk {lo hi:ExO}:evE φ (.sl m a lo hi) σ μ=(evE φ a σ μ).bind (kSl φ m lo hi σ):=rfl
theorem Xx:evE φ (.tup es) σ μ=(jh φ es σ μ).bind kTup:=rfl
theorem Xy:evE φ (.lst m es) σ μ=(jh φ es σ μ).bind (mkL m):=rfl
theorem Xz {t:Bool}:evE φ (.dic t es) σ μ=(jh φ es σ μ).bind (Qc t):=rfl
theorem Qs {cap:List Nat} {nl:Nat} {tg:Tg} {it:It} {cs:Exs} {elt:Ex}:evE φ (.comp m cap nl tg it cs elt) σ μ=(evI φ it σ μ).bind (gy φ m tg cs elt (cap.map (λi=>(σ[i]?).getD none)++List.replicate nl none)):=rfl
theorem Qt:jh φ .nil σ μ=.ok [] μ:=rfl
theorem K6:jh φ (.cons e es) σ μ=(evE φ e σ μ).bind (kEs φ es σ):=rfl
theorem abl:evO φ .no σ μ=.ok none μ:=rfl
theorem abm:evO φ (.so e) σ μ=(evE φ e σ μ).bind kInt:=rfl
theorem Qu:G8 φ .nil σ μ=.ok true μ:=rfl
theorem K7:G8 φ (.cons e es) σ μ=(evE φ e σ μ).bind (kCs φ es σ):=rfl
theorem X0:evI φ (.seq e) σ μ=(evE φ e σ μ).bind kSeq:=rfl
theorem X3:evI φ (.rng e) σ μ=(evE φ e σ μ).bind kRng:=rfl
theorem Qv:evI φ (.rng2 a b) σ μ=(evE φ a σ μ).bind (Xl φ b σ):=rfl
theorem X4:evI φ (.zip a b) σ μ=(evE φ a σ μ).bind (abf φ b σ):=rfl
theorem Qw:evI φ (.enum a) σ μ=(evE φ a σ μ).bind kEnum:=rfl
theorem Qx:evI φ (.vals a) σ μ=(evE φ a σ μ).bind kVals:=rfl
theorem X5 {i:Nat}:evS φ (.set i e) σ μ=(evE φ e σ μ).bind (abg i σ):=rfl
theorem X6 {is:List Nat}:evS φ (.unp is e) σ μ=(evE φ e σ μ).bind (abh is σ):=rfl
theorem Qy:evS φ (.setx o i e) σ μ=(evE φ e σ μ).bind (kSx φ o i σ):=rfl
theorem abn:evS φ (.ex e) σ μ=(evE φ e σ μ).bind (kNx σ):=rfl
theorem X7 {x y:Sms}:evS φ (.ite c x y) σ μ=(evE φ c σ μ).bind (kIf φ x y σ):=rfl
theorem Qz {tg:Tg} {it:It} {b:Sms}:evS φ (.loop tg it b) σ μ=(evI φ it σ μ).bind (ue φ tg b σ):=rfl
theorem X8:evS φ (.ret e) σ μ=(evE φ e σ μ).bind kRet:=rfl
theorem Q0:evS φ .pass σ μ=.ok (.nx σ) μ:=rfl
theorem X9:evS φ .brk σ μ=.ok (.bk σ) μ:=rfl
theorem Q1:evS φ .cont σ μ=.ok (.ct σ) μ:=rfl
theorem Q2:qa φ .nil σ μ=.ok (.nx σ) μ:=rfl
theorem K8:qa φ (.cons s rs) σ μ=(evS φ s σ μ).bind (kSs φ rs):=rfl
theorem av {f:Nat} {ds:List D} {d:D} {μ':Sto} (h:φ f ds μ=.ok d μ') (hd:d.pure=true) (hl:μ'.length=μ.length) (hr:l5 μ'):w6 φ false f ds μ=.ok d μ':=by
 rw[w6,h,Hx hd hl hr]
theorem D8 {mt:Mt} {x:D} (h:jb mt x μ=true):kM φ mt es σ x μ=(jh φ es σ μ).bind (mtD mt x):=by rw[kM,if_pos h]
theorem B8 {d:D}:abc (some (some d)) μ=.ok d μ:=rfl
theorem Fk {i:Int}:kNeg (.int i) μ=.ok (.int (-i)) μ:=rfl
theorem K9 {b:Bool}:kNot (.bl b) μ=.ok (.bl (!b)) μ:=rfl
theorem Q3 {b:Ex}:aah φ b σ (.bl true) μ=evE φ b σ μ:=rfl
theorem Q4 {b:Ex}:aah φ b σ (.bl false) μ=.ok (.bl false) μ:=rfl
theorem Ya {b:Ex}:kOr φ b σ (.bl true) μ=.ok (.bl true) μ:=rfl
theorem Yb {b:Ex}:kOr φ b σ (.bl false) μ=evE φ b σ μ:=rfl
theorem Q5:aai φ a b σ (.bl true) μ=evE φ a σ μ:=rfl
theorem Q6:aai φ a b σ (.bl false) μ=evE φ b σ μ:=rfl
theorem Q7 {y:D}:Yy φ r y σ (.bl true) μ=evC φ r y σ μ:=rfl
theorem Q8 {y:D}:Yy φ r y σ (.bl false) μ=.ok (.bl false) μ:=rfl
theorem Yc:kCs φ es σ (.bl true) μ=G8 φ es σ μ:=rfl
theorem Yd:kCs φ es σ (.bl false) μ=.ok false μ:=rfl
theorem Q9 {elt:Ex}:Yz φ elt σ true μ=(evE φ elt σ μ).bind kOne:=rfl
theorem Ra {elt:Ex}:Yz φ elt σ false μ=.ok [] μ:=rfl
theorem Fm {i:Int}:kInt (.int i) μ=.ok (some i) μ:=rfl
theorem Ye {x y:Sms}:kIf φ x y σ (.bl true) μ=qa φ x σ μ:=rfl
theorem Yf {x y:Sms}:kIf φ x y σ (.bl false) μ=qa φ y σ μ:=rfl
theorem Rb {σ':Sl}:kSs φ rs (.nx σ') μ=qa φ rs σ' μ:=rfl
theorem Rc {d:D}:kSs φ rs (.rt d) μ=.ok (.rt d) μ:=rfl
theorem Rf {σ':Sl}:kSs φ rs (.bk σ') μ=.ok (.bk σ') μ:=rfl
theorem Rg {σ':Sl}:kSs φ rs (.ct σ') μ=.ok (.ct σ') μ:=rfl
theorem B9 {σ':Sl}:aal (some σ') μ=.ok (.nx σ') μ:=rfl
theorem Fn {ds:List D}:kSeq (.tup ds) μ=.ok (ds,none) μ:=rfl
theorem Fo {ds:List D}:kSeq (.lst ds) μ=.ok (ds,none) μ:=rfl
theorem Ul {j:Int} (h:-1000000<=j/\j<=1000000):kRng (.int j) μ=.ok ((List.range j.toNat).map fun(i:Nat)=>D.int i,none) μ:=by
 have:=ny
 simp![kRng]
 rw[if_pos ⟨by lia,by lia⟩]
theorem dz {n:Nat} (h:n<=1000000):kRng (.int n) μ=.ok ((List.range n).map fun(i:Nat)=>D.int i,none) μ:=by
 rw[Ul ⟨by lia,by lia⟩,CI]
theorem Ca {i:Nat} {d:D}:gf (.one i) d σ=some (σ.set i (some d)):=rfl
theorem Yg {i j:Int}:cpD .lt (.int i) (.int j) μ=.ok (.bl (decide (i<j))) μ:=rfl
theorem Yh {i j:Int}:cpD .le (.int i) (.int j) μ=.ok (.bl (decide (i<=j))) μ:=rfl
theorem Yi {i j:Int}:cpD .gt (.int i) (.int j) μ=.ok (.bl (decide (j<i))) μ:=rfl
theorem Yj {i j:Int}:cpD .ge (.int i) (.int j) μ=.ok (.bl (decide (j<=i))) μ:=rfl
theorem Rh {i j:Int}:cpD .eq (.int i) (.int j) μ=.ok (.bl (decide (i=j))) μ:=rfl
theorem Ow {x y:D} (hx:x.pure=true) (hy:y.pure=true):cpD .ne x y μ=.ok (.bl (!deq x y)) μ:=by simp[cpD,hx,hy]
theorem Ri {i j:Int}:cpD .ne (.int i) (.int j) μ=.ok (.bl (!decide (i=j))) μ:=Ow rfl rfl
theorem Fp {i j:Bool}:cpD .ne (.bl i) (.bl j) μ=.ok (.bl (!(i==j))) μ:=Ow rfl rfl
theorem aao {x y:D} (hx:x.pure=true) (hy:y.pure=true):cpD .eq x y μ=.ok (.bl (deq x y)) μ:=by simp[cpD,hx,hy]
theorem bt_len {x:D} {xs:List D} (h:cv μ x=some xs):btD .len m [x] μ=.ok (.int xs.length) μ:=by simp[btD,seq1,h]
theorem bt_tuple {x:D} {xs:List D} (h:cv μ x=some xs):btD .tuple m [x] μ=.ok (.tup xs) μ:=by simp[btD,seq1,h]
theorem bt_list {x:D} {xs:List D} (h:cv μ x=some xs):btD .list m [x] μ=mkL m xs μ:=by simp[btD,seq1,h]
theorem Hy {x:D} {xs:List D} (h:listOf μ x=some xs):btD .listRev m [x] μ=mkL m xs.reverse μ:=by simp[btD,zj,h]
theorem bt_sum {x:D} {xs:List D} {ns:List Int} (h:cv μ x=some xs) (h2:gb xs=some ns):btD .sum m [x] μ=.ok (.int ns.sum) μ:=by simp[btD,Nw,h,h2]
theorem bt_all {x:D} {xs:List D} {ns:List Bool} (h:cv μ x=some xs) (h2:qo xs=some ns):btD .all m [x] μ=.ok (.bl (ns.all id)) μ:=by simp[btD,G7,h,h2]
theorem bt_any {x:D} {xs:List D} {ns:List Bool} (h:cv μ x=some xs) (h2:qo xs=some ns):btD .any m [x] μ=.ok (.bl (ns.any id)) μ:=by simp[btD,G7,h,h2]
theorem bt_min {i j:Int}:btD .min m [.int i,.int j] μ=.ok (.int (min i j)) μ:=by
 simp![btD,minD]
 congr 2
 split<;>lia
theorem bt_max {i j:Int}:btD .max m [.int i,.int j] μ=.ok (.int (max i j)) μ:=by
 simp![btD,maxD]
 congr 2
 split<;>lia
theorem a9 {ds:List D}:cv μ (.tup ds)=some ds:=rfl
theorem au {ds:List D}:cv μ (.lst ds)=some ds:=rfl
theorem jg {ds:List D}:mkL .z ds μ=.ok (.lst ds) μ:=rfl
theorem uo {x:D} {xs:List D} {k:Nat} {d:D} (h:cv μ x=some xs) (hd:xs[k]? = some d):ixD x (.int k) μ=.ok d μ:=by
 have hk:k<xs.length:=(AF.mp hd).1
 have e:ixN xs.length (k:Int)=some k:=by simp[ixN,hk]
 simp![ixD,h,e,hd]
theorem yx {x:D} {xs:List D} {i:Int} {d:D} (h:cv μ x=some xs) (hi:0<=i) (hd:xs[i.toNat]? = some d):ixD x (.int i) μ=.ok d μ:=by
 have hk:i.toNat<xs.length:=(AF.mp hd).1
 have e:ixN xs.length i=some i.toNat:=by simp[ixN,hi,show i<xs.length by lia]
 simp![ixD,h,e,hd]
theorem o9 {i j:Nat} {a b:D}:gf (.many [i,j]) (.tup [a,b]) σ=some ((σ.set i (some a)).set j (some b)):=rfl
theorem La {i j k:Nat} {a b c:D}:gf (.many [i,j,k]) (.tup [a,b,c]) σ=some (((σ.set i (some a)).set j (some b)).set k (some c)):=rfl
theorem Lb {i j k l:Nat} {a b c d:D}:gf (.many [i,j,k,l]) (.tup [a,b,c,d]) σ=some ((((σ.set i (some a)).set j (some b)).set k (some c)).set l (some d)):=rfl
theorem Lc {i j k l m:Nat} {a b c d e:D}:gf (.many [i,j,k,l,m]) (.tup [a,b,c,d,e]) σ=some (((((σ.set i (some a)).set j (some b)).set k (some c)).set l (some d)).set m (some e)):=rfl
theorem bo {α:Type} {xs:List α} {en:α->D} {k:Nat} {a:α} (h:xs[k]? = some a):ixD (.tup (xs.map en)) (.int k) μ=.ok (en a) μ:=uo a9 (by rw[AW,h];rfl)
theorem Ld {α:Type} {xs:List α} {en:α->D} {k:Nat} {a:α} (h:xs[k]? = some a):ixD (.lst (xs.map en)) (.int k) μ=.ok (en a) μ:=uo au (by rw[AW,h];rfl)
theorem Um {α:Type} {tg:Tg} {b:Sms} {xs:List α} {en:α->D} (I:Nat->Sl->Prop) (h0:I 0 σ) (st:∀(k:Nat) a σ,xs[k]? = some a->I k σ->∃σ',fLp φ tg b (en a) σ μ=.ok (.nx σ') μ/\I (k+1) σ') :
  ∃σ',ue φ tg b σ (xs.map en,none) μ=.ok (.nx σ') μ/\I xs.length σ':=by
 obtain⟨σ',μ',e,rfl,i⟩:=Ak (f:=fLp φ tg b) (λk σ μ'=>μ'=μ/\I k σ) (ds:=xs.map en) (σ:=σ) (μ:=μ) 0 ⟨rfl,h0⟩ λj d σ μ' e ⟨q,i⟩=>by
  subst q
  rw[AW]at e
  cases ex:xs[j]? with
  | none=>rw[ex]at e;cases e
  | some a =>
   rw[ex]at e
   cases e
   obtain⟨σ',e',i'⟩:=st j a σ ex (by simpa using i)
   exact⟨σ',_,e',rfl,by simpa using i'⟩
 exact⟨σ',e,by simpa using i⟩
theorem comp_map {α:Type} {tg:Tg} {cs:Exs} {elt:Ex} {σ0:Sl} {xs:List α} {en:α->D} {g:α->D} (h:∀a∈xs,iu φ tg cs elt σ0 (en a) μ=.ok [g a] μ):gy φ m tg cs elt σ0 (xs.map en,none) μ=mkL m (xs.map g) μ:=by
 have e:mapR none (iu φ tg cs elt σ0) (xs.map en) μ=.ok (xs.map g) μ:=by
  induction xs with
  | nil=>simp[mapR]
  | cons a r ih =>
   simp![AR,mapR,tu,if_true,h a AQ,Res.bg,ih λx hx=>h x (AH _ hx)]
   rfl
 rw[gy]
 show(mapR none _ (xs.map en) μ).bind _=_
 rw[e];rfl
theorem gz {α:Type} {tg:Tg} {cs:Exs} {elt:Ex} {σ0:Sl} {xs:List α} {en:α->D} {g:α->D} {p:α->Bool} (h:∀a∈xs,iu φ tg cs elt σ0 (en a) μ=.ok (if p a=true then [g a]else []) μ):gy φ m tg cs elt σ0 (xs.map en,none) μ=mkL m ((xs.filter p).map g) μ:=by
 have e:mapR none (iu φ tg cs elt σ0) (xs.map en) μ=.ok ((xs.filter p).map g) μ:=by
  induction xs with
  | nil=>simp[mapR]
  | cons a r ih =>
   simp![AR,mapR,tu,if_true,h a AQ,Res.bg,ih λx hx=>h x (AH _ hx)]
   by_cases hp:p a=true
   ·simp[hp]
   ·simp[hp]
 rw[gy]
 show(mapR none _ (xs.map en) μ).bind _=_
 rw[e];rfl
def many {S α:Type} (G:S->α×S):Nat->S->List α×S
 | 0,s=>([],s)
 | n+1,s=>((G s).1::(many G n (G s).2).1,(many G n (G s).2).2)
theorem Yk {x:D}:kB φ op m b σ x μ=(evE φ b σ μ).bind (opD op m x):=rfl
theorem Le {x:D}:abd φ r σ x μ=evC φ r x σ μ:=rfl
theorem Rj {o:Cp} {x y:D}:kCh φ o x r σ y μ=(cpD o x y μ).bind (Yy φ r y σ):=rfl
theorem Rk {x:D}:kIx φ b σ x μ=(evE φ b σ μ).bind (ixD x):=rfl
theorem Lg {hi:ExO} {x:D} {l:Option Int}:aaj φ m hi σ x l μ=(evO φ hi σ μ).bind (slD m x l):=rfl
theorem Rl {lo hi:ExO} {x:D}:kSl φ m lo hi σ x μ=(evO φ lo σ μ).bind (aaj φ m hi σ x):=rfl
theorem Lh {ds:List D}:kTup ds μ=.ok (.tup ds) μ:=rfl
theorem Li {d:D} {ds:List D}:aak d ds μ=.ok (d::ds) μ:=rfl
theorem Rm {d:D}:kEs φ es σ d μ=(jh φ es σ μ).bind (aak d):=rfl
theorem Lj {x:D}:kOne x μ=.ok [x] μ:=rfl
theorem Lk {cs:Exs} {elt:Ex}:abe φ cs elt μ σ=(G8 φ cs σ μ).bind (Yz φ elt σ):=rfl
theorem Fq {x:D}:Xl φ b σ x μ=(evE φ b σ μ).bind (Qo x):=rfl
theorem Ll {x:D}:abf φ b σ x μ=(evE φ b σ μ).bind (uz x):=rfl
theorem Lm {i:Nat} {d:D}:abg i σ d μ=.ok (.nx (σ.set i (some d))) μ:=rfl
theorem Ln {is:List Nat} {d:D}:abh is σ d μ=aal (gf (.many is) d σ) μ:=rfl
theorem Lo {d:D}:kNx σ d μ=.ok (.nx σ) μ:=rfl
theorem Lq {d:Unit}:kNx σ d μ=.ok (.nx σ) μ:=rfl
theorem Ls {d x y:D}:aam σ d x y μ=(ur x y d μ).bind (kNx σ):=rfl
theorem Lu {i:Ex} {d x:D}:aan φ i σ d x μ=(evE φ i σ μ).bind (aam σ d x):=rfl
theorem Rn {o i:Ex} {d:D}:kSx φ o i σ d μ=(evE φ o σ μ).bind (aan φ i σ d):=rfl
theorem Ro {b:Sms}:kLp φ b μ σ=qa φ b σ μ:=rfl
theorem Lv {d:D}:kRet d μ=.ok (.rt d) μ:=rfl
theorem Fs {n:Nat}:List.replicate (n+1) (none:Option D)=none::List.replicate n none:=rfl
theorem Ft:List.replicate 0 (none:Option D)=[]:=rfl
end
section
variable {φ : Phi} {σ : Sl} {μ : Sto}
def abo (φ:Phi) (b:Ex) (σ:Sl) (x:D) (μ:Sto):Res D:=(evE φ b σ μ).bind (Zr x)
def Y0 (σ:Sl) (x y z:D) (μ:Sto):Res Fl:=(ur x y z μ).bind (kNx σ)
def Y1 (op:Operator) (σ:Sl) (x y old d:D) (μ:Sto):Res Fl:=(aa7 op old d μ).bind (Y0 σ x y)
def aap (φ:Phi) (op:Operator) (e:Ex) (σ:Sl) (x y old:D) (μ:Sto):Res Fl:=(evE φ e σ μ).bind (Y1 op σ x y old)
def aaq (φ:Phi) (op:Operator) (e:Ex) (σ:Sl) (x y:D) (μ:Sto):Res Fl:=(ixL x y μ).bind (aap φ op e σ x y)
def abp (φ:Phi) (op:Operator) (i e:Ex) (σ:Sl) (x:D) (μ:Sto):Res Fl:=(evE φ i σ μ).bind (aaq φ op e σ x)
theorem Yl {a b:Ex}:evE φ (.dix a b) σ μ=(evE φ a σ μ).bind (abo φ b σ):=rfl
theorem Lw {b:Ex} {x:D}:abo φ b σ x μ=(evE φ b σ μ).bind (Zr x):=rfl
theorem Rp {op:Operator} {o i e:Ex}:evS φ (.augx op o i e) σ μ=(evE φ o σ μ).bind (abp φ op i e σ):=rfl
theorem Lx {op:Operator} {i e:Ex} {x:D}:abp φ op i e σ x μ=(evE φ i σ μ).bind (aaq φ op e σ x):=rfl
theorem Ly {op:Operator} {e:Ex} {x y:D}:aaq φ op e σ x y μ=(ixL x y μ).bind (aap φ op e σ x y):=rfl
theorem Lz {op:Operator} {e:Ex} {x y old:D}:aap φ op e σ x y old μ=(evE φ e σ μ).bind (Y1 op σ x y old):=rfl
theorem Fu {x y:D} {i j:Int}:Y1 .Add σ x y (.int i) (.int j) μ=Y0 σ x y (.int (i+j)) μ:=rfl
theorem Fv {x y:D} {i j:Int}:Y1 .Sub σ x y (.int i) (.int j) μ=Y0 σ x y (.int (i-j)) μ:=rfl
theorem L0 {x y z:D}:Y0 σ x y z μ=(ur x y z μ).bind (kNx σ):=rfl
end
section
variable {μ : Sto}
theorem abq {α β:Type} (a:α) (f:α->Sto->Res β):(Res.ok a μ).bind f=f a μ:=rfl
theorem abr {α β:Type} (a:α) (k:α->Res β):qm (some a) k=k a:=rfl
theorem adz (d:D):finD (.rt d) μ=.ok d μ:=rfl
theorem ad0 (σ:Sl):finD (.nx σ) μ=.ok .non μ:=rfl
theorem ad1 {α β:Type} (f:α->β) (a:α) (l:List α):(a::l).map f=f a::l.map f:=rfl
theorem ad2 {α β:Type} (f:α->β):([]:List α).map f=[]:=rfl
theorem ad3 {α:Type} (a:α) (l m:List α):a::l++m=a::(l++m):=rfl
theorem ad4 {α:Type} (m:List α):[]++m=m:=rfl
theorem ad5 {α:Type} (a:α) (l:List α):(a::l)[0]? = some a:=rfl
theorem ad6 {α:Type} (a:α) (l:List α) (i:Nat):(a::l)[i+1]? = l[i]?:=rfl
theorem ad7 {α:Type} (a b:α) (l:List α):(a::l).set 0 b=b::l:=rfl
theorem ad8 {α:Type} (a b:α) (l:List α) (i:Nat):(a::l).set (i+1) b=a::l.set i b:=rfl
theorem ad9 {α:Type} (a b:α):(some a).getD b=a:=rfl
theorem aea {op:Operator} {m:Mk} {i j:Int}:opD op m (.int i) (.int j) μ=opI op i j μ:=D7
theorem aeb {i j:Int}:opI .Add i j μ=.ok (.int (i+j)) μ:=op_add
theorem aec {i j:Int}:opI .Sub i j μ=.ok (.int (i-j)) μ:=op_sub
theorem aed {d:D} {b:Nat}:uu true b (.ok d μ)=.ok d μ:=ud
end
theorem EV1:type_of% (@Xm)/\type_of% (@Xn)/\type_of% (@Xo)/\type_of% (@Xp)/\type_of% (@Xq)/\type_of% (@Xr)/\type_of% (@abi)/\type_of% (@Xs)/\type_of% (@Xt)/\type_of% (@Xu)/\type_of% (@Qp)/\type_of% (@Qq)/\type_of% (@Xv)/\type_of% (@Xw)/\type_of% (@Qr)/\type_of% (@abj)/\type_of% (@abk)/\type_of% (@Xx)/\type_of% (@Xy)/\type_of% (@Xz)/\type_of% (@Qs)/\type_of% (@Qt)/\type_of% (@K6)/\type_of% (@abl)/\type_of% (@abm)/\type_of% (@Qu)/\type_of% (@K7)/\type_of% (@X0)/\type_of% (@X3)/\type_of% (@Qv)/\type_of% (@X4)/\type_of% (@Qw):=⟨@Xm,@Xn,@Xo,@Xp,@Xq,@Xr,@abi,@Xs,@Xt,@Xu,@Qp,@Qq,@Xv,@Xw,@Qr,@abj,@abk,@Xx,@Xy,@Xz,@Qs,@Qt,@K6,@abl,@abm,@Qu,@K7,@X0,@X3,@Qv,@X4,@Qw⟩
theorem EV2:type_of% (@Qx)/\type_of% (@X5)/\type_of% (@X6)/\type_of% (@Qy)/\type_of% (@abn)/\type_of% (@X7)/\type_of% (@Qz)/\type_of% (@X8)/\type_of% (@Q0)/\type_of% (@X9)/\type_of% (@Q1)/\type_of% (@Q2)/\type_of% (@K8)/\type_of% (@B8)/\type_of% (@Yk)/\type_of% (@Fk)/\type_of% (@K9)/\type_of% (@Q3)/\type_of% (@Q4)/\type_of% (@Ya)/\type_of% (@Yb)/\type_of% (@Q5)/\type_of% (@Q6)/\type_of% (@Le)/\type_of% (@Q7)/\type_of% (@Q8)/\type_of% (@Rj)/\type_of% (@Rk)/\type_of% (@Rl)/\type_of% (@Lg)/\type_of% (@Lh)/\type_of% (@Rm):=⟨@Qx,@X5,@X6,@Qy,@abn,@X7,@Qz,@X8,@Q0,@X9,@Q1,@Q2,@K8,@B8,@Yk,@Fk,@K9,@Q3,@Q4,@Ya,@Yb,@Q5,@Q6,@Le,@Q7,@Q8,@Rj,@Rk,@Rl,@Lg,@Lh,@Rm⟩
theorem EV3:type_of% (@Li)/\type_of% (@Fm)/\type_of% (@Lj)/\type_of% (@Q9)/\type_of% (@Ra)/\type_of% (@Lk)/\type_of% (@Yc)/\type_of% (@Yd)/\type_of% (@Fn)/\type_of% (@Fo)/\type_of% (@Fq)/\type_of% (@Ll)/\type_of% (@Lm)/\type_of% (@Ln)/\type_of% (@B9)/\type_of% (@Lo)/\type_of% (@Lq)/\type_of% (@Rn)/\type_of% (@Lu)/\type_of% (@Ls)/\type_of% (@Ye)/\type_of% (@Yf)/\type_of% (@Ro)/\type_of% (@Lv)/\type_of% (@Rb)/\type_of% (@Rc)/\type_of% (@Rf)/\type_of% (@Rg)/\type_of% (@Res.bg)/\type_of% (@qz)/\type_of% (@Ca)/\type_of% (@o9):=⟨@Li,@Fm,@Lj,@Q9,@Ra,@Lk,@Yc,@Yd,@Fn,@Fo,@Fq,@Ll,@Lm,@Ln,@B9,@Lo,@Lq,@Rn,@Lu,@Ls,@Ye,@Yf,@Ro,@Lv,@Rb,@Rc,@Rf,@Rg,@Res.bg,@qz,@Ca,@o9⟩
theorem EV4:type_of% (@La)/\type_of% (@Lb)/\type_of% (@Lc)/\type_of% (@D7)/\type_of% (@op_add)/\type_of% (@op_sub)/\type_of% (@Yg)/\type_of% (@Yh)/\type_of% (@Yi)/\type_of% (@Yj)/\type_of% (@Rh)/\type_of% (@Ri)/\type_of% (@Fp)/\type_of% (@bt_min)/\type_of% (@bt_max)/\type_of% (@jg)/\type_of% (@K3)/\type_of% (@K4)/\type_of% (@AR.{0,0})/\type_of% (@DJ.{0,0})/\type_of% (@Fs)/\type_of% (@Ft)/\type_of% (@EG.{0})/\type_of% (@HP.{0})/\type_of% (@EB.{0})/\type_of% (@FC.{0})/\type_of% (@FG.{0})/\type_of% (@FH.{0})/\type_of% (@FA.{0})/\type_of% (@ud):=⟨@La,@Lb,@Lc,@D7,@op_add,@op_sub,@Yg,@Yh,@Yi,@Yj,@Rh,@Ri,@Fp,@bt_min,@bt_max,@jg,@K3,@K4,@AR.{0,0},@DJ.{0,0},@Fs,@Ft,@EG.{0},@HP.{0},@EB.{0},@FC.{0},@FG.{0},@FH.{0},@FA.{0},@ud⟩
theorem EV5:type_of% (@Yl)/\type_of% (@Lw)/\type_of% (@Rp)/\type_of% (@Lx)/\type_of% (@Ly)/\type_of% (@Lz)/\type_of% (@Fu)/\type_of% (@Fv)/\type_of% (@L0):=⟨@Yl,@Lw,@Rp,@Lx,@Ly,@Lz,@Fu,@Fv,@L0⟩
end Lr
local macro_rules | `(tactic| simp! only [$ls,*]) => do
  let mut a := ls.getElems
  for s in "Xm Xn Xo Xp Xq Xr abi Xs Xt Xu Qp Qq Xv Xw Qr abj abk Xx Xy Xz Qs Qt K6 abl abm Qu K7 X0 X3 Qv X4 Qw Qx X5 X6 Qy abn X7 Qz X8 Q0 X9 Q1 Q2 K8 B8 Fk K9 Q3 Q4 Ya Yb Q5 Q6 Q7 Q8 Yc Yd Q9 Ra Fm Ye Yf Rb Rc Rf Rg B9 Fn Fo Ca Yg Yh Yi Yj Rh Ri Fp bt_min bt_max jg o9 La Lb Lc Yk Le Rj Rk Lg Rl Lh Li Rm Lj Lk Fq Ll Lm Ln Lo Lq Ls Lu Rn Ro Lv Fs Ft Yl Lw Rp Lx Ly Lz Fu Fv L0 abq abr adz ad0 ad1 ad2 ad3 ad4 ad5 ad6 ad7 ad8 ad9 aea aeb aec aed Nat.reduceSub decide_true decide_false Bool.not_true Bool.not_false".splitOn " " do
    a := a.push ⟨(<- `(Lean.Parser.Tactic.simpLemma| $(Lean.mkIdent ((s.splitOn ".").foldl Lean.Name.mkStr .anonymous)):ident)).raw⟩
  `(tactic| simp only [$a,*])
namespace Lr
open Lp
open PySem
def ip (c:Int):Int:=((c % 10 ^ 60+1)*69621 % 2147483647)*((c % 10 ^ 60+1)*69621 % 2147483647) % 1000000007 / 7
def w8 (c most:Int):Int:=if ip c % 8<6 then min most (ip c / 8 % 13)else if ip c % 8=6 then most-ip c / 8 % 2 else c % (most+1)
def Lf (cs:List Int):O:=.l (cs.reverse.map D.int)
@[simp] theorem abt (cs:List Int):noR (Lf cs)=true:=rfl
section
variable {n : Nat} {μ ρ : Sto}
theorem Uo (cs:List Int):ak GL (n+1) dq [.loc 0] (Lf cs::ρ)=.ok (.int (cs.headD 0)) (Lf cs.tail::ρ):=by
 rw[ao Hs,run_eq rfl]
 cases cs with
 | nil=>simp[D_law_next,qa,evS,evE,evC,jh,btD,seq1,cv,Lf,cpD]
 | cons c r=>simp[D_law_next,qa,evS,evE,evC,jh,btD,seq1,cv,Lf,cpD,jb,Lp.listOf,mtD,tq,mtL,gj,putL]
theorem pd (hr:∀cs,l5 (Lf cs::ρ)) (cs:List Int):w6 (ak GL (n+1)) false dq [.loc 0] (Lf cs::ρ)=.ok (.int (cs.headD 0)) (Lf cs.tail::ρ) :=
 av (Uo cs) rfl rfl (hr _)
theorem Uq (c:Int):ak GL (n+1) ee [.int c] μ=.ok (.int (ip c)) μ:=by
 rw[ao Ht,run_eq rfl]
 have h1:(0:Int)<=(c % 10 ^ 60+1)*69621 % 2147483647:=BL _ (by decide)
 have h2:(c % 10 ^ 60+1)*69621 % 2147483647<2147483647:=BM _ (by decide)
 have hm:CMul ((c % 10 ^ 60+1)*69621 % 2147483647) ((c % 10 ^ 60+1)*69621 % 2147483647):=.left (by lia) (by lia)
 have hm0:CMul (c % 10 ^ 60+1) 69621:=.right (by decide) (by decide)
 have e1:opI .Pow 10 60 μ=.ok (.int (10 ^ 60)) μ:=op_pow (by decide)
 simp! only[D_law_turn,e1,op_mod (show(0:Int)<10 ^ 60 by decide),op_mul hm0,op_mod (show(0:Int)<2147483647 by decide),op_mul hm,op_mod (show(0:Int)<1000000007 by decide),ir (show(0:Int)<7 by decide) (by decide),ip]
theorem vc (c:Int):0<=ip c:=Int.ediv_nonneg (BL _ (by decide)) (by decide)
theorem oi (hr:l5 μ) (c:Int):w6 (ak GL (n+1)) false ee [.int c] μ=.ok (.int (ip c)) μ:=av (Uq c) rfl rfl hr
theorem Ur (hr:l5 μ) (c most:Int) (hm:0<=most):ak GL (n+2) i8 [.int c,.int most] μ=.ok (.int (w8 c most)) μ:=by
 rw[ao Hu,run_eq rfl]
 have f8:∀x:Int,opI .Mod x 8 μ=.ok (.int (x % 8)) μ:=λx=>op_mod (by decide)
 by_cases h1:ip c % 8<6
 ·simp! only[D_law_size,oi hr,f8,h1,ir (show(0:Int)<8 by decide) (by decide),op_mod (show(0:Int)<13 by decide),w8,if_true]
 ·by_cases h2:ip c % 8=6
  ·simp! only[D_law_size,oi hr,f8,h1,h2,ir (show(0:Int)<8 by decide) (by decide),op_mod (show(0:Int)<2 by decide),w8,if_true,if_false,Int.reduceLT]
  ·simp! only[D_law_size,oi hr,f8,h1,h2,op_mod (show(0:Int)<most+1 by lia),w8,if_false]
theorem D9 (hr:l5 μ) (c most:Int) (hm:0<=most):w6 (ak GL (n+2)) false i8 [.int c,.int most] μ=.ok (.int (w8 c most)) μ :=
 av (Ur hr c most hm) rfl rfl hr
theorem Ox {c most:Int} (hm:1<=most):0<=w8 c most/\w8 c most<=most:=by
 have h1:=vc c
 have h3:0<=c % (most+1):=BL _ (by lia)
 have h4:c % (most+1)<most+1:=BM _ (by lia)
 unfold w8
 split
 ·lia
 ·split<;>lia
theorem Oy (c:Int):ak GL (n+1) n4 [.int c] μ=.ok (.bl true) μ:=by
 rw[ao D1,run_eq rfl]
 simp! only[D_law_whole,Qb]
end
open PySem
structure Lamp where
 tank:Int
 oil:Int
 away:List Int
structure Day where
 boat:Int
 most:Int
 price:Int
 length:Int
 wanted:Int
structure Book where
 store:Int
 oil:Int
 lamps:List Lamp
 days:List Day
def cw (ns:List Int):D:=.tup (ns.map D.int)
def d5 (l:Lamp):D:=.tup [.int l.tank,.int l.oil,cw l.away]
def mz (d:Day):D:=.tup [.int d.boat,.int d.most,.int d.price,.int d.length,.int d.wanted]
def cm (b:Book):D:=.tup [.int b.store,.int b.oil,.tup (b.lamps.map d5),.tup (b.days.map mz)]
theorem nq {k:Nat} (ns:List Int):D.pureN (k+1) (cw ns)=true:=by
 simp![cw,dy,DA,AN]
 exact λx _=>eh
theorem sg {k:Nat} (l:Lamp):D.pureN (k+2) (d5 l)=true:=by
 simp![d5,dy,BB,Ev,FL,GC,eh,nq]
theorem Oz {k:Nat} (l:Day):D.pureN (k+1) (mz l)=true:=by
 simp![mz,dy,BB,Ev,FL,GC,eh]
theorem Ea {b:Book} {μ:Sto}:ixD (cm b) (.int 0) μ=.ok (.int b.store) μ:=rfl
theorem Eb {b:Book} {μ:Sto}:ixD (cm b) (.int 1) μ=.ok (.int b.oil) μ:=rfl
theorem pf {b:Book} {μ:Sto}:ixD (cm b) (.int 2) μ=.ok (.tup (b.lamps.map d5)) μ:=rfl
theorem gp {b:Book} {μ:Sto}:ixD (cm b) (.int 3) μ=.ok (.tup (b.days.map mz)) μ:=rfl
theorem O0 {b:Lamp} {μ:Sto}:ixD (d5 b) (.int 0) μ=.ok (.int b.tank) μ:=rfl
theorem Ym {b:Lamp} {μ:Sto}:ixD (d5 b) (.int 1) μ=.ok (.int b.oil) μ:=rfl
theorem Yn {b:Lamp} {μ:Sto}:ixD (d5 b) (.int 2) μ=.ok (cw b.away) μ:=rfl
section
variable {n : Nat} {μ ρ : Sto}
theorem p30:opI .Pow 10 30 μ=.ok (.int (10 ^ 30)) μ:=op_pow (by decide)
theorem p15:opI .Pow 10 15 μ=.ok (.int (10 ^ 15)) μ:=op_pow (by decide)
end
section
variable {n : Nat} {μ : Sto}
theorem xg (ns:List Int):(ns.map D.int).all flat=true:=by
 rw[DA,AN]
 exact λ_ _=>rfl
theorem any_ints (ns:List Int) (k:Int):((ns.map D.int).any λy=>deq y (.int k))=decide (k∈ns):=by
 rw[KO]
 induction ns with
 | nil=>rfl
 | cons a r ih =>
  simp![Do,ih,Function.comp,deq,AL]
  by_cases h:a=k
  ·simp[h]
  ·simp[h,Ne.symm h]
theorem Al {ns:List Int} {k:Int}:cpD .notin (.int k) (cw ns) μ=.ok (.bl (!decide (k∈ns))) μ:=by
 simp![cpD,cw,a9,flat,xg,and_self,if_true,any_ints]
theorem Hz {b:Book} {k:Nat} {l:Lamp} (hl:b.lamps[k]? = some l) (y:Int):ak GL (n+1) qd [cm b,.int k,.int y] μ=.ok (.bl (!decide (y∈l.away))) μ:=by
 rw[ao Hr,run_eq rfl]
 simp! only[D_can_burn,pf,bo hl,d5,Al]
end
open PySem
theorem L3 (ns:List Int):mkL .l (ns.map D.int).reverse []=.ok (.loc 0) [Lf ns]:=by
 have hall:(ns.map D.int).reverse.all (D.pureN 8)=true:=by
  rw[<-HF,DA,AN]
  exact λ_ _=>rfl
 simp![mkL,hall,if_true,Lf,HF,CW,HP]
theorem Ia {μ:Sto} {ds:List D}:listOf μ (.lst ds)=some ds:=rfl
theorem xj {k:Nat} (ih:∀d:D,D.pureN k d=true->deq d d=true):∀ds:List D,ds.all (D.pureN k)=true->G6 ds ds=true
 | [],_=>by rw[G6]
 | d::r,h=>by
  simp![BB,BC]at h
  rw[G6,ih d h.1,xj ih r h.2];rfl
theorem Am:∀(k:Nat) (d:D),D.pureN k d=true->deq d d=true
 | 0,d,h=>by cases d<;>simp_all[D.pureN,deq]
 | k+1,d,h=>by
  cases d with
  | tup ds=>rw[deq];exact xj (Am k) ds h
  | lst ds=>rw[deq];exact xj (Am k) ds h
  | loc n=>simp[D.pureN]at h
  | _=>simp[deq]
theorem O1 (xs:List D) (k:Nat):cut xs none (some (k:Int))=xs.take k:=by
 simp![cut,sIx]
 rw[if_neg (by lia)]
 simp[List.take_eq_take_iff]
theorem O2 (xs:List D) (k:Nat):cut xs (some (k:Int)) none=xs.drop k:=by
 simp![cut,sIx]
 rw[if_neg (by lia)]
 by_cases h:k<=xs.length
 ·rw[CI,Nat.min_eq_left h,BY (by simp)]
 ·rw[CI,Nat.min_eq_right (by lia),JN (show xs.length<=k by lia)];simp
section
variable {n : Nat} {μ ρ : Sto} {m : Mk} {φ : Phi} {σ : Sl} {es : Exs}
theorem oj {xs:List D} {k:Nat}:slD m (.tup xs) none (some (k:Int)) μ=.ok (.tup (xs.take k)) μ:=by rw[slD,O1]
theorem ph {xs:List D} {k:Nat}:slD m (.tup xs) (some (k:Int)) none μ=.ok (.tup (xs.drop k)) μ:=by rw[slD,O2]
theorem O3 {xs:List D}:slD m (.tup xs) (some 1) none μ=.ok (.tup (xs.drop 1)) μ:=ph (k:=1)
theorem op_cat {xs ys:List D} (h:xs.length+ys.length<=1000000):opD .Add m (.tup xs) (.tup ys) μ=.ok (.tup (xs++ys)) μ:=by
 have:=ny
 simp![opD]
 rw[if_pos (by lia)]
theorem fw {f:Nat} {ds:List D} {d:D} (h:φ f ds μ=.ok d (μ++ρ)) (hd:d.pure=true) (hr:l5 μ):w6 φ false f ds μ=.ok d μ:=by
 rw[w6,h]
 have e:(μ++ρ).take μ.length=μ:=by simp
 have hr':μ.all (gc μ.length)=true:=hr
 simp![uu,AS,if_false,e,nk _ 8 d hd,hr',and_self,if_true]
theorem iq {o:O}:(μ++[o])[μ.length]? = some o:=by simp
theorem vd {o o':O}:(μ++[o]).set μ.length o'=μ++[o']:=by simp
theorem Cb {ds:List D} (h:ds.all (D.pureN 8)=true):mkL .l ds μ=.ok (.loc μ.length) (μ++[.l ds]):=by simp![mkL,h,if_true]
theorem Fw {ds:List D}:cv (μ++[.l ds]) (.loc μ.length)=some ds:=by simp![cv,iq]
theorem Us {mt:Mt} {ds:List D} (h:∀d μ,jb mt d μ=(Lp.listOf μ d).isSome):kM φ mt es σ (.loc μ.length) (μ++[.l ds])=(jh φ es σ (μ++[.l ds])).bind (mtD mt (.loc μ.length)):=by
 refine D8 ?_
 rw[h]
 simp![Lp.listOf,iq];rfl
theorem yy {ds:List D}:kM φ .append es σ (.loc μ.length) (μ++[.l ds])=(jh φ es σ (μ++[.l ds])).bind (mtD .append (.loc μ.length)):=Us λ_ _=>rfl
theorem Fx {ds:List D} {d:D} (hd:d.pure=true) (hl:ds.length<1000000):mtD .append (.loc μ.length) [d] (μ++[.l ds])=.ok .non (μ++[.l (ds++[d])]):=by
 have:=ny
 simp![mtD,tq,iq,gj,mtL,ff,fits,hd,putL,vd]
 rw[if_pos ⟨trivial,by lia⟩]
theorem jn {α:Type} {tg:Tg} {b:Sms} {xs:List α} {en:α->D} (I:Nat->Sl->Sto->Prop) (h0:I 0 σ μ) (st:∀(k:Nat) a σ μ,xs[k]? = some a->I k σ μ->∃σ' μ',fLp φ tg b (en a) σ μ=.ok (.nx σ') μ'/\I (k+1) σ' μ') :
  ∃σ' μ',ue φ tg b σ (xs.map en,none) μ=.ok (.nx σ') μ'/\I xs.length σ' μ':=by
 obtain⟨σ',μ',e,i⟩:=Ak (f:=fLp φ tg b) I (ds:=xs.map en) (σ:=σ) (μ:=μ) 0 h0 λj d σ μ' e i=>by
  rw[AW]at e
  cases ex:xs[j]? with
  | none=>rw[ex]at e;cases e
  | some a =>
   rw[ex]at e
   cases e
   obtain⟨σ',μ'',e',i'⟩:=st j a σ μ' ex (by simpa using i)
   exact⟨σ',μ'',e',by simpa using i'⟩
 exact⟨σ',μ',e,by simpa using i⟩
end
open PySem
theorem L4 (x y:Int):∀l:List Int,y∈insI x l↔y=x\/y∈l
 | []=>by simp[insI]
 | z::r=>by
  rw[insI]
  split
  ·simp
  ·simp![AL,L4 x y r]
   exact or_left_comm
theorem Fy (y:Int):∀l:List Int,y∈sortI l↔y∈l
 | []=>by simp[sortI]
 | x::r=>by rw[sortI,L4,Fy y r,AL]
theorem Ut (y:Int) (l:List Int):y∈zl l↔y∈l:=by
 have gen:∀(l σ:List Int),y∈l.foldl (λσ k=>if σ.any (·==k)then σ else σ++[k]) σ↔y∈σ\/y∈l:=by
  intro l
  induction l with
  | nil=>intro σ;simp
  | cons x r ih =>
   intro σ
   rw[JQ,ih]
   by_cases h:(σ.any (·==x))=true
   ·rw[if_pos h]
    have hx:x∈σ:=by simpa using h
    simp![AL]
    constructor
    ·rintro(q | q)
     ·exact .inl q
     ·exact .inr (.inr q)
    ·rintro(q | rfl | q)
     ·exact .inl q
     ·exact .inl hx
     ·exact .inr q
   ·rw[if_neg h]
    simp![CM,AL,BI,or_false,or_assoc]
 rw[zl,gen];simp
open PySem
def sq (b:Bool) (ds:List D):D:=match b with
 | true=>.lst ds
 | false=>.tup ds
open PySem
section
variable {n : Nat} {μ : Sto}
theorem ints_snoc {ns:List Int} {a:Int} (h:ns.length<=1000):opD .Add .z (cw ns) (.tup [.int a]) μ=.ok (cw (ns++[a])) μ:=by
 show opD .Add .z (.tup (ns.map D.int)) (.tup [.int a]) μ=_
 rw[op_cat (by simp;omega)]
 simp[cw]
end
open PySem
section
variable {n : Nat} {μ ρ : Sto}
theorem fmod {x:Int} {k:Nat} (h:1<=k):opI .Mod x k μ=.ok (.int ((x % k).toNat:Nat)) μ:=by
 rw[op_mod (by omega)]
 congr 2
 have:=BL x (show(k:Int)≠0 by omega)
 omega
theorem An (x:Int) {k:Nat} (h:1<=k):(x % k).toNat<k:=by
 have:=BL x (show(k:Int)≠0 by omega)
 have:=BM x (show(0:Int)<k by omega)
 omega
end
open PySem
section
variable {n : Nat} {μ ρ : Sto}
theorem uf {b c:Nat} (h:b<=c):∀(k:Nat) (d:D),D.belowN b k d=true->D.belowN c k d=true
 | 0,d,e=>by cases d<;>simp_all[D.belowN];omega
 | k+1,d,e=>by
  cases d with
  | tup ds =>
   simp![D.belowN,AN]at e ⊢
   exact λx hx=>uf h k x (e x hx)
  | lst ds =>
   simp![D.belowN,AN]at e ⊢
   exact λx hx=>uf h k x (e x hx)
  | loc n=>simp_all[D.belowN];omega
  | _=>rfl
theorem Ec {b c:Nat} (h:b<=c) (o:O) (e:gc b o=true):gc c o=true:=by
 cases o with
 | r ds =>
  simp![gc,AN]at e ⊢
  exact λx hx=>uf h 8 x (e x hx)
 | _=>rfl
theorem Fz (hr:l5 μ) {i:Nat} {o:O} (ho:gc μ.length o=true):l5 (μ.set i o):=by
 unfold l5 at hr ⊢
 rw[JP,AN]
 rw[AN]at hr
 intro x hx
 rcases EM hx with h | rfl
 ·exact hr x h
 ·exact ho
end
open PySem
section
variable {n : Nat} {μ ρ : Sto}
structure Span where
 lamp:Int
 start:Int
 fin:Int
def eSpan (s:Span):D:=.tup [.int s.lamp,.int s.start,.int s.fin]
def eu (k st much L:Int):List Span:=if much=0 then []else if st+much<=L then [⟨k,st,st+much⟩]else [⟨k,0,st+much-L⟩,⟨k,st,L⟩]
theorem xk {k:Nat} (s:Span):D.pureN (k+1) (eSpan s)=true:=by simp![eSpan,dy,BB,Ev,FL,eh]
structure Fit (L:Int) (ts:List Int) (w:Int):Prop where
 each:∀t∈ts,0<=t/\t<=L
 all:ts.sum=w*L
end
open PySem
def uq (L:Int):List Int->Int->Int->List Span
 | [],_,_=>[]
 | t::r,k,st=>eu k st t L++uq L r (k+1) ((st+t) % L)
def Ao (L:Int):List Int->Int->Int
 | [],st=>st
 | t::r,st=>Ao L r ((st+t) % L)
theorem ve {b c:Nat} (h:b<=c):∀(k:Nat) (d:D),D.belowN b k d=true->D.belowN c k d=true
 | 0,d,e=>by cases d<;>simp_all[D.belowN];lia
 | k+1,d,e=>by
  cases d with
  | tup ds =>
   simp![D.belowN,AN]at e ⊢
   exact λx hx=>ve h k x (e x hx)
  | lst ds =>
   simp![D.belowN,AN]at e ⊢
   exact λx hx=>ve h k x (e x hx)
  | loc n=>simp_all[D.belowN];lia
  | _=>rfl
section
variable {n : Nat} {μ ρ : Sto} {φ : Phi} {es : Exs} {σ : Sl}
theorem Cc (hr:l5 μ) (ds:List D):l5 (μ++[.l ds]):=by
 unfold l5 at hr ⊢
 rw[AN]at hr ⊢
 intro o ho
 rcases CM.mp ho with h | h
 ·have:=hr o h
  cases o with
  | r xs =>
   simp![gc,AN]at this ⊢
   exact λx hx=>ve (by simp) 8 x (this x hx)
  | _=>rfl
 ·simp![CV]at h
  subst h;rfl
end
open PySem
def cov (ss:List Span) (t:Int):Nat:=ss.countP λs=>decide (s.start<=t/\t<s.fin)
theorem O4 {L st x:Int} (h0:0<=st) (h1:st<L) (hx:0<=x) (hx2:x<=L):(st+x<L/\(st+x) % L=st+x)\/(L<=st+x/\(st+x) % L=st+x-L):=by
 by_cases h:st+x<L
 ·exact .inl ⟨h,GW (by lia) h⟩
 ·refine .inr ⟨by lia,?_⟩
  have e:(st+x) % L=(st+x-L) % L:=by rw[Int.sub_emod_right]
  rw[e]
  exact GW (by lia) (by lia)
theorem O5 {L k st x t:Int} (h0:0<=st) (h1:st<L) (hx:0<=x) (hx2:x<=L) (t0:0<=t) (t1:t<L) :
  ((cov (eu k st x L) t:Nat):Int)=if x=0 then 0 else if st+x<=L then(if st<=t/\t<st+x then 1 else 0)else(if t<st+x-L then 1 else 0)+(if st<=t then 1 else 0):=by
 unfold eu
 by_cases hz:x=0
 ·simp[hz,cov]
 ·rw[if_neg hz,if_neg hz]
  by_cases hl:st+x<=L
  ·rw[if_pos hl,if_pos hl]
   simp![cov,EI,List.countP_nil,decide_eq_true_eq]
   split<;>simp
  ·rw[if_neg hl,if_neg hl]
   simp![cov,EI,List.countP_nil,decide_eq_true_eq]
   by_cases a:t<st+x-L<;>by_cases b:st<=t<;>simp[a,b,t0,t1]
theorem Ap (a b:List Span) (t:Int):cov (a++b) t=cov a t+cov b t:=by simp[cov,List.countP_append]
theorem L5 {L t:Int} (t0:0<=t) (t1:t<L):∀(ts:List Int) (k st q:Int),0<=st->st<L->(∀x∈ts,0<=x/\x<=L) ->
  ∃q',q'*L+Ao L ts st=q*L+st+ts.sum/\0<=Ao L ts st/\Ao L ts st<L/\(cov (uq L ts k st) t:Int)+q+(if t<st then 1 else 0)=q'+(if t<Ao L ts st then 1 else 0)
 | [],k,st,q,h0,h1,_=>⟨q,by simp[Ao],h0,h1,by by_cases h:t<st<;>simp[uq,cov,Ao,h]⟩
 | x::r,k,st,q,h0,h1,hb=>by
  have hx:=hb x AQ
  have c:=O5 (k:=k) h0 h1 hx.1 hx.2 t0 t1
  have hr:∀y∈r,0<=y/\y<=L:=λy hy=>hb y (AH _ hy)
  rcases O4 h0 h1 hx.1 hx.2 with⟨hl,e⟩ | ⟨hl,e⟩
  ·obtain⟨q',a1,a2,a3,a4⟩:=L5 t0 t1 r (k+1) (st+x) q (by lia) hl hr
   refine⟨q',?_,?_,?_,?_⟩
   ·simp![Ao,e,DH];lia
   ·simp![Ao,e];exact a2
   ·simp![Ao,e];exact a3
   ·simp![Ao,uq,e,Ap,Int.natCast_add]
    rw[c]
    split at a4<;>split at a4<;>(repeat' split)<;>lia
  ·obtain⟨q',a1,a2,a3,a4⟩:=L5 t0 t1 r (k+1) (st+x-L) (q+1) (by lia) (by lia) hr
   refine⟨q',?_,?_,?_,?_⟩
   ·simp![Ao,e,DH]
    rw[Int.add_mul]at a1;lia
   ·simp![Ao,e];exact a2
   ·simp![Ao,e];exact a3
   ·simp![Ao,uq,e,Ap,Int.natCast_add]
    rw[c]
    split at a4<;>split at a4<;>(repeat' split)<;>lia
theorem O6 {L w t:Int} {ts:List Int} (hf:Fit L ts w) (t0:0<=t) (t1:t<L):(cov (uq L ts 0 0) t:Int)=w:=by
 obtain⟨q',a1,a2,a3,a4⟩:=L5 t0 t1 ts 0 0 0 (by lia) (by lia) hf.each
 have hL:L≠0:=by lia
 rw[hf.all]at a1
 have e0:Ao L ts 0=0:=by
  have e1:Ao L ts 0=(w-q')*L:=by rw[Int.sub_mul];lia
  have e2:Ao L ts 0 % L=Ao L ts 0:=GW a2 a3
  rw[e1,Int.mul_emod_left]at e2
  rw[e1];exact e2.symm
 have e3:q'=w:=by
  rw[e0]at a1
  have:q'*L=w*L:=by omega
  exact Int.eq_of_mul_eq_mul_right hL this
 rw[e0]at a4
 have z:¬t<0:=by lia
 rw[if_neg z]at a4
 lia
open PySem
section
variable {n : Nat} {μ ρ : Sto} {φ : Phi} {σ : Sl}
theorem Yo {i:Nat} {k:Nat} {ds:List D} (h:σ[i]? = some (some (.loc k))) (h2:μ[k]? = some (.l ds)):evE φ (.frz i) σ μ=.ok (.lst ds) (μ.set k .dead):=by simp![evE,h,h2]
end
open PySem
def encM (m:List (Int×Int)):List (D×D):=m.map λp=>(D.int p.1,D.int p.2)
def dn:List (Int×Int)->Int->Option Int
 | [],_=>none
 | p::r,k=>if p.1=k then some p.2 else dn r k
def Cy (m:List (Int×Int)) (k v:Int):List (Int×Int):=if(m.any λp=>decide (p.1=k))=true then m.map (λp=>if p.1=k then(p.1,v)else p)else m++[(k,v)]
theorem F0 (k:Int):∀m:List (Int×Int),Jl (.int k) (encM m)=(dn m k).map D.int
 | []=>rfl
 | p::r=>by
  have ih:=F0 k r
  simp![encM,AR]at ih ⊢
  rw[Jl,dn,deq]
  by_cases h:p.1=k
  ·simp[h]
  ·simp![h,decide_false,if_false,AS];exact ih
theorem Uu (k:Int) (m:List (Int×Int)):((encM m).any λp=>deq p.1 (.int k))=m.any λp=>decide (p.1=k):=by
 simp![encM,KO]
 congr 1
theorem F3 (m:List (Int×Int)) (k v:Int):dput (.int k) (.int v) (encM m)=encM (Cy m k v):=by
 unfold dput Cy
 rw[Uu]
 split
 ·simp![encM,AY]
  refine CF λp _=>?_
  simp![Function.comp,deq]
  by_cases h:p.1=k
  ·simp[h]
  ·simp[h]
 ·simp[encM]
theorem F4:∀(m:List (Int×Int)) (k:Int),(m.any λp=>decide (p.1=k))=(dn m k).isSome
 | [],_=>rfl
 | p::r,k=>by
  rw[Do,dn,F4 r k]
  by_cases h:p.1=k<;>simp[h]
theorem F5 (k v k':Int):∀m:List (Int×Int),dn (m.map λp=>if p.1=k then(p.1,v)else p) k'=if k'=k then(dn m k).map λ_=>v else dn m k'
 | []=>by simp[dn]
 | p::r=>by
  have ih:=F5 k v k' r
  simp![AR,dn]
  by_cases h:p.1=k
  ·by_cases h':k'=k
   ·subst h';simp[h]
   ·have:¬p.1=k':=λz=>h' (z.symm.trans h)
    simp![h,if_true,ih,h',if_false]
    have h2:¬k=k':=λz=>h' z.symm
    simp[h2]
  ·by_cases h':k'=k
   ·subst h';simp![h,if_false,ih,if_true]
   ·simp![h,if_false,ih,h']
theorem Cd (k v k':Int):∀m:List (Int×Int),dn (m++[(k,v)]) k'=match dn m k' with
  | some x=>some x
  | none=>if k=k' then some v else none
 | []=>by simp[dn]
 | p::r=>by
  have ih:=Cd k v k' r
  simp![EG,dn]
  by_cases h:p.1=k'
  ·simp[h]
  ·simp![h,if_false,ih]
theorem om (m:List (Int×Int)) (k v k':Int):dn (Cy m k v) k'=if k'=k then some v else dn m k':=by
 unfold Cy
 rw[F4]
 split
 ·rename_i h
  rw[F5]
  obtain⟨x,hx⟩:=DZ.mp h
  simp[hx]
 ·rename_i h
  have hn:dn m k=none:=by simpa using h
  rw[Cd]
  by_cases h':k'=k
  ·subst h';simp[hn]
  ·have h2:¬k=k':=λz=>h' z.symm
   simp![h',h2,if_false]
   cases dn m k'<;>rfl
theorem vf (m:List (Int×Int)) (k v:Int):(Cy m k v).length<=m.length+1:=by
 unfold Cy
 split<;>simp
section
variable {n : Nat} {μ ρ : Sto} {φ : Phi} {σ : Sl}
theorem Aq {m:List (Int×Int)} {k x:Int}:mtD .get (.loc μ.length) [.int k,.int x] (μ++[.d (encM m)])=.ok (.int ((dn m k).getD x)) (μ++[.d (encM m)]):=by
 simp![mtD,Sz,dictAt,iq,M7,if_true,F0]
 cases dn m k<;>rfl
theorem L6 {es:Exs} {m:List (Int×Int)}:kM φ .get es σ (.loc μ.length) (μ++[.d (encM m)])=(jh φ es σ (μ++[.d (encM m)])).bind (mtD .get (.loc μ.length)):=D8 (by simp![jb,iq])
theorem set_dict {m:List (Int×Int)} {k v:Int} (h:m.length<1000000):ur (.loc μ.length) (.int k) (.int v) (μ++[.d (encM m)])=.ok () (μ++[.d (encM (Cy m k v))]):=by
 have:=ny
 have hl:(encM m).length<lim:=by simp![encM,AD];lia
 simp![ur,iq,M7,u9,hl,and_self,if_true,F3,vd]
def ay (ss:List Span) (k:Int):Int:=(ss.map λs=>if s.lamp=k then s.fin-s.start else 0).sum
theorem Ed (F:D) (lamps:Nat) (ss:List Span) (hF:∀ν:Sto,kSeq F ν=.ok (ss.map eSpan,none) ν) (hn:ss.length<=1000) (hl:lamps<=1000):∃ρ,ak GL (n+1) dr [.int lamps,F] μ=.ok (cw ((List.range lamps).map fun(k:Nat)=>ay ss k)) (μ++ρ):=by
 rw[ao ux,run_eq rfl]
 obtain⟨σ',μ',el,m,⟨v3,v4,v5,rfl⟩,rfl,hm,hk⟩:=jn (φ:=ak GL n) (μ:=μ++[.d []]) (tg:=.many [3,4,5]) (b:=gs) (xs:=ss) (en:=eSpan)
  (σ:=[some (.int lamps),some (F),some (.loc μ.length),none,none,none])
  (λj σ μ'=>∃m,(∃v3 v4 v5,σ=[some (.int lamps),some (F),some (.loc μ.length),v3,v4,v5])/\μ'=μ++[.d (encM m)]/\m.length<=j/\∀k,(dn m k).getD 0=ay (ss.take j) k)
  ⟨[],⟨none,none,none,rfl⟩,rfl,by simp,λk=>by simp[dn,ay]⟩ (by
   rintro j s σ μ' hs ⟨m,⟨v3,v4,v5,rfl⟩,rfl,hm,hk⟩
   have hj:j<ss.length:=(AF.mp hs).1
   refine⟨[some (.int lamps),some (F),some (.loc μ.length),some (.int s.lamp),some (.int s.start),some (.int s.fin)],μ++[.d (encM (Cy m s.lamp ((dn m s.lamp).getD 0+s.fin-s.start)))],?_,Cy m s.lamp ((dn m s.lamp).getD 0+s.fin-s.start),⟨_,_,_,rfl⟩,rfl,?_,λk=>?_⟩
   ·simp! only[fLp,gs,eSpan,L6,Aq,set_dict (show m.length<1000000 by lia)]
   ·have:=vf m s.lamp ((dn m s.lamp).getD 0+s.fin-s.start);lia
   ·have et:ay (ss.take (j+1)) k=ay (ss.take j) k+if s.lamp=k then s.fin-s.start else 0:=by
     rw[DQ,hs]
     simp[ay,EN]
    rw[om,et]
    by_cases h:k=s.lamp
    ·subst h
     have:=hk s.lamp
     simp![if_true,FA]
     lia
    ·have h2:¬s.lamp=k:=λz=>h z.symm
     simp![h,h2,if_false,hk k];lia)
 rw[BY (AI _)]at hk
 have hc:gy (ak GL n) .z (.one 1) .nil gu [some (.loc μ.length),none] ((List.range lamps).map fun(k:Nat)=>D.int k,none) (μ++[.d (encM m)])=.ok (.lst (((List.range lamps).map fun(k:Nat)=>ay ss k).map D.int)) (μ++[.d (encM m)]):=by
  rw[comp_map (en:=fun(k:Nat)=>D.int k) (g:=fun(k:Nat)=>D.int (ay ss k)) λk _=>by
   simp! only[iu,gu,L6,Aq,hk]]
  rw[jg,AY];rfl
 refine⟨[.d (encM m)],?_⟩
 have d0:Qc false [] μ=.ok (.loc μ.length) (μ++[.d []]):=rfl
 simp! only[D_ticks_of_spans,d0,hF,el,dz (show lamps<=1000000 by lia),hc,bt_tuple au,cw]
theorem yz (lamps:Nat) (ss:List Span) (hn:ss.length<=1000) (hl:lamps<=1000):∃ρ,ak GL (n+1) dr [.int lamps,.tup (ss.map eSpan)] μ=.ok (cw ((List.range lamps).map fun(k:Nat)=>ay ss k)) (μ++ρ):=Ed _ lamps ss (λ_=>rfl) hn hl
end
open PySem
def Nb (a b:Span):Prop:=a.lamp<b.lamp\/(a.lamp=b.lamp/\a.start<b.start/\a.fin<=b.start)
structure Good (L:Int) (lo hi:Int) (s:Span):Prop where
 lamp:lo<=s.lamp/\s.lamp<hi
 start:0<=s.start
 run:s.start<s.fin
 fin:s.fin<=L
theorem Ee {L k st x:Int} (h0:0<=st) (h1:st<L) (hx:0<=x) (hx2:x<=L):(eu k st x L).Pairwise Nb/\∀s∈eu k st x L,Good L k (k+1) s:=by
 unfold eu
 split
 ·exact⟨.nil,λs h=>by simp at h⟩
 ·split
  ·refine⟨by simp,λs h=>?_⟩
   simp![CV]at h
   subst h
   exact⟨⟨GM _,by show k<k+1;lia⟩,h0,by show st<st+x;lia,by show st+x<=L;lia⟩
  ·refine⟨?_,λs h=>?_⟩
   ·simp![BW,CV,BI,false_implies,implies_true,List.Pairwise.nil,and_true]
    rintro s rfl
    exact .inr ⟨rfl,by show(0:Int)<st;lia,by show st+x-L<=st;lia⟩
   ·simp![AL,BI,or_false]at h
    rcases h with rfl | rfl
    ·exact⟨⟨GM _,by show k<k+1;lia⟩,GM _,by show(0:Int)<st+x-L;lia,by show st+x-L<=L;lia⟩
    ·exact⟨⟨GM _,by show k<k+1;lia⟩,h0,by show st<L;lia,GM _⟩
theorem Ef:∀{ss:List Span},ss.Pairwise Nb->∀p∈ss.zip (ss.drop 1),Nb p.1 p.2
 | [],_,p,hp=>by simp at hp
 | [a],_,p,hp=>by simp at hp
 | a::c::r,h,p,hp=>by
  rcases AL.mp hp with rfl | hp
  ·exact(BW.mp h).1 c AQ
  ·exact Ef (BW.mp h).2 p hp
theorem L7 (a b:List Span) (k:Int):ay (a++b) k=ay a k+ay b k:=by simp[ay,EN]
theorem Ib {L k st x:Int} (k':Int) (hx:0<=x):ay (eu k st x L) k'=if k=k' then x else 0:=by
 unfold eu
 by_cases hz:x=0
 ·subst hz;simp[ay]
 ·rw[if_neg hz]
  by_cases hl:st+x<=L
  ·rw[if_pos hl]
   by_cases hk:k=k'<;>simp[ay,hk]
   lia
  ·rw[if_neg hl]
   by_cases hk:k=k'<;>simp[ay,hk]
   lia
open PySem
section
variable {n : Nat} {μ ρ : Sto} {φ : Phi} {σ : Sl}
theorem Rq (a b:Span):cpD .lt (eSpan a) (eSpan b) μ=.ok (.bl (lexLt [a.lamp,a.start,a.fin] [b.lamp,b.start,b.fin])) μ:=by
 have e:∀s:Span,gb [D.int s.lamp,.int s.start,.int s.fin]=some [s.lamp,s.start,s.fin]:=λs=>jf [s.lamp,s.start,s.fin]
 simp![cpD,eSpan,e]
theorem Yp {a b:Span} (h:Nb a b):lexLt [a.lamp,a.start,a.fin] [b.lamp,b.start,b.fin]=true:=by
 rcases h with h | ⟨h1,h2,h3⟩
 ·have:¬a.lamp=b.lamp:=by lia
  simp[Lp.lexLt,this,h]
 ·have:¬a.start=b.start:=by lia
  simp[Lp.lexLt,h1,this,h2]
theorem si (ss:List Span):(((ss.map eSpan).zip ((ss.map eSpan).drop 1)).map λp=>D.tup [p.1,p.2])=(ss.zip (ss.drop 1)).map λp:Span×Span=>D.tup [eSpan p.1,eSpan p.2]:=by
 rw[<-KJ,List.zip_map,AY];rfl
theorem L8 {ss:List Span} (h:ss.Pairwise Nb):ak GL (n+1) wu [.tup (ss.map eSpan)] μ=.ok (.bl true) μ:=by
 rw[ao K1,run_eq rfl]
 have hz:uz (.tup (ss.map eSpan)) (.tup ((ss.map eSpan).drop 1)) μ=.ok (((ss.map eSpan).zip ((ss.map eSpan).drop 1)).map λp=>.tup [p.1,p.2],none) μ:=rfl
 have hc:gy (ak GL n) .z (.many [0,1]) .nil nj [none,none] ((ss.zip (ss.drop 1)).map λp:Span×Span=>D.tup [eSpan p.1,eSpan p.2],none) μ=.ok (.lst (((ss.zip (ss.drop 1)).map λ_=>true).map D.bl)) μ:=by
  rw[comp_map (g:=λ_=>D.bl true) λp hp=>by
   have hlt:=Yp (Ef h p hp)
   simp! only[iu,nj,Rq,hlt]]
  rw[jg,AY];rfl
 have ha:((ss.zip (ss.drop 1)).map λ_=>true).all id=true:=by simp
 simp! only[D_rises,O3,hz,si,hc,bt_all au (g6 _),ha]
theorem u0 {s:Span}:ixD (eSpan s) (.int 0) μ=.ok (.int s.lamp) μ:=rfl
theorem ya {s:Span}:ixD (eSpan s) (.int 1) μ=.ok (.int s.start) μ:=rfl
theorem Ce {s:Span}:ixD (eSpan s) (.int 2) μ=.ok (.int s.fin) μ:=rfl
theorem O7 {a b:Span} (h:Nb a b):ak GL (n+1) cu [eSpan a,eSpan b] μ=.ok (.bl false) μ:=by
 rw[ao je,run_eq rfl]
 rcases h with h | ⟨h1,h2,h3⟩
 ·have:¬a.lamp=b.lamp:=by lia
  simp! only[D_have_tick_in_common,u0,this]
 ·have:¬b.start<a.fin:=by lia
  simp! only[D_have_tick_in_common,u0,ya,Ce,h1,this]
theorem Cf (hr:l5 μ) {L:Int} {lamps:Nat} {ss:List Span} (h:ss.Pairwise Nb) (hg:∀s∈ss,Good L 0 lamps s):ak GL (n+2) fh [.int L,.int lamps,.tup (ss.map eSpan)] μ=.ok (.bl false) μ:=by
 rw[ao oz,run_eq rfl]
 obtain⟨σ',el,v3,v4,v5,rfl⟩:=Um (φ:=ak GL (n+1)) (μ:=μ) (tg:=.many [3,4,5]) (b:=a7) (xs:=ss) (en:=eSpan) (σ:=[some (.int L),some (.int lamps),some (.tup (ss.map eSpan)),none,none,none])
  (λ_ σ=>∃v3 v4 v5,σ=[some (.int L),some (.int lamps),some (.tup (ss.map eSpan)),v3,v4,v5]) ⟨none,none,none,rfl⟩ (by
   rintro j s σ hs ⟨v3,v4,v5,rfl⟩
   obtain⟨⟨a1,a2⟩,b,c,d⟩:=hg s (BD hs)
   refine⟨[some (.int L),some (.int lamps),some (.tup (ss.map eSpan)),some (.int s.lamp),some (.int s.start),some (.int s.fin)],?_,_,_,_,rfl⟩
   simp! only[fLp,a7,eSpan,a1,a2,b,c,d])
 have hz:uz (.tup (ss.map eSpan)) (.tup ((ss.map eSpan).drop 1)) μ=.ok (((ss.map eSpan).zip ((ss.map eSpan).drop 1)).map λp=>.tup [p.1,p.2],none) μ:=rfl
 have hc:gy (ak GL (n+1)) .z (.many [0,1]) .nil dk [none,none] ((ss.zip (ss.drop 1)).map λp:Span×Span=>D.tup [eSpan p.1,eSpan p.2],none) μ=.ok (.lst (((ss.zip (ss.drop 1)).map λ_=>false).map D.bl)) μ:=by
  rw[comp_map (g:=λ_=>D.bl false) λp hp=>by
   simp! only[iu,dk,av (O7 (n:=n) (μ:=μ) (Ef h p hp)) rfl rfl hr]]
  rw[jg,AY];rfl
 have ha:((ss.zip (ss.drop 1)).map λ_=>false).any id=false:=by
  rw[GX]
  intro x hx
  obtain⟨_,_,rfl⟩:=AU.mp hx
  simp
 simp! only[D_has_span_fault,el,av (L8 (n:=n) (μ:=μ) h) rfl rfl hr,O3,hz,si,hc,bt_any au (g6 _),ha]
end
def dlt (ss:List Span) (x:Int):Int:=(ss.map λs=>(if s.start=x then 1 else 0)-(if s.fin=x then 1 else 0)).sum
theorem F6 {L lo hi:Int}:∀(ss:List Span) (x:Int),(∀s∈ss,Good L lo hi s)->dlt ss x=(cov ss x:Int)-(cov ss (x-1):Int)
 | [],x,_=>by simp[dlt,cov]
 | s::r,x,h=>by
  have ih:=F6 r x λy hy=>h y (AH _ hy)
  have g:=(h s AQ).run
  have e1:(cov (s::r) x:Int)=cov r x+if s.start<=x/\x<s.fin then 1 else 0:=by
   simp![cov,EI,decide_eq_true_eq];split<;>simp
  have e2:(cov (s::r) (x-1):Int)=cov r (x-1)+if s.start<=x-1/\x-1<s.fin then 1 else 0:=by
   simp![cov,EI,decide_eq_true_eq];split<;>simp
  have e3:dlt (s::r) x=((if s.start=x then 1 else 0)-(if s.fin=x then 1 else 0))+dlt r x:=by simp[dlt]
  rw[e1,e2,e3,ih]
  clear e1 e2 e3 ih
  split<;>split<;>split<;>split<;>lia
open PySem
theorem Ar (m:List (Int×Int)) (k v:Int) (h:(m.map (·.1)).Nodup):((Cy m k v).map (·.1)).Nodup:=by
 unfold Cy
 split
 ·have e:(m.map λp=>if p.1=k then(p.1,v)else p).map (·.1)=m.map (·.1):=by
   rw[AY]
   refine CF λp _=>?_
   simp![Function.comp]
   split<;>rfl
  rw[e];exact h
 ·rename_i hn
  rw[BX,IL]
  refine⟨h,by simp,λa ha b hb z=>hn ?_⟩
  simp![AR,DJ,CV]at hb
  obtain⟨p,hp,rfl⟩:=AU.mp ha
  rw[DM]
  exact⟨p,hp,by simp[z,hb]⟩
theorem F7:∀{m:List (Int×Int)},(m.map (·.1)).Nodup->∀p∈m,dn m p.1=some p.2
 | [],_,p,hp=>by simp at hp
 | q::r,h,p,hp=>by
  simp![AR,DS]at h
  rw[dn]
  rcases AL.mp hp with rfl | hp
  ·simp
  ·have:¬q.1=p.1:=λz=>h.1 (by rw[z];exact AU.mpr ⟨p,hp,rfl⟩)
   rw[if_neg this]
   exact F7 h.2 p hp
theorem As:∀{m:List (Int×Int)} {k v:Int},dn m k=some v->(k,v)∈m
 | [],_,_,h=>by simp[dn]at h
 | q::r,k,v,h=>by
  rw[dn]at h
  by_cases e:q.1=k
  ·rw[if_pos e]at h
   cases h
   subst e
   exact AQ
  ·rw[if_neg e]at h
   exact AH _ (As h)
theorem rm {L lo hi x:Int}:∀{ss:List Span},(∀s∈ss,Good L lo hi s)->(x<0\/L<=x)->cov ss x=0:=λ{ss} h hx=>by
 unfold cov
 rw[List.countP_eq_zero]
 intro s hs
 obtain⟨_,b,c,d⟩:=h s hs
 simp![decide_eq_true_eq]
 lia
theorem Yq {L lo hi c:Int} {ss:List Span} (h:∀s∈ss,Good L lo hi s) (hL:0<L) (hc:∀t,0<=t->t<L->(cov ss t:Int)=c) (x:Int):dlt ss x=if x=0 then c else if x=L then -c else 0:=by
 rw[F6 ss x h]
 by_cases h0:x=0
 ·subst h0
  rw[if_pos rfl,hc 0 (by lia) hL,rm h (.inl (by lia))];simp
 ·rw[if_neg h0]
  by_cases h1:x=L
  ·subst h1
   rw[if_pos rfl,rm h (.inr (GM _)),hc (x-1) (by lia) (by lia)];simp
  ·rw[if_neg h1]
   by_cases h2:x<0
   ·rw[rm h (.inl h2),rm h (.inl (by lia))];simp
   ·by_cases h3:L<x
    ·rw[rm h (.inr (by lia)),rm h (.inr (by lia))];simp
    ·rw[hc x (by lia) (by lia),hc (x-1) (by lia) (by lia)];simp
section
variable {n : Nat} {μ ρ : Sto} {φ : Phi} {σ : Sl}
theorem F8 {L lo hi w:Int} {ss:List Span} (h:∀s∈ss,Good L lo hi s) (hL:0<L) (hn:ss.length<=1000) :
  ∃(m:List (Int×Int)) (ρ:Sto),(m.map (·.1)).Nodup/\(dn m 0).isSome=true/\(∀x,(dn m x).getD 0=(if x=L then w else if x=0 then -w else 0)+dlt ss x) /\
   ak GL (n+1) cy [.int L,.int w,.tup (ss.map eSpan)] μ=.ok (.bl ((m.map λp=>!decide (p.2=0)).any id)) (μ++ρ):=by
 rw[ao uy,run_eq rfl]
 have d0:Qc false [.int 0,.int (-w),.int L,.int w] μ=.ok (.loc μ.length) (μ++[.d (encM (Cy [(0,-w)] L w))]):=by
  have:=F3 [(0,-w)] L w
  simp![Qc,u9,and_self,if_true]
  rw[<-this];rfl
 obtain⟨σ',μ',el,m,⟨v4,v5,v6,rfl⟩,rfl,hm,hk,hs0,hv⟩:=jn (φ:=ak GL n) (μ:=μ++[.d (encM (Cy [(0,-w)] L w))]) (tg:=.many [4,5,6]) (b:=gv) (xs:=ss) (en:=eSpan)
  (σ:=[some (.int L),some (.int w),some (.tup (ss.map eSpan)),some (.loc μ.length),none,none,none])
  (λj σ μ'=>∃m,(∃v4 v5 v6,σ=[some (.int L),some (.int w),some (.tup (ss.map eSpan)),some (.loc μ.length),v4,v5,v6])/\μ'=μ++[.d (encM m)]/\m.length<=2+2*j/\(m.map (·.1)).Nodup/\(dn m 0).isSome=true /\
   ∀x,(dn m x).getD 0=(if x=L then w else if x=0 then -w else 0)+dlt (ss.take j) x)
  ⟨Cy [(0,-w)] L w,⟨none,none,none,rfl⟩,rfl,by have:=vf [(0,-w)] L w;simpa using this,Ar _ _ _ (by simp),by
   rw[om,if_neg (by lia)];simp[dn],λx=>by
   rw[om]
   by_cases hx:x=L
   ·simp[hx,dlt]
   ·by_cases h0:x=0
    ·subst h0;simp[hx,dn,dlt]
    ·have:¬(0:Int)=x:=λz=>h0 z.symm
     simp[hx,h0,dn,dlt,this]⟩ (by
   rintro j s σ μ' hs ⟨m,⟨v4,v5,v6,rfl⟩,rfl,hm,hk,hs0,hv⟩
   have hj:j<ss.length:=(AF.mp hs).1
   have g:=(h s (BD hs)).run
   generalize e1:Cy m s.start ((dn m s.start).getD 0+1)=m1
   have l1:m1.length<=m.length+1:=by rw[<-e1];exact vf _ _ _
   generalize e2:Cy m1 s.fin ((dn m1 s.fin).getD 0-1)=m2
   have l2:m2.length<=m1.length+1:=by rw[<-e2];exact vf _ _ _
   refine⟨[some (.int L),some (.int w),some (.tup (ss.map eSpan)),some (.loc μ.length),some (.int s.lamp),some (.int s.start),some (.int s.fin)],μ++[.d (encM m2)],?_,m2,⟨_,_,_,rfl⟩,rfl,by lia,?_,?_,λx=>?_⟩
   ·simp! only[fLp,gv,eSpan,L6,Aq,set_dict (show m.length<1000000 by lia),e1,set_dict (show m1.length<1000000 by lia),e2]
   ·rw[<-e2];refine Ar _ _ _ ?_
    rw[<-e1];exact Ar _ _ _ hk
   ·rw[<-e2,om]
    split
    ·rfl
    ·rw[<-e1,om]
     split
     ·rfl
     ·exact hs0
   ·have et:dlt (ss.take (j+1)) x=dlt (ss.take j) x+((if s.start=x then 1 else 0)-(if s.fin=x then 1 else 0)):=by
     rw[DQ,hs]
     simp[dlt,EN]
    have q:∀y,(dn m1 y).getD 0=(dn m y).getD 0+if s.start=y then 1 else 0:=λy=>by
     rw[<-e1,om]
     by_cases hy:y=s.start
     ·subst hy;simp
     ·have:¬s.start=y:=λz=>hy z.symm
      simp[hy,this]
    have q2:(dn m2 x).getD 0=(dn m1 x).getD 0-if s.fin=x then 1 else 0:=by
     rw[<-e2,om]
     by_cases hy:x=s.fin
     ·subst hy;simp
     ·have:¬s.fin=x:=λz=>hy z.symm
      simp[hy,this]
    rw[q2,q,hv x,et]
    lia)
 rw[BY (AI _)]at hv
 have kv:kVals (.loc μ.length) (μ++[.d (encM m)])=.ok (m.map (λp=>D.int p.2),none) (μ++[.dead]):=by
  simp![kVals,iq,vd,encM,AY];rfl
 have hcmp:gy (ak GL n) .z (.one 0) .nil gx [none] (m.map (λp=>D.int p.2),none) (μ++[.dead])=.ok (.lst ((m.map λp=>!decide (p.2=0)).map D.bl)) (μ++[.dead]):=by
  rw[comp_map (en:=λp:Int×Int=>D.int p.2) (g:=λp=>D.bl (!decide (p.2=0))) λp _=>by simp! only[iu,gx]]
  rw[jg,AY];rfl
 refine⟨m,[.dead],hk,hs0,hv,?_⟩
 simp! only[D_has_dark_fault,d0,el,kv,hcmp,bt_any au (g6 _)]
theorem Uv {L lo hi c w:Int} {ss:List Span} (h:∀s∈ss,Good L lo hi s) (hL:0<L) (hc:∀t,0<=t->t<L->(cov ss t:Int)=c) (hn:ss.length<=1000) :
  ∃ρ,ak GL (n+1) cy [.int L,.int w,.tup (ss.map eSpan)] μ=.ok (.bl (!decide (w=c))) (μ++ρ):=by
 obtain⟨m,ρ,hk,hs0,hv,ed⟩:=F8 (n:=n) (μ:=μ) (w:=w) h hL hn
 have hd:=Yq h hL hc
 have hany:(m.map λp=>!decide (p.2=0)).any id=!decide (w=c):=by
  by_cases e:w=c
  ·have:∀p∈m,p.2=0:=λp hp=>by
    have a:=F7 hk p hp
    have b:=hv p.1
    rw[a,hd]at b
    simp![FA]at b
    rw[b]
    split<;>split<;>(try split)<;>lia
   simp![e,decide_true,HI]
   rw[GX]
   intro x hx
   obtain⟨p,hp,rfl⟩:=AU.mp hx
   simp[this p hp]
  ·simp![e,decide_false,IF]
   rw[DM]
   obtain⟨v,hv0⟩:=DZ.mp hs0
   have b:=hv 0
   rw[hv0,hd]at b
   simp![FA,if_true]at b
   rw[if_neg (by lia)]at b
   refine⟨true,AU.mpr ⟨(0,v),As hv0,?_⟩,rfl⟩
   have:¬v=0:=by lia
   simp[this]
 exact⟨ρ,by rw[ed,hany]⟩
end
open PySem
def iy (c:Int):Int:=if ip c % 3<2 then 0 else ip c / 3 % 7
theorem sj (c:Int):0<=iy c/\iy c<=6:=by
 unfold iy
 split<;>lia
def eP (p:Int×Int):D:=.tup [.int p.1,.int p.2]
theorem Uw (ts:List (Int×Int)):(D.lst (ts.map eP)).pure=true:=by
 rw[D.pure,mf,AN];intro x hx;obtain⟨i,_,rfl⟩:=AU.mp hx;rfl
theorem xm {N k a:Nat} (h:(List.range N)[k]? = some a):a=k/\k<N:=by
 obtain⟨h1,h2⟩:=AF.mp h
 simp at h1 h2
 lia
section
variable {n : Nat} {μ ρ : Sto} {φ : Phi}
theorem xn {f:Nat} {ds:List D} {d:D} {μ':Sto} (h:φ f ds μ=.ok d (μ'++ρ)) (hl:μ'.length=μ.length) (hd:d.pure=true) (hr:l5 μ'):w6 φ false f ds μ=.ok d μ':=by
 rw[w6,h]
 have e:(μ'++ρ).take μ.length=μ':=by rw[<-hl];simp
 have hr':μ'.all (gc μ.length)=true:=by rw[<-hl];exact hr
 simp![uu,AS,if_false,e,nk _ 8 d hd,hr',and_self,if_true]
theorem Eg {cs cs':List Int} (h:l5 (Lf cs::ρ)):l5 (Lf cs'::ρ):=h
theorem O8 (hr:l5 (Lf []::ρ)) (cs:List Int):ak GL (n+2) dj [.loc 0] (Lf cs::ρ)=.ok (.int (iy (cs.headD 0))) (Lf cs.tail::ρ):=by
 rw[ao D4,run_eq rfl]
 have k1:=pd (n:=n) (ρ:=ρ) (λcs=>Eg hr) cs
 have k2:=oi (n:=n) (Eg (cs':=cs.tail) hr) (cs.headD 0)
 unfold iy
 by_cases h:ip (cs.headD 0) % 3<2
 ·simp! only[D_law_slack,k1,k2,op_mod (show(0:Int)<3 by decide),h,if_true]
 ·simp! only[D_law_slack,k1,k2,op_mod (show(0:Int)<3 by decide),h,ir (show(0:Int)<3 by decide) (by decide),op_mod (show(0:Int)<7 by decide),if_false]
theorem oo (hr:l5 (Lf []::ρ)) (cs:List Int):w6 (ak GL (n+2)) false dj [.loc 0] (Lf cs::ρ)=.ok (.int (iy (cs.headD 0))) (Lf cs.tail::ρ):=av (O8 hr cs) rfl rfl (Eg hr)
theorem Yr {a b i:Int} (h0:0<=i) (h1:i<2):∃v,(v=a\/v=b)/\∀μ,ixD (.lst [.int a,.int b]) (.int i) μ=.ok (.int v) μ:=by
 have:i=0\/i=1:=by lia
 rcases this with rfl | rfl
 ·exact⟨a,.inl rfl,λ_=>rfl⟩
 ·exact⟨b,.inr rfl,λ_=>rfl⟩
theorem F9 (t lo hi:Int) (h:lo<=hi):∃v,lo<=v/\v<=hi/\∀μ,ak GL (n+1) ko [.int t,.int lo,.int hi] μ=.ok (.int v) μ:=by
 have hm:CMul (t / 4) 1000003:=.right (by decide) (by decide)
 by_cases h1:t % 4<2
 ·have z0:0<=t / 4*1000003 % (hi-lo+1):=BL _ (by lia)
  have z1:t / 4*1000003 % (hi-lo+1)<hi-lo+1:=BM _ (by lia)
  refine⟨lo+t / 4*1000003 % (hi-lo+1),by lia,by lia,λμ=>?_⟩
  rw[ao wz,run_eq rfl]
  simp! only[D_law_share,op_mod (show(0:Int)<4 by decide),h1,ir (show(0:Int)<4 by decide) (by decide),op_mul hm,op_mod (show(0:Int)<hi-lo+1 by lia)]
 ·obtain⟨v,hv,ev⟩:=Yr (a:=lo) (b:=hi) (i:=t % 2) (by lia) (by lia)
  refine⟨v,by rcases hv with rfl | rfl<;>lia,by rcases hv with rfl | rfl<;>lia,λμ=>?_⟩
  rw[ao wz,run_eq rfl]
  simp! only[D_law_share,op_mod (show(0:Int)<4 by decide),h1,op_mod (show(0:Int)<2 by decide),ev]
def rn (s:Span):List Int:=[s.lamp,s.start,s.fin]
def unS (r:List Int):Span:=⟨r.getD 0 0,r.getD 1 0,r.getD 2 0⟩
theorem ug:∀ss:List Span,rowsOf (ss.map eSpan)=some (ss.map rn)
 | []=>rfl
 | s::r=>by simp[eSpan,rowsOf,gb,ug r,rn]
end
open PySem
def eIl (xs:List Int):D:=.lst (xs.map D.int)
def f9 (L N:Nat) (aw:List (List Int)):D:=.tup [.int L,.int N,.lst (aw.map eIl)]
theorem Ga {k:Nat} (xs:List Int):D.pureN (k+1) (eIl xs)=true:=by
 rw[eIl,mf,AN];intro x hx;obtain⟨i,_,rfl⟩:=AU.mp hx;exact eh
theorem Ic (L N:Nat) (aw:List (List Int)):(f9 L N aw).pure=true:=by
 rw[D.pure,f9,dy]
 simp![BB,eh,GC,mf,Ev,FL]
 rw[AN];intro x hx;obtain⟨i,_,rfl⟩:=AU.mp hx;exact Ga i
structure Ngt where
 length:Int
 wanted:Int
 ticks:List (Int×Int)
 spans:List Span
def qg (g:Ngt):D:=.tup [.int g.length,.int g.wanted,.lst (g.ticks.map eP),.tup (g.spans.map eSpan)]
theorem Gb {k:Nat} (g:Ngt):D.pureN (k+3) (qg g)=true:=by
 rw[qg,dy]
 simp![BB,eh,GC,mf,dy,Ev,FL,BC]
 constructor
 ·rw[AN];intro x hx;obtain⟨i,_,rfl⟩:=AU.mp hx
  rw[eP,dy];simp[eh]
 ·rw[AN];intro x hx;obtain⟨i,_,rfl⟩:=AU.mp hx
  exact xk i
section
variable {n : Nat} {μ ρ : Sto} {φ : Phi}
theorem Au {cs:List Int} {xs:List D}:l5 [Lf cs,.l xs]:=rfl
theorem L9 {cs:List Int}:l5 [Lf cs]:=rfl
theorem O9 (cs:List Int):∃(L N:Nat) (aw:List (List Int)) (cs':List Int),(1<=L/\L<=8)/\(1<=N/\N<=16)/\(aw.length=L/\∀l∈aw,l.length<=16)/\ak GL (n+3) jw [.loc 0] [Lf cs]=.ok (f9 L N aw) [Lf cs',.dead]:=by
 have k1:=pd (n:=n+1) (ρ:=[]) (λcs=>L9) cs
 have k2:=oi (n:=n+1) (L9 (cs:=cs.tail)) (cs.headD 0)
 obtain⟨hd,hhd⟩:∃hd,hd=ip (cs.headD 0):=⟨_,rfl⟩
 have h0:0<=hd:=by rw[hhd];exact vc _
 rw[<-hhd]at k2
 have loop:∀(L N:Nat),L<=8->N<=16->∃(aw:List (List Int)) (cs':List Int) (v5 v6:Option D),(aw.length=L/\∀l∈aw,l.length<=16)/\ue (ak GL (n+2)) (.one 5) gq [some (.loc 0),some (.int hd),some (.int L),some (.int N),some (.loc 1),none,none] ((List.range L).map (fun(j:Nat)=>D.int j),none) [Lf cs.tail,.l []] =
   .ok (.nx [some (.loc 0),some (.int hd),some (.int L),some (.int N),some (.loc 1),v5,v6]) [Lf cs',.l (aw.map eIl)]:=by
  intro L N hL hN
  obtain⟨σ',μ',e,aw,cs',v5,v6,hl,rfl,rfl⟩:=jn (φ:=ak GL (n+2)) (μ:=[Lf cs.tail,.l []]) (tg:=.one 5) (b:=gq) (xs:=List.range L) (en:=fun(j:Nat)=>D.int j)
   (σ:=[some (.loc 0),some (.int hd),some (.int L),some (.int N),some (.loc 1),none,none])
   (λj σ μ'=>∃(aw:List (List Int)) (cs':List Int) (v5 v6:Option D),(aw.length=j/\∀l∈aw,l.length<=16)/\σ=[some (.loc 0),some (.int hd),some (.int L),some (.int N),some (.loc 1),v5,v6]/\μ'=[Lf cs',.l (aw.map eIl)])
   ⟨[],cs.tail,none,none,⟨rfl,by simp⟩,rfl,rfl⟩ (by
    rintro j a σ μ' ha ⟨aw,cs',v5,v6,⟨hl,hl2⟩,rfl,rfl⟩
    obtain⟨rfl,hk⟩:=xm ha
    have k1:=pd (n:=n+1) (ρ:=[.l (aw.map eIl)]) (λcs=>Au) cs'
    have k2:=oi (n:=n+1) (Au (cs:=cs'.tail) (xs:=aw.map eIl)) (cs'.headD 0)
    have tn:=vc (cs'.headD 0)
    have c1:=gz (m:=.z) (μ:=[Lf cs'.tail,.l (aw.map eIl)]) (φ:=ak GL (n+2)) (tg:=.one 1) (cs:=fm) (elt:=ft) (σ0:=[some (.int (ip (cs'.headD 0))),none]) (xs:=List.range N) (en:=fun(k:Nat)=>D.int k) (g:=λk=>D.int k)
     (p:=λk=>decide (ip (cs'.headD 0) % 3=1)&&decide (ip (cs'.headD 0) / 2 ^ (k+2) % 2=1)) (by
      intro k hk
      have e1:opI .RShift (ip (cs'.headD 0)) ((k:Int)+2) [Lf cs'.tail,.l (aw.map eIl)]=.ok (.int (ip (cs'.headD 0) / 2 ^ (k+2))) [Lf cs'.tail,.l (aw.map eIl)]:=by
       rw[op_shr (by lia)]
       rfl
      cases q1:decide (ip (cs'.headD 0) % 3=1)with
      | false=>simp! only[iu,fm,ft,op_mod (show(0:Int)<3 by decide),q1,Bool.false_and,AS,if_false]
      | true =>
       cases q2:decide (ip (cs'.headD 0) / 2 ^ (k+2) % 2=1)with
       | false=>simp! only[iu,fm,ft,op_mod (show(0:Int)<3 by decide),q1,e1,op_mod (show(0:Int)<2 by decide),q2,Bool.and_false,AS,if_false]
       | true=>simp! only[iu,fm,ft,op_mod (show(0:Int)<3 by decide),q1,e1,op_mod (show(0:Int)<2 by decide),q2,GA,if_true])
    obtain⟨as,eas,has⟩:∃as:List Int,((List.range N).filter λk=>decide (ip (cs'.headD 0) % 3=1)&&decide (ip (cs'.headD 0) / 2 ^ (k+2) % 2=1)).map (fun(k:Nat)=>D.int k)=as.map D.int/\as.length<=16:=⟨((List.range N).filter λk=>decide (ip (cs'.headD 0) % 3=1)&&decide (ip (cs'.headD 0) / 2 ^ (k+2) % 2=1)).map fun(k:Nat)=>(k:Int),by rw[AY];rfl,by rw[AD];exact CL (KD _ _) (by rw[DE];exact hN)⟩
    rw[eas]at c1
    have km:∀es σ,kM (ak GL (n+2)) .append es σ (.loc 1) [Lf cs'.tail,.l (aw.map eIl)]=(jh (ak GL (n+2)) es σ [Lf cs'.tail,.l (aw.map eIl)]).bind (mtD .append (.loc 1)):=λes σ=>yy (μ:=[Lf cs'.tail])
    have ap:mtD .append (.loc 1) [.lst (as.map D.int)] [Lf cs'.tail,.l (aw.map eIl)]=.ok .non [Lf cs'.tail,.l ((aw++[as]).map eIl)]:=by
     have:=Fx (μ:=[Lf cs'.tail]) (ds:=aw.map eIl) (d:=eIl as) (Ga as) (by rw[AD];lia)
     rw[BX]
     exact this
    refine⟨_,_,?_,aw++[as],cs'.tail,some (.int a),some (.int (ip (cs'.headD 0))),⟨by simp[hl],λl hm=>(CM.mp hm).elim (hl2 l) λq=>by rw[CV.mp q];exact has⟩,rfl,rfl⟩
    simp! only[fLp,gq,k1,k2,dz (show N<=1000000 by lia),c1,km,ap])
  exact⟨aw,cs',v5,v6,⟨by simpa using hl.1,hl.2⟩,e⟩
 have e0:mkL .l [] [Lf cs.tail]=.ok (.loc 1) [Lf cs.tail,.l []]:=Cb rfl
 have fz:∀(L N:Nat) (aw:List (List Int)) (cs':List Int) (v5 v6:Option D),evE (ak GL (n+2)) (.frz 4) [some (.loc 0),some (.int hd),some (.int L),some (.int N),some (.loc 1),v5,v6] [Lf cs',.l (aw.map eIl)]=.ok (.lst (aw.map eIl)) [Lf cs',.dead]:=λL N aw cs' v5 v6=>by simp[evE]
 by_cases h7:hd / 12 % 7=1
 ·obtain⟨L,hL⟩:∃L:Nat,(L:Int)=1+hd / 84 % 8:=⟨(1+hd / 84 % 8).toNat,by lia⟩
  obtain⟨N,hN⟩:∃N:Nat,(N:Int)=1+hd / 672 % 16:=⟨(1+hd / 672 % 16).toNat,by lia⟩
  obtain⟨aw,cs',v5,v6,hl,e⟩:=loop L N (by lia) (by lia)
  refine⟨L,N,aw,cs',by lia,by lia,hl,?_⟩
  rw[ao se,run_eq rfl]
  simp! only[D_law_frame_2,k1,k2,op_mod (show(0:Int)<3 by decide),ir (show(0:Int)<3 by decide) (by decide),op_mod (show(0:Int)<4 by decide),ir (show(0:Int)<12 by decide) (by decide),op_mod (show(0:Int)<7 by decide),h7,
   ir (show(0:Int)<84 by decide) (by decide),op_mod (show(0:Int)<8 by decide),ir (show(0:Int)<672 by decide) (by decide),op_mod (show(0:Int)<16 by decide),<-hL,<-hN,e0,dz (show L<=1000000 by lia),e,fz,f9]
 ·obtain⟨L,hL⟩:∃L:Nat,(L:Int)=1+hd % 3:=⟨(1+hd % 3).toNat,by lia⟩
  obtain⟨N,hN⟩:∃N:Nat,(N:Int)=1+hd / 3 % 4:=⟨(1+hd / 3 % 4).toNat,by lia⟩
  obtain⟨aw,cs',v5,v6,hl,e⟩:=loop L N (by lia) (by lia)
  refine⟨L,N,aw,cs',by lia,by lia,hl,?_⟩
  rw[ao se,run_eq rfl]
  simp! only[D_law_frame_2,k1,k2,op_mod (show(0:Int)<3 by decide),ir (show(0:Int)<3 by decide) (by decide),op_mod (show(0:Int)<4 by decide),ir (show(0:Int)<12 by decide) (by decide),op_mod (show(0:Int)<7 by decide),h7,
   <-hL,<-hN,e0,dz (show L<=1000000 by lia),e,fz,f9]
theorem Ux {L N:Nat} {aw:List (List Int)}:ixD (f9 L N aw) (.int 0) μ=.ok (.int L) μ:=rfl
theorem aar {L N:Nat} {aw:List (List Int)}:ixD (f9 L N aw) (.int 1) μ=.ok (.int N) μ:=rfl
theorem Uy {L N:Nat} {aw:List (List Int)}:ixD (f9 L N aw) (.int 2) μ=.ok (.lst (aw.map eIl)) μ:=rfl
theorem Gc (d:Int) (xs:List Int):cpD .notin (.int d) (eIl xs) μ=.ok (.bl (!(xs.map D.int).any λy=>deq y (.int d))) μ:=by
 simp![cpD,eIl,cv,flat,xg,and_self,if_true]
end
open PySem
structure Tn where
 taken:Int
 bought:Int
 poured:List Int
 spans:List Span
def eTn (t:Tn):D:=.tup [.int t.taken,.int t.bought,.tup (t.poured.map D.int),.tup (t.spans.map eSpan)]
theorem Mb {k:Nat} (t:Tn):D.pureN (k+3) (eTn t)=true:=by
 rw[eTn,dy]
 simp![BB,eh,GC,dy,Ev,FL,BC]
 constructor
 ·rw[AN];intro x hx;obtain⟨i,_,rfl⟩:=AU.mp hx;exact eh
 ·rw[AN];intro x hx;obtain⟨i,_,rfl⟩:=AU.mp hx
  exact xk i
section
variable {n : Nat} {μ ρ : Sto} {φ : Phi}
theorem Cg {S:Type} {f:D->Sto->Res (List D)} {enS:S->Sto}:∀{ds:List D},(∀d∈ds,∀s,∃v s',f d (enS s)=.ok [D.int v] (enS s'))->∀s,∃(vs:List Int) (s':S),vs.length=ds.length/\mapR none f ds (enS s)=.ok (vs.map D.int) (enS s')
 | [],_,s=>⟨[],s,rfl,by simp[mapR]⟩
 | d::ds,h,s=>by
  obtain⟨v,s1,e1⟩:=h d AQ s
  obtain⟨vs,s2,hl,e2⟩:=Cg (ds:=ds) (λx hx=>h x (AH _ hx)) s1
  refine⟨v::vs,s2,by simp[hl],?_⟩
  simp![mapR,tu,if_true,e1,Res.bg,e2]
  rfl
theorem Mc {S α:Type} {m:Mk} {tg:Tg} {cs:Exs} {elt:Ex} {σ0:Sl} {en:α->D} {enS:S->Sto} {xs:List α} (h:∀a∈xs,∀s,∃v s',iu φ tg cs elt σ0 (en a) (enS s)=.ok [D.int v] (enS s')) (s:S) :
  ∃(vs:List Int) (s':S),vs.length=xs.length/\gy φ m tg cs elt σ0 (xs.map en,none) (enS s)=mkL m (vs.map D.int) (enS s'):=by
 obtain⟨vs,s',hl,e⟩:=Cg (f:=iu φ tg cs elt σ0) (enS:=enS) (ds:=xs.map en) (λd hd s=>by obtain⟨a,ha,rfl⟩:=AU.mp hd;exact h a ha s) s
 refine⟨vs,s',by simpa using hl,?_⟩
 rw[gy]
 show(mapR none _ (xs.map en) (enS s)).bind _=_
 rw[e];rfl
theorem yb {cs:List Int} {ds rs:List D} (h:ρ.all noR=true):l5 (Lf cs::.l ds::.l rs::ρ):=by
 unfold l5
 rw[AN]
 intro o ho
 refine yw _ o ?_
 rcases AL.mp ho with rfl | ho
 ·rfl
 rcases AL.mp ho with rfl | ho
 ·rfl
 rcases AL.mp ho with rfl | ho
 ·rfl
 exact AN.mp h o ho
theorem Uz (h:ρ.all noR=true) (xs:List D):(ρ++[O.l xs]).all noR=true:=by rw[List.all_append,h];rfl
theorem at3 {cs:List Int} {ds rs:List D} {o:O}:(Lf cs::.l ds::.l rs::(ρ++[o]))[ρ.length+3]? = some o:=by simp
theorem abu {cs:List Int} {ds rs:List D} {o o':O}:(Lf cs::.l ds::.l rs::(ρ++[o])).set (ρ.length+3) o'=Lf cs::.l ds::.l rs::(ρ++[o']):=by simp
theorem abv {cs:List Int} {ds rs xs:List D}:cv (Lf cs::.l ds::.l rs::(ρ++[.l xs])) (.loc (ρ.length+3))=some xs:=by simp![cv,at3]
theorem Rr {xs:List D} {k:Nat} (h:k<xs.length):ixN xs.length (k:Int)=some k:=by simp[ixN,h]
theorem qu {x:D} {ns:List Int} {k:Nat} (h:cv μ x=some (ns.map D.int)) (hk:k<ns.length):ixD x (.int k) μ=.ok (.int (ns.getD k 0)) μ:=by
 refine uo h ?_
 rw[AW,AB hk]
 simp[hk]
theorem aas {cs:List Int} {ds rs:List D} {xs:List Int} {k:Nat} {v:Int} (hk:k<xs.length):ur (.loc (ρ.length+3)) (.int k) (.int v) (Lf cs::.l ds::.l rs::(ρ++[.l (xs.map D.int)]))=.ok () (Lf cs::.l ds::.l rs::(ρ++[.l ((xs.set k v).map D.int)])):=by
 have e1:ixN (xs.map D.int).length (k:Int)=some k:=Rr (by rw[AD];exact hk)
 simp![ur,at3,gj,e1,fits,u9,if_true,putL,Res.bg,abu,HX]
theorem ac3 {cs:List Int} {ds:List D} {r:Sto} {d:D} (hd:d.pure=true) (hl:ds.length<1000000):mtD .append (.loc 1) [d] (Lf cs::.l ds::r)=.ok .non (Lf cs::.l (ds++[d])::r):=by
 have:=ny
 simp![mtD,tq,FC,EB,gj,mtL,ff,fits,hd,putL,FH,FG]
 rw[if_pos ⟨trivial,by lia⟩]
theorem ac4 {cs:List Int} {ds rs:List D} {r:Sto} {d:D} (hd:d.pure=true) (hl:rs.length<1000000):mtD .append (.loc 2) [d] (Lf cs::.l ds::.l rs::r)=.ok .non (Lf cs::.l ds::.l (rs++[d])::r):=by
 have:=ny
 simp![mtD,tq,FC,EB,gj,mtL,ff,fits,hd,putL,FH,FG]
 rw[if_pos ⟨trivial,by lia⟩]
theorem ac5 {cs:List Int} {ds rs xs:List D} {d:D} (hd:d.pure=true) (hl:xs.length<1000000):mtD .append (.loc (ρ.length+3)) [d] (Lf cs::.l ds::.l rs::(ρ++[.l xs]))=.ok .non (Lf cs::.l ds::.l rs::(ρ++[.l (xs++[d])])):=by
 have:=ny
 simp![mtD,tq,at3,gj,mtL,ff,fits,hd,putL,abu]
 rw[if_pos ⟨trivial,by lia⟩]
theorem km1 {es:Exs} {σ:Sl} {cs:List Int} {ds:List D} {r:Sto}:kM φ .append es σ (.loc 1) (Lf cs::.l ds::r)=(jh φ es σ (Lf cs::.l ds::r)).bind (mtD .append (.loc 1)):=D8 rfl
theorem km2 {es:Exs} {σ:Sl} {cs:List Int} {ds rs:List D} {r:Sto}:kM φ .append es σ (.loc 2) (Lf cs::.l ds::.l rs::r)=(jh φ es σ (Lf cs::.l ds::.l rs::r)).bind (mtD .append (.loc 2)):=D8 rfl
theorem km3 {es:Exs} {σ:Sl} {cs:List Int} {ds rs xs:List D}:kM φ .append es σ (.loc (ρ.length+3)) (Lf cs::.l ds::.l rs::(ρ++[.l xs]))=(jh φ es σ (Lf cs::.l ds::.l rs::(ρ++[.l xs]))).bind (mtD .append (.loc (ρ.length+3))):=D8 (by simp![jb,Lp.listOf,at3];rfl)
theorem mk3 {cs:List Int} {ds rs xs:List D} (h:xs.all (D.pureN 8)=true):mkL .l xs (Lf cs::.l ds::.l rs::ρ)=.ok (.loc (ρ.length+3)) (Lf cs::.l ds::.l rs::(ρ++[.l xs])):=by
 rw[Cb h];rfl
theorem Eh (xs:List Int):(xs.map D.int).all (D.pureN 8)=true:=by
 rw[AN];intro x hx;obtain⟨i,_,rfl⟩:=AU.mp hx;rfl
end
open PySem
section
variable {n : Nat} {μ ρ : Sto} {φ : Phi}
theorem Ci {α β:Type} {f:α->D} {g:β->D}:∀(xs:List α) (ys:List β),((xs.map f).zip (ys.map g)).map (λp=>D.tup [p.1,p.2])=(xs.zip ys).map λp=>D.tup [f p.1,g p.2]
 | [],_=>by simp
 | _::_,[]=>by simp
 | x::xs,y::ys=>by simp[Ci xs ys]
theorem Av {α β:Type} {f:α->D} {g:β->D} {xs:List α} {ys:List β}:uz (.tup (xs.map f)) (.tup (ys.map g)) μ=.ok ((xs.zip ys).map (λp=>D.tup [f p.1,g p.2]),none) μ:=by
 simp![uz,du,cv,Ci]
theorem y0 (ss:List Span) (s:Span) (k:Int):ay (ss++[s]) k=ay ss k+if s.lamp=k then s.fin-s.start else 0:=by simp[ay,EN]
end
open PySem
def pj (k st x L:Int):List Span:=(if 0<x then [⟨k,st,min (st+x) L⟩]else [])++(if L<st+x then [⟨k,0,st+x-L⟩]else [])
def jo (L:Int):List (Int×Int)->Int->List Span
 | [],_=>[]
 | p::r,st=>pj p.1 st p.2 L++jo L r ((st+p.2) % L)
def stR (L:Int):List (Int×Int)->Int->Int
 | [],st=>st
 | p::r,st=>stR L r ((st+p.2) % L)
theorem y6 (L:Int):∀(ts:List (Int×Int)) (p:Int×Int) (st:Int),jo L (ts++[p]) st=jo L ts st++pj p.1 (stR L ts st) p.2 L
 | [],p,st=>by simp[jo,stR]
 | q::r,p,st=>by rw[EG,jo,y6 L r,jo,stR,Da]
theorem Ge (L:Int):∀(ts:List (Int×Int)) (p:Int×Int) (st:Int),stR L (ts++[p]) st=(stR L ts st+p.2) % L
 | [],p,st=>rfl
 | q::r,p,st=>by rw[EG,stR,Ge L r,stR]
theorem Ei (k st x L:Int):(pj k st x L).length<=2:=by unfold pj;split<;>split<;>simp
theorem sk (L:Int):∀(ts:List (Int×Int)) (st:Int),(jo L ts st).length<=2*ts.length
 | [],_=>by simp[jo]
 | p::r,st=>by
  have:=sk L r ((st+p.2) % L)
  have:=Ei p.1 st p.2 L
  simp![jo,BU,BV];lia
theorem sm {k st x L:Int} (h0:0<=st) (h1:st<L) (hx:0<=x) (hx2:x<=L):(pj k st x L).Perm (eu k st x L):=by
 unfold pj eu
 by_cases e:x=0
 ·subst e
  rw[if_neg (by lia),if_neg (by lia),if_pos rfl]
  exact .refl _
 ·rw[if_pos (by lia),if_neg e]
  by_cases h:st+x<=L
  ·rw[if_neg (by lia),if_pos h,Int.min_eq_left h]
   exact .refl _
  ·rw[if_pos (by lia),if_neg h,Int.min_eq_right (by lia)]
   exact .swap _ _ _
theorem Gf {a b:List Span} (h:a.Perm b) (t:Int):cov a t=cov b t:=h.countP_eq _
theorem ac6 {a b:List Int} (h:a.Perm b):a.sum=b.sum:=by
 induction h with
 | nil=>rfl
 | cons x _ ih=>simp![DH,ih]
 | swap x y l=>simp![DH];lia
 | trans _ _ i1 i2=>rw[i1,i2]
theorem y8 {a b:List Span} (h:a.Perm b) (k:Int):ay a k=ay b k:=by
 unfold ay
 exact ac6 (h.map _)
theorem Pa {k k' st x L t:Int}:cov (eu k st x L) t=cov (eu k' st x L) t:=by
 unfold eu
 split
 ·rfl
 ·split<;>simp[cov,EI]
theorem Md {L t:Int}:∀(ts:List (Int×Int)) (k st:Int),0<=st->st<L->(∀p∈ts,0<=p.2/\p.2<=L)->cov (jo L ts st) t=cov (uq L (ts.map (·.2)) k st) t
 | [],_,_,_,_,_=>rfl
 | p::r,k,st,h0,h1,h=>by
  have hp:=h p AQ
  rw[jo,AR,uq,Ap,Ap,Gf (sm h0 h1 hp.1 hp.2),Pa (k':=k),Md r (k+1) ((st+p.2) % L) (BL _ (by lia)) (BM _ (by lia)) λq hq=>h q (AH _ hq)]
def Aw (ts:List (Int×Int)) (k:Int):Int:=(ts.map λp=>if p.1=k then p.2 else 0).sum
theorem Cj {L:Int}:∀(ts:List (Int×Int)) (st k:Int),0<=st->st<L->(∀p∈ts,0<=p.2/\p.2<=L)->ay (jo L ts st) k=Aw ts k
 | [],_,_,_,_,_=>rfl
 | p::r,st,k,h0,h1,h=>by
  have hp:=h p AQ
  rw[jo,L7,y8 (sm h0 h1 hp.1 hp.2),Ib k hp.1,Cj r ((st+p.2) % L) k (BL _ (by lia)) (BM _ (by lia)) λq hq=>h q (AH _ hq)]
  simp[Aw]
def NbS (a b:Span):Prop:=Nb a b\/Nb b a
theorem NbS.symm {a b:Span} (h:NbS a b):NbS b a:=Or.symm h
theorem Ax {L:Int} {lo hi:Int}:∀(ts:List (Int×Int)) (st:Int),0<=st->st<L->(∀p∈ts,0<=p.2/\p.2<=L)->(∀p∈ts,lo<=p.1/\p.1<hi)->∀s∈jo L ts st,Good L lo hi s/\∃p∈ts,s.lamp=p.1
 | [],_,_,_,_,_,s,hs=>by simp[jo]at hs
 | p::r,st,h0,h1,h,hl,s,hs=>by
  have hp:=h p AQ
  have hq:=hl p AQ
  rcases CM.mp hs with q | q
  ·have g:=(Ee (k:=p.1) h0 h1 hp.1 hp.2).2 s ((sm h0 h1 hp.1 hp.2).mem_iff.mp q)
   have e:s.lamp=p.1:=by have:=g.lamp;lia
   exact⟨⟨by lia,g.start,g.run,g.fin⟩,p,AQ,e⟩
  ·obtain⟨g,p',hp',e⟩:=Ax r ((st+p.2) % L) (BL _ (by lia)) (BM _ (by lia)) (λq hq=>h q (AH _ hq)) (λq hq=>hl q (AH _ hq)) s q
   exact⟨g,p',AH _ hp',e⟩
theorem Rt {L:Int}:∀(ts:List (Int×Int)) (st:Int),0<=st->st<L->(∀p∈ts,0<=p.2/\p.2<=L)->(ts.map (·.1)).Nodup->(jo L ts st).Pairwise NbS
 | [],_,_,_,_,_=>.nil
 | p::r,st,h0,h1,h,hn=>by
  have hp:=h p AQ
  rw[AR,DS]at hn
  have hr:∀q∈r,0<=q.2/\q.2<=L:=λq hq=>h q (AH _ hq)
  have s0:0<=(st+p.2) % L:=BL _ (by lia)
  have s1:(st+p.2) % L<L:=BM _ (by lia)
  rw[jo,List.pairwise_append]
  refine⟨?_,Rt r _ s0 s1 hr hn.2,λa ha b hb=>?_⟩
  ·exact((Ee (k:=p.1) h0 h1 hp.1 hp.2).1.imp λh=>Or.inl h).perm (sm h0 h1 hp.1 hp.2).symm λh=>NbS.symm h
  ·have g:=(Ee (k:=p.1) h0 h1 hp.1 hp.2).2 a ((sm h0 h1 hp.1 hp.2).mem_iff.mp ha)
   have e:a.lamp=p.1:=by have:=g.lamp;lia
   obtain⟨q,hq,eq⟩:=(Ax (lo := -1-(r.map λp=>(p.1.natAbs:Int)).sum) (hi:=1+(r.map λp=>(p.1.natAbs:Int)).sum) r _ s0 s1 hr (by
    intro p hp
    have:(p.1.natAbs:Int)<=(r.map λp=>(p.1.natAbs:Int)).sum:=by
     have gen:∀(l:List (Int×Int)),p∈l->(p.1.natAbs:Int)<=(l.map λp=>(p.1.natAbs:Int)).sum/\0<=(l.map λp=>(p.1.natAbs:Int)).sum:=by
      intro l
      induction l with
      | nil=>intro h;simp at h
      | cons q l ih =>
       intro h
       have pos:∀l:List (Int×Int),0<=(l.map λp=>(p.1.natAbs:Int)).sum:=by
        intro l
        induction l with
        | nil=>simp
        | cons q l ih=>simp![AR,DH];lia
       have:=pos l
       simp![AR,DH]
       rcases AL.mp h with rfl | h
       ·lia
       ·have:=ih h;lia
     exact(gen r hp).1
    lia) b hb).2
   have ne:a.lamp≠b.lamp:=by
    rw[e,eq]
    intro z
    exact hn.1 (AU.mpr ⟨q,hq,z.symm⟩)
   unfold NbS Nb
   lia
theorem U0 {ss:List Span} (h1:ss.Pairwise NbS) (h2:ss.Pairwise λa b=>Lp.lexLt (rn b) (rn a)=false):ss.Pairwise Nb:=by
 refine(h1.and h2).imp ?_
 rintro a b ⟨h,g⟩
 rcases h with h | h
 ·exact h
 ·have q:Lp.lexLt (rn b) (rn a)=true:=Yp h
  rw[q]at g;cases g
open PySem
section
variable {n : Nat} {μ ρ : Sto} {φ : Phi}
theorem Gg {l:List Int} (h:l.Nodup) {a b:Nat} (ha:a<l.length) (hb:b<l.length) (hab:a≠b):l[a]≠l[b]:=by
 have p:=DD.mp h
 rcases Nat.lt_or_gt_of_ne hab with q | q
 ·exact p a b ha hb q
 ·exact(p b a hb ha q).symm
theorem Me {ls:List Int} (h:ls.Nodup) (h1:1<=ls.length) (t:Int):((List.range ls.length).map fun(k:Nat)=>ls.getD (((k:Int)+t) % ls.length).toNat 0).Nodup:=by
 refine DD.mpr λi j hi hj hij=>?_
 simp![AD,DE]at hi hj
 simp![JF,List.getElem_range]
 have a0:0<=((i:Int)+t) % ls.length:=BL _ (by lia)
 have a1:((i:Int)+t) % ls.length<ls.length:=BM _ (by lia)
 have b0:0<=((j:Int)+t) % ls.length:=BL _ (by lia)
 have b1:((j:Int)+t) % ls.length<ls.length:=BM _ (by lia)
 have ne:((i:Int)+t) % ls.length≠((j:Int)+t) % ls.length:=λz=>by
  have:=Int.emod_emod_of_dvd
  have q:=Int.emod_eq_emod_iff_emod_sub_eq_zero.mp z.symm
  rw[show(j:Int)+t-(i+t)=(j:Int)-i by lia,GW (by lia) (by lia)]at q
  lia
 rw[BF,BF,AB (show(((i:Int)+t) % ls.length).toNat<ls.length by lia),AB (show(((j:Int)+t) % ls.length).toNat<ls.length by lia)]
 exact Gg h _ _ (by lia)
theorem Mf (hr:l5 μ) (t:Int) (ls:List Int) (hnd:ls.Nodup) (L w:Int) (h1:1<=ls.length) (h8:ls.length<=8) (hL:1<=L) (hw:0<=w/\w<=ls.length):∃ts:List (Int×Int),(∀p∈ts,p.1∈ls)/\ts.length<=8/\(ts.map (·.1)).Nodup/\Fit L (ts.map (·.2)) w/\ak GL (n+2) ku [.int t,.lst (ls.map D.int),.int L,.int w] μ=.ok (.lst (ts.map eP)) (μ++[.dead]):=by
 rw[ao D2,run_eq rfl]
 have hlen:∀(xs:List Int) (ν:Sto),btD .len .z [.lst (xs.map D.int)] ν=.ok (.int xs.length) ν:=λxs ν=>by rw[bt_len au,AD]
 obtain⟨N,hN⟩:∃N,N=ls.length:=⟨_,rfl⟩
 have c1:=comp_map (m:=.z) (μ:=μ) (φ:=ak GL (n+1)) (tg:=.one 2) (cs:=.nil) (elt:=mv) (σ0:=[some (.lst (ls.map D.int)),some (.int t),none]) (xs:=List.range ls.length) (en:=fun(k:Nat)=>D.int k) (g:=fun(k:Nat)=>D.int (ls.getD (((k:Int)+t) % ls.length).toNat 0)) (by
  intro k hk
  have z0:0<=((k:Int)+t) % ls.length:=BL _ (by lia)
  have z1:((k:Int)+t) % ls.length<ls.length:=BM _ (by lia)
  have i0:ixD (.lst (ls.map D.int)) (.int (((k:Int)+t) % ls.length)) μ=.ok (.int (ls.getD (((k:Int)+t) % ls.length).toNat 0)) μ:=yx au z0 (by rw[AW,AB (by lia)];simp[show(((k:Int)+t) % ls.length).toNat<ls.length by lia])
  simp![iu,mv,EV1,EV2,EV3,EV4,EV5,Nat.reduceSub,decide_true,decide_false,HI,IF,hlen,op_mod (show(0:Int)<(ls.length:Nat)by lia),i0])
 obtain⟨os,ho,hom,hon,eos⟩:∃os:List Int,os.length=ls.length/\(∀x∈os,x∈ls)/\os.Nodup/\(List.range ls.length).map (fun(k:Nat)=>D.int (ls.getD (((k:Int)+t) % ls.length).toNat 0))=os.map D.int:=by
  refine⟨(List.range ls.length).map fun(k:Nat)=>ls.getD (((k:Int)+t) % ls.length).toNat 0,by simp,λx hx=>?_,Me hnd h1 t,by rw[AY];rfl⟩
  obtain⟨k,_,rfl⟩:=AU.mp hx
  have z0:0<=((k:Int)+t) % ls.length:=BL _ (by lia)
  have z1:((k:Int)+t) % ls.length<ls.length:=BM _ (by lia)
  rw[BF,AB (show(((k:Int)+t) % ls.length).toNat<ls.length by lia)]
  exact CB _
 rw[eos]at c1
 obtain⟨σ',μ',e,ts,left,v7,v8,v9,hl,hm,hf1,hf2,hf3,hleft,rfl,rfl⟩:=jn (φ:=ak GL (n+1)) (μ:=μ++[.l []]) (tg:=.one 7) (b:=mx) (xs:=List.range os.length) (en:=fun(j:Nat)=>D.int j)
  (σ:=[some (.int t),some (.lst (ls.map D.int)),some (.int L),some (.int w),some (.lst (os.map D.int)),some (.int (w*L)),some (.loc μ.length),none,none,none])
  (λj σ μ'=>∃(ts:List (Int×Int)) (left:Int) (v7 v8 v9:Option D),ts.length=j/\(∀p∈ts,p.1∈ls)/\ts.map (·.1)=os.take j/\(∀p∈ts,0<=p.2/\p.2<=L)/\(ts.map (·.2)).sum+left=w*L/\(0<=left/\left<=L*((os.length:Int)-j))/\σ=[some (.int t),some (.lst (ls.map D.int)),some (.int L),some (.int w),some (.lst (os.map D.int)),some (.int left),some (.loc μ.length),v7,v8,v9]/\μ'=μ++[.l (ts.map eP)])
  ⟨[],w*L,none,none,none,rfl,by simp,by simp,by simp,by simp,⟨Int.mul_nonneg hw.1 (by lia),by
   rw[Int.mul_comm w L]
   exact Int.mul_le_mul_of_nonneg_left (by have:=hw.2;lia) (by lia)⟩,rfl,rfl⟩ (by
   rintro j a σ μ' ha ⟨ts,left,v7,v8,v9,hl,hm,hf1,hf2,hf3,⟨l0,l1⟩,rfl,rfl⟩
   obtain⟨rfl,hk⟩:=xm ha
   have H:l5 (μ++[.l (ts.map eP)]):=Cc hr _
   have eM:L*((os.length:Int)-a)=L*((os.length:Int)-a-1)+L:=by
    rw[show(os.length:Int)-a=((os.length:Int)-a-1)+1 by lia,Int.mul_add,Int.mul_one]
    congr 2
    lia
   have M0:0<=L*((os.length:Int)-a-1):=Int.mul_nonneg (by lia) (by lia)
   obtain⟨sh,s0,s1,es⟩:=F9 (n:=n) (t / 8+7919*a*a+a) (max 0 (left-L*((os.length:Int)-a-1))) (min L left) (by lia)
   have ks:=av (es (μ++[.l (ts.map eP)])) rfl rfl H
   have eo:os[a]? = some os[a]:=AB hk
   have mm:CMul L ((os.length:Int)-a-1):=.right (by lia) (by lia)
   have m1:CMul 7919 (a:Int):=.left (by decide) (by decide)
   have m2:CMul (7919*(a:Int)) (a:Int):=.right (by lia) (by lia)
   have ap:mtD .append (.loc μ.length) [.tup [.int os[a],.int sh]] (μ++[.l (ts.map eP)])=.ok .non (μ++[.l ((ts++[(os[a],sh)]).map eP)]):=by
    rw[Fx rfl (by rw[AD];lia),BX];rfl
   refine⟨_,_,?_,ts++[(os[a],sh)],left-sh,some (.int a),some (.int (max 0 (left-L*((os.length:Int)-a-1)))),some (.int sh),by simp[hl],?_,?_,?_,?_,?_,rfl,rfl⟩
   ·simp![fLp,mx,EV1,EV2,EV3,EV4,EV5,Nat.reduceSub,decide_true,decide_false,HI,IF,hlen,op_mul mm,ir (show(0:Int)<8 by decide) (by decide),op_mul m1,op_mul m2,ks,yy,Ld eo,ap]
   ·intro p hp
    rcases CM.mp hp with h | h
    ·exact hm p h
    ·rw[CV.mp h];exact hom _ (CB hk)
   ·rw[BX,hf1,DQ,eo];rfl
   ·intro p hp
    rcases CM.mp hp with h | h
    ·exact hf2 p h
    ·rw[CV.mp h]
     show 0<=sh/\sh<=L
     lia
   ·rw[BX,EN]
    simp![AR,DJ,DH,List.sum_nil]
    lia
   ·constructor
    ·lia
    ·rw[show(os.length:Int)-((a+1:Nat):Int)=(os.length:Int)-a-1 by lia]
     lia)
 rw[DE]at hf1 hleft
 have h0:left=0:=by
  rw[Int.sub_self,Int.mul_zero]at hleft
  lia
 refine⟨ts,hm,by simp at hl;lia,by rw[hf1,BY (AI _)];exact hon,⟨λx hx=>?_,by lia⟩,?_⟩
 ·obtain⟨p,hp,rfl⟩:=AU.mp hx
  exact hf2 p hp
 have e0:mkL .l [] μ=.ok (.loc μ.length) (μ++[.l []]):=Cb rfl
 have mw:CMul w L:=.left (by lia) (by lia)
 have fz:evE (ak GL (n+1)) (.frz 6) [some (.int t),some (.lst (ls.map D.int)),some (.int L),some (.int w),some (.lst (os.map D.int)),some (.int left),some (.loc μ.length),v7,v8,v9] (μ++[.l (ts.map eP)])=.ok (.lst (ts.map eP)) (μ++[.dead]):=by
  simp[evE]
 simp![D_law_ticks,EV1,EV2,EV3,EV4,EV5,Nat.reduceSub,decide_true,decide_false,HI,IF,hlen,dz (show ls.length<=1000000 by lia),c1,op_mul mw,e0,dz (show os.length<=1000000 by lia),e,fz]
theorem Ay (ss:List Span) (hl:ss.length<64):∃ss':List Span,ss'.Perm ss/\(ss'.Pairwise λa b=>Lp.lexLt (rn b) (rn a)=false)/\∀μ,btD .sorted .z [.loc (List.length μ)] (μ++[.l (ss.map eSpan)])=.ok (.lst (ss'.map eSpan)) (μ++[.l (ss.map eSpan)]):=by
 refine⟨(o4 (ss.map rn)).map unS,?_,?_,λμ=>?_⟩
 ·have:=(Srt.gg (ss.map rn)).map unS
  rw[AY,show(unS∘rn)=id from rfl,List.map_id]at this
  exact this
 ·rw[List.pairwise_map]
  refine(Srt.z8 (ss.map rn)).imp_of_mem ?_
  intro a b ha hb h
  obtain⟨s,_,rfl⟩:=AU.mp ((Srt.gg _).mem_iff.mp ha)
  obtain⟨s',_,rfl⟩:=AU.mp ((Srt.gg _).mem_iff.mp hb)
  exact h
 ·have hne:((ss.map rn).all λr=>!r.isEmpty)=true:=by rw[DA,AN];intro x _;rfl
  have e:((o4 (ss.map rn)).map λr=>D.tup (r.map D.int))=((o4 (ss.map rn)).map unS).map eSpan:=by
   rw[AY]
   refine CF λr hr=>?_
   obtain⟨s,_,rfl⟩:=AU.mp ((Srt.gg _).mem_iff.mp hr)
   rfl
  simp![btD,ff,E1,Lp.listOf,iq,AD,hl,if_true,zk,ug,hne,e,jg]
theorem Mg (L:Int) (hL:1<=L) (ts:List (Int×Int)) (h8:ts.length<=8):∃(ss:List Span) (ρ:Sto),ss.Perm (jo L ts 0)/\(ss.Pairwise λa b=>Lp.lexLt (rn b) (rn a)=false)/\ak GL (n+1) n8 [.int L,.lst (ts.map eP)] μ=.ok (.tup (ss.map eSpan)) (μ++ρ):=by
 rw[ao D3,run_eq rfl]
 obtain⟨σ',μ',e,v4,v5,v6,rfl,rfl⟩:=jn (φ:=ak GL n) (μ:=μ++[.l []]) (tg:=.many [4,5]) (b:=fu) (xs:=ts) (en:=eP)
  (σ:=[some (.int L),some (.lst (ts.map eP)),some (.loc μ.length),some (.int 0),none,none,none])
  (λj σ μ'=>∃(v4 v5 v6:Option D),σ=[some (.int L),some (.lst (ts.map eP)),some (.loc μ.length),some (.int (stR L (ts.take j) 0)),v4,v5,v6]/\μ'=μ++[.l ((jo L (ts.take j) 0).map eSpan)])
  ⟨none,none,none,rfl,rfl⟩ (by
   rintro j ⟨k,sh⟩ σ μ' ha ⟨v4,v5,v6,rfl,rfl⟩
   have hj:j<ts.length:=(AF.mp ha).1
   have hl:=sk L (ts.take j) 0
   have hl2:(ts.take j).length<=8:=by rw[EX];lia
   have e1:jo L (ts.take (j+1)) 0=jo L (ts.take j) 0++pj k (stR L (ts.take j) 0) sh L:=by
    rw[DQ,ha]
    exact y6 L _ (k,sh) 0
   have e2:stR L (ts.take (j+1)) 0=(stR L (ts.take j) 0+sh) % L:=by
    rw[DQ,ha]
    exact Ge L _ (k,sh) 0
   generalize stR L (ts.take j) 0=at_ at e1 e2
   generalize jo L (ts.take j) 0=ss at e1 hl
   have ap:∀(ss:List Span) (a b:Int),ss.length<=100->mtD .append (.loc μ.length) [.tup [.int k,.int a,.int b]] (μ++[.l (ss.map eSpan)])=.ok .non (μ++[.l ((ss++[(⟨k,a,b⟩:Span)]).map eSpan)]):=λss a b h=>by
    rw[Fx rfl (by rw[AD];lia),BX];rfl
   have bt:gf (.many [4,5]) (eP (k,sh)) [some (.int L),some (.lst (ts.map eP)),some (.loc μ.length),some (.int at_),v4,v5,v6]=some [some (.int L),some (.lst (ts.map eP)),some (.loc μ.length),some (.int at_),some (.int k),some (.int sh),v6]:=rfl
   refine⟨_,_,?_,some (.int k),some (.int sh),some (.int (at_+sh)),rfl,rfl⟩
   rw[e1,e2]
   unfold pj
   by_cases h1:0<sh
   ·by_cases h2:L<at_+sh
    ·rw[if_pos h1,if_pos h2,<-Da]
     simp! only[fLp,fu,bt,h1,h2,yy,ap ss _ _ (by lia),ap (ss++[⟨k,at_,min (at_+sh) L⟩]) _ _ (by simp;lia),op_mod (show(0:Int)<L by lia)]
    ·rw[if_pos h1,if_neg h2,GG]
     simp! only[fLp,fu,bt,h1,h2,yy,ap ss _ _ (by lia),op_mod (show(0:Int)<L by lia)]
   ·by_cases h2:L<at_+sh
    ·rw[if_neg h1,if_pos h2]
     simp! only[fLp,fu,bt,h1,h2,yy,ap ss _ _ (by lia),op_mod (show(0:Int)<L by lia)]
    ·rw[if_neg h1,if_neg h2,GG,GG]
     simp! only[fLp,fu,bt,h1,h2,op_mod (show(0:Int)<L by lia)])
 rw[BY (AI _)]at e
 have hl:=sk L ts 0
 obtain⟨ss',hp,hup,es⟩:=Ay (jo L ts 0) (by lia)
 refine⟨ss',[.l ((jo L ts 0).map eSpan)],hp,hup,?_⟩
 have e0:mkL .l [] μ=.ok (.loc μ.length) (μ++[.l []]):=Cb rfl
 simp! only[D_law_spans,e0,e,es μ,bt_tuple au]
end
structure NgtS (L:Nat) (aw:List (List Int)) (i:Nat) (g:Ngt):Prop where
 len:1<=g.length
 tk:∀p∈g.ticks,0<=p.1/\p.1<L/\(i:Int)∉aw.getD p.1.toNat []
 few:g.ticks.length<=8
 nd:(g.ticks.map (·.1)).Nodup
 fit:Fit g.length (g.ticks.map (·.2)) g.wanted
 raw:g.spans.Perm (jo g.length g.ticks 0)
 up:g.spans.Pairwise λa b=>Lp.lexLt (rn b) (rn a)=false
theorem NgtS.each {L:Nat} {aw:List (List Int)} {i:Nat} {g:Ngt} (h:NgtS L aw i g):∀p∈g.ticks,0<=p.2/\p.2<=g.length:=λp hp=>h.fit.each p.2 (AU.mpr ⟨p,hp,rfl⟩)
theorem NgtS.good {L:Nat} {aw:List (List Int)} {i:Nat} {g:Ngt} (h:NgtS L aw i g):∀s∈g.spans,Good g.length 0 L s/\(i:Int)∉aw.getD s.lamp.toNat []:=λs hs=>by
 have:=h.len
 obtain⟨q,p,hp,e⟩:=Ax (lo:=0) (hi:=L) g.ticks 0 (by lia) (by lia) h.each (λp hp=>⟨(h.tk p hp).1,(h.tk p hp).2.1⟩) s (h.raw.mem_iff.mp hs)
 exact⟨q,by rw[e];exact(h.tk p hp).2.2⟩
theorem NgtS.nb {L:Nat} {aw:List (List Int)} {i:Nat} {g:Ngt} (h:NgtS L aw i g):g.spans.Pairwise Nb:=by
 have:=h.len
 exact U0 ((Rt g.ticks 0 (by lia) (by lia) h.each h.nd).perm h.raw.symm λz=>NbS.symm z) h.up
theorem NgtS.cov {L:Nat} {aw:List (List Int)} {i:Nat} {g:Ngt} (h:NgtS L aw i g) (t:Int) (t0:0<=t) (t1:t<g.length):(cov g.spans t:Int)=g.wanted:=by
 have:=h.len
 rw[Gf h.raw,Md g.ticks 0 0 (by lia) (by lia) h.each]
 exact O6 h.fit t0 t1
theorem NgtS.ticks {L:Nat} {aw:List (List Int)} {i:Nat} {g:Ngt} (h:NgtS L aw i g) (k:Int):ay g.spans k=Aw g.ticks k:=by
 have:=h.len
 rw[y8 h.raw,Cj g.ticks 0 k (by lia) (by lia) h.each]
theorem NgtS.cnt {L:Nat} {aw:List (List Int)} {i:Nat} {g:Ngt} (h:NgtS L aw i g):g.spans.length<=16:=by
 rw[h.raw.length_eq]
 have:=sk g.length g.ticks 0
 have:=h.few
 lia
section
variable {n : Nat} {μ ρ : Sto} {φ : Phi}
theorem Ie (cs:List Int) (L N:Nat) (aw:List (List Int)) (hL:1<=L/\L<=8) (hN:N<=16) (haw:aw.length=L):∃(ns:List Ngt) (cs':List Int),ns.length=N/\(∀(i:Nat) g,ns[i]? = some g->NgtS L aw i g)/\ak GL (n+3) ma [.loc 0,f9 L N aw] [Lf cs]=.ok (.lst (ns.map qg)) [Lf cs',.dead]:=by
 rw[ao B4,run_eq rfl]
 obtain⟨σ',μ',e,ns,cs',v3,v4,v5,v6,v7,v8,hl,hok,rfl,rfl⟩:=jn (φ:=ak GL (n+2)) (μ:=[Lf cs,.l []]) (tg:=.one 3) (b:=ky) (xs:=List.range N) (en:=fun(j:Nat)=>D.int j)
  (σ:=[some (.loc 0),some (f9 L N aw),some (.loc 1),none,none,none,none,none,none])
  (λj σ μ'=>∃(ns:List Ngt) (cs':List Int) (v3 v4 v5 v6 v7 v8:Option D),ns.length=j/\(∀(i:Nat) g,ns[i]? = some g->NgtS L aw i g)/\σ=[some (.loc 0),some (f9 L N aw),some (.loc 1),v3,v4,v5,v6,v7,v8]/\μ'=[Lf cs',.l (ns.map qg)])
  ⟨[],cs,none,none,none,none,none,none,rfl,by simp,rfl,rfl⟩ (by
   rintro j a σ μ' ha ⟨ns,cs',v3,v4,v5,v6,v7,v8,hl,hok,rfl,rfl⟩
   obtain⟨rfl,hk⟩:=xm ha
   have c1:=gz (m:=.z) (μ:=[Lf cs',.l (ns.map qg)]) (φ:=ak GL (n+2)) (tg:=.one 2) (cs:=g8) (elt:=g9) (σ0:=[some (.int a),some (f9 L N aw),none]) (xs:=List.range L) (en:=fun(k:Nat)=>D.int k) (g:=λk=>D.int k)
    (p:=λk=>!((aw.getD k []).map D.int).any λy=>deq y (.int a)) (by
     intro k hk
     have hk:k<aw.length:=by rw[haw];simpa using hk
     have i0:ixD (.lst (aw.map eIl)) (.int k) [Lf cs',.l (ns.map qg)]=.ok (eIl (aw.getD k [])) [Lf cs',.l (ns.map qg)]:=uo au (by rw[AW,AB hk];simp[hk])
     cases q:(!((aw.getD k []).map D.int).any λy=>deq y (.int a))with
     | true=>simp! only[iu,g8,g9,Uy,i0,Gc,q,if_true]
     | false=>simp! only[iu,g8,g9,Uy,i0,Gc,q,AS,if_false])
   obtain⟨fr,hfr,hfl,hfn,efr⟩:∃fr:List Int,(∀x∈fr,0<=x/\x<L/\(a:Int)∉aw.getD x.toNat [])/\fr.length<=8/\fr.Nodup/\((List.range L).filter λk=>!((aw.getD k []).map D.int).any λy=>deq y (.int a)).map (fun(k:Nat)=>D.int k)=fr.map D.int:=by
    refine⟨((List.range L).filter λk=>!((aw.getD k []).map D.int).any λy=>deq y (.int a)).map fun(k:Nat)=>(k:Int),λx hx=>?_,?_,?_,by rw[AY];rfl⟩
    ·obtain⟨k,hk,rfl⟩:=AU.mp hx
     have q1:=(GD.mp hk).1
     have q2:=(GD.mp hk).2
     simp at q1
     refine⟨by lia,by lia,λz=>?_⟩
     rw[CI]at z
     have:((aw.getD k []).map D.int).any (λy=>deq y (.int (a:Int)))=true:=DM.mpr ⟨.int a,AU.mpr ⟨_,z,rfl⟩,by simp[deq]⟩
     rw[this]at q2
     cases q2
    ·rw[AD]
     have:=KD (λk=>!((aw.getD k []).map D.int).any λy=>deq y (.int (a:Int))) (List.range L)
     rw[DE]at this
     lia
    ·refine List.Pairwise.map _ (λx y h=>?_) (List.nodup_range.filter _)
     intro z
     exact h (by lia)
   rw[efr]at c1
   have hlen:∀ν:Sto,btD .len .z [.lst (fr.map D.int)] ν=.ok (.int fr.length) ν:=λν=>by rw[bt_len au,AD]
   have k1:=pd (n:=n+1) (ρ:=[.l (ns.map qg)]) (λcs=>Au) cs'
   have k2:=D9 (n:=n) (Au (cs:=cs'.tail) (xs:=ns.map qg)) (cs'.headD 0) (10 ^ 15) (by decide)
   have k3:=pd (n:=n+1) (ρ:=[.l (ns.map qg)]) (λcs=>Au) cs'.tail
   have k4:=oi (n:=n+1) (Au (cs:=cs'.tail.tail) (xs:=ns.map qg)) (cs'.tail.headD 0)
   have tn:=vc (cs'.tail.headD 0)
   generalize ip (cs'.tail.headD 0)=T at k4 tn
   have w0:0<=T % ((fr.length:Int)+1):=BL _ (by lia)
   have w1:T % ((fr.length:Int)+1)<(fr.length:Int)+1:=BM _ (by lia)
   obtain⟨W,hW⟩:∃W,W=T % ((fr.length:Int)+1):=⟨_,rfl⟩
   have mW:∀ν:Sto,opI .Mod T ((fr.length:Int)+1) ν=.ok (.int W) ν:=λν=>by rw[op_mod (by lia),hW]
   obtain⟨K,hK⟩:∃K,K=max 1 (w8 (cs'.headD 0) (10 ^ 15)):=⟨_,rfl⟩
   have hK1:1<=K:=by lia
   obtain⟨ts,ht1,ht2,ht3,ht4,stp⟩:∃ts:List (Int×Int),(∀p∈ts,p.1∈fr)/\ts.length<=8/\(ts.map (·.1)).Nodup/\Fit K (ts.map (·.2)) W/\evS (ak GL (n+2)) (.ite (.cmp (.blt .len .z (.cons (.var 4) .nil)) (.cons .gt (.cst (.int 0)) .nil)) (.cons (.set 8 (.call false ku (.cons (.bin .FloorDiv .z (.var 6) (.cst (.int 16))) (.cons (.var 4) (.cons (.var 5) (.cons (.var 7) .nil)))))) .nil) .nil)
     [some (.loc 0),some (f9 L N aw),some (.loc 1),some (.int a),some (.lst (fr.map D.int)),some (.int K),some (.int T),some (.int W),some (.lst [])] [Lf cs'.tail.tail,.l (ns.map qg)] =
     .ok (.nx [some (.loc 0),some (f9 L N aw),some (.loc 1),some (.int a),some (.lst (fr.map D.int)),some (.int K),some (.int T),some (.int W),some (.lst (ts.map eP))]) [Lf cs'.tail.tail,.l (ns.map qg)]:=by
    by_cases h0:(0:Int)<fr.length
    ·obtain⟨ts,t1,t2,t3,t4,et⟩:=Mf (n:=n) (Au (cs:=cs'.tail.tail) (xs:=ns.map qg)) (T / 16) fr hfn K W (by lia) hfl hK1 (by lia)
     refine⟨ts,t1,t2,t3,t4,?_⟩
     have kt:=fw et (Uw ts) Au
     simp! only[hlen,h0,ir (show(0:Int)<16 by decide) (by decide),kt]
    ·have w00:W=0:=by
      rw[hW,show(fr.length:Int)+1=1 by lia,Int.emod_one]
     refine⟨[],by simp,by simp,by simp,⟨by simp,by rw[w00];simp⟩,?_⟩
     simp! only[hlen,h0]
   obtain⟨ss,ρs,hs1,hs2,es⟩:=Mg (n:=n+1) (μ:=[Lf cs'.tail.tail,.l (ns.map qg)]) K hK1 ts ht2
   have pss:(D.tup (ss.map eSpan)).pure=true:=by
    rw[D.pure,dy,AN];intro x hx;obtain⟨i,_,rfl⟩:=AU.mp hx;exact xk i
   have ks:=fw es pss Au
   have km:∀es σ,kM (ak GL (n+2)) .append es σ (.loc 1) [Lf cs'.tail.tail,.l (ns.map qg)]=(jh (ak GL (n+2)) es σ [Lf cs'.tail.tail,.l (ns.map qg)]).bind (mtD .append (.loc 1)):=λes σ=>yy (μ:=[Lf cs'.tail.tail])
   have ap:mtD .append (.loc 1) [.tup [.int K,.int W,.lst (ts.map eP),.tup (ss.map eSpan)]] [Lf cs'.tail.tail,.l (ns.map qg)]=.ok .non [Lf cs'.tail.tail,.l ((ns++[(⟨K,W,ts,ss⟩:Ngt)]).map qg)]:=by
    have:=Fx (μ:=[Lf cs'.tail.tail]) (ds:=ns.map qg) (d:=qg ⟨K,W,ts,ss⟩) (Gb _) (by rw[AD];lia)
    rw[BX]
    exact this
   have p15:opI .Pow 10 15 [Lf cs'.tail,.l (ns.map qg)]=.ok (.int (10 ^ 15)) [Lf cs'.tail,.l (ns.map qg)]:=op_pow (by decide)
   refine⟨_,_,?_,ns++[⟨K,W,ts,ss⟩],cs'.tail.tail,some (.int a),some (.lst (fr.map D.int)),some (.int K),some (.int T),some (.int W),some (.lst (ts.map eP)),by simp[hl],?_,rfl,rfl⟩
   ·simp! only[fLp,ky,Ux,dz (show L<=1000000 by lia),c1,k1,p15,k2,<-hK,k3,k4,hlen,mW,stp,ks,km,ap]
   ·intro i g hg
    by_cases hi:i<ns.length
    ·rw[AV hi]at hg
     exact hok i g hg
    ·have hi2:i=ns.length:=by
      have:=(AF.mp hg).1
      simp at this
      lia
     subst hi2
     have eg:g=⟨K,W,ts,ss⟩:=by
      rw[BQ (AI _),JO]at hg
      simpa using hg.symm
     subst eg
     rw[hl]
     exact⟨hK1,λp hp=>hfr _ (ht1 p hp),ht2,ht3,ht4,hs1,hs2⟩)
 refine⟨ns,cs',by simpa using hl,hok,?_⟩
 have e0:mkL .l [] [Lf cs]=.ok (.loc 1) [Lf cs,.l []]:=Cb rfl
 have fz:evE (ak GL (n+2)) (.frz 2) [some (.loc 0),some (f9 L N aw),some (.loc 1),v3,v4,v5,v6,v7,v8] [Lf cs',.l (ns.map qg)]=.ok (.lst (ns.map qg)) [Lf cs',.dead]:=by simp[evE]
 simp! only[D_law_nights,e0,aar,dz (show N<=1000000 by lia),e,fz]
end
open PySem
def fb (st:Int) (L:Nat) (H:Int×List Int) (t:Tn):Int×List Int:=(min (H.1+t.taken+t.bought-t.poured.sum) st,(List.range L).map fun(k:Nat)=>H.2.getD k 0+t.poured.getD k 0-ay t.spans k)
structure DayS (L:Nat) (mst:List Int) (aw:List (List Int)) (i:Nat) (H:Int×List Int) (t:Tn) (d:Day):Prop where
 tk:0<=t.taken/\t.taken<=d.boat
 bt:0<=t.bought/\t.bought<=d.most
 pl:t.poured.length=L
 p0:∀x∈t.poured,0<=x
 ps:t.poured.sum<=H.1+t.taken+t.bought
 tank:∀k:Nat,k<L->H.2.getD k 0+t.poured.getD k 0<=mst.getD k 0
 len:1<=d.length
 good:∀s∈t.spans,Good d.length 0 L s/\(i:Int)∉aw.getD s.lamp.toNat []
 nb:t.spans.Pairwise Nb
 few:t.spans.length<=16
 cov:∀x,0<=x->x<d.length->(cov t.spans x:Int)=d.wanted
 oil:∀k:Nat,k<L->ay t.spans k<=H.2.getD k 0+t.poured.getD k 0
 price:0<=d.price/\d.price<=10 ^ 15
theorem DayS.mono {L:Nat} {m m':List Int} {aw:List (List Int)} {i:Nat} {H:Int×List Int} {t:Tn} {d:Day} (h:DayS L m aw i H t d) (hm:∀k:Nat,k<L->m.getD k 0<=m'.getD k 0):DayS L m' aw i H t d :=
 ⟨h.tk,h.bt,h.pl,h.p0,h.ps,λk hk=>Int.le_trans (h.tank k hk) (hm k hk),h.len,h.good,h.nb,h.few,h.cov,h.oil,h.price⟩
theorem xp {L:Nat} {f:Nat->Int} {k:Nat} (h:k<L):((List.range L).map f).getD k 0=f k:=by simp[h]
theorem Gh (ts:List (Int×Int)) (p:Int×Int) (k:Int):Aw (ts++[p]) k=Aw ts k+if p.1=k then p.2 else 0:=by simp[Aw,EN]
theorem Gi:∀(ts:List (Int×Int)) (k:Int),k∉ts.map (·.1)->Aw ts k=0
 | [],_,_=>rfl
 | p::r,k,h=>by
  rw[AR,AL,not_or]at h
  have:=Gi r k h.2
  simp![Aw,AR,DH]at this ⊢
  rw[this,if_neg (λz=>h.1 z.symm)];rfl
def AK (L:Nat) (ts:List (Int×Int)):List Int:=(List.range L).map fun(k:Nat)=>Aw ts k
theorem Ck (L:Nat) (ts:List (Int×Int)):(AK L ts).length=L:=by simp[AK]
theorem U1 (L:Nat) (ts:List (Int×Int)) (sh:Int) {K:Nat} (hn:(K:Int)∉ts.map (·.1)):(AK L ts).set K sh=AK L (ts++[((K:Int),sh)]):=by
 apply CA
 intro i
 by_cases hi:i<L
 ·by_cases h:K=i
  ·subst h
   rw[CT (by rw[Ck];exact hi)]
   simp[AK,hi,Gh,Gi ts K hn]
  ·have h2:¬(K:Int)=(i:Int):=by lia
   rw[BR h]
   simp[AK,hi,Gh,h2]
 ·rw[AZ (by rw[JP,Ck];lia),AZ (by rw[Ck];lia)]
section
variable {n : Nat} {μ ρ : Sto} {φ : Phi}
theorem y9 {S α:Type} {f:D->Sto->Res (List D)} {enS:S->Sto} {en:α->D} {P:α->Int->Prop}:∀{xs:List α},(∀a∈xs,∀s,∃v s',P a v/\f (en a) (enS s)=.ok [D.int v] (enS s'))->∀s,∃(vs:List Int) (s':S),vs.length=xs.length/\(∀(i:Nat) a,xs[i]? = some a->P a (vs.getD i 0))/\mapR none f (xs.map en) (enS s)=.ok (vs.map D.int) (enS s')
 | [],_,s=>⟨[],s,rfl,by simp,by simp[mapR]⟩
 | d::ds,h,s=>by
  obtain⟨v,s1,p1,e1⟩:=h d AQ s
  obtain⟨vs,s2,hl,hp,e2⟩:=y9 (xs:=ds) (λx hx=>h x (AH _ hx)) s1
  refine⟨v::vs,s2,by simp[hl],λi a ha=>?_,?_⟩
  ·cases i with
   | zero=>simp at ha;subst ha;simpa using p1
   | succ i=>simpa using hp i a (by simpa using ha)
  ·simp![AR,mapR,tu,if_true,e1,Res.bg,e2]
   rfl
theorem Ig {S:Type} {m:Mk} {tg:Tg} {cs:Exs} {elt:Ex} {σ0:Sl} {enS:S->Sto} {L:Nat} {P:Nat->Int->Prop} (h:∀k,k<L->∀s,∃v s',P k v/\iu φ tg cs elt σ0 (.int k) (enS s)=.ok [D.int v] (enS s')) (s:S) :
  ∃(vs:List Int) (s':S),vs.length=L/\(∀k,k<L->P k (vs.getD k 0))/\gy φ m tg cs elt σ0 ((List.range L).map (fun(k:Nat)=>D.int k),none) (enS s)=mkL m (vs.map D.int) (enS s'):=by
 obtain⟨vs,s',hl,hp,e⟩:=y9 (f:=iu φ tg cs elt σ0) (enS:=enS) (en:=fun(k:Nat)=>D.int k) (P:=P) (xs:=List.range L) (λa ha s=>h a (by simpa using ha) s) s
 refine⟨vs,s',by simpa using hl,λk hk=>hp k k (by rw[List.getElem?_range hk]),?_⟩
 rw[gy]
 show(mapR none _ _ (enS s)).bind _=_
 rw[e];rfl
theorem sr {tg:Tg} {cs:Exs} {elt:Ex} {σ0:Sl} {L:Nat} {f:Nat->Int} (h:∀k,k<L->iu φ tg cs elt σ0 (.int k) μ=.ok [D.int (f k)] μ) :
  gy φ .z tg cs elt σ0 ((List.range L).map (fun(k:Nat)=>D.int k),none) μ=.ok (.lst (((List.range L).map f).map D.int)) μ:=by
 rw[comp_map (en:=fun(k:Nat)=>D.int k) (g:=λk=>D.int (f k)) λa ha=>h a (by simpa using ha),jg,AY];rfl
theorem Ih {L N:Nat} {aw:List (List Int)} {g:Ngt} {i0:Nat} (hg:NgtS L aw i0 g) (hL:L<=8) {ngs:D} {st oil here:Int} {fi tanks most:List Int} (h1:fi.length=L) (h2:tanks.length=L) (h3:most.length=L) {ds:List Day} {rs:List Tn} (hd:ds.length<=100) (hrl:rs.length<=100) (cs:List Int) (hρ:ρ.all noR=true) (v11 v12 v13 v14 v15 v16 v17 v18 v19 v20 v21:Option D) :
  ∃(σ':Sl) (cs':List Int) (most':List Int) (d:Day) (t:Tn) (ρ':Sto) (w:Nat->Option D),most'.length=L/\(∀k:Nat,k<L->most.getD k 0<=most'.getD k 0)/\DayS L most' aw i0 (here,tanks) t d/\ρ'.all noR=true /\
   σ'=[some (.loc 0),some (f9 L N aw),some ngs,some (.int st),some (.int oil),some (.lst (fi.map D.int)),some (.lst ((fb st L (here,tanks) t).2.map D.int)),some (.lst (most'.map D.int)),some (.loc 1),some (.loc 2),some (.int (fb st L (here,tanks) t).1),some (.int g.length),some (.int g.wanted),some (.lst (g.ticks.map eP)),some (.tup (g.spans.map eSpan)),w 15,w 16,w 17,w 18,w 19,w 20,w 21,none] /\
   fLp (ak GL (n+3)) (.many [11,12,13,14]) ij (qg g) [some (.loc 0),some (f9 L N aw),some ngs,some (.int st),some (.int oil),some (.lst (fi.map D.int)),some (.lst (tanks.map D.int)),some (.lst (most.map D.int)),some (.loc 1),some (.loc 2),some (.int here),v11,v12,v13,v14,v15,v16,v17,v18,v19,v20,v21,none] (Lf cs::.l (ds.map mz)::.l (rs.map eTn)::ρ) =
    .ok (.nx σ') (Lf cs'::.l ((ds++[d]).map mz)::.l ((rs++[t]).map eTn)::ρ'):=by
 have c0:=comp_map (m:=.l) (μ:=Lf cs::.l (ds.map mz)::.l (rs.map eTn)::ρ) (φ:=ak GL (n+3)) (tg:=.one 0) (cs:=.nil) (elt:=k7) (σ0:=[none]) (xs:=List.range L) (en:=fun(k:Nat)=>D.int k) (g:=λ_=>D.int 0) (by
  intro k _
  simp! only[iu,k7])
 have ez:(List.range L).map (λ_=>D.int 0)=(AK L []).map D.int:=by rw[AK,AY];rfl
 rw[ez,mk3 (Eh _)]at c0
 obtain⟨σ1,μ1,e1,w16,w17,rfl,rfl⟩:=jn (φ:=ak GL (n+3)) (μ:=Lf cs::.l (ds.map mz)::.l (rs.map eTn)::(ρ++[.l ((AK L []).map D.int)])) (tg:=.many [16,17]) (b:=k9) (xs:=g.ticks) (en:=eP)
  (σ:=[some (.loc 0),some (f9 L N aw),some ngs,some (.int st),some (.int oil),some (.lst (fi.map D.int)),some (.lst (tanks.map D.int)),some (.lst (most.map D.int)),some (.loc 1),some (.loc 2),some (.int here),some (.int g.length),some (.int g.wanted),some (.lst (g.ticks.map eP)),some (.tup (g.spans.map eSpan)),some (.loc (ρ.length+3)),v16,v17,v18,v19,v20,v21,none])
  (λj σ μ'=>∃(w16 w17:Option D),σ=[some (.loc 0),some (f9 L N aw),some ngs,some (.int st),some (.int oil),some (.lst (fi.map D.int)),some (.lst (tanks.map D.int)),some (.lst (most.map D.int)),some (.loc 1),some (.loc 2),some (.int here),some (.int g.length),some (.int g.wanted),some (.lst (g.ticks.map eP)),some (.tup (g.spans.map eSpan)),some (.loc (ρ.length+3)),w16,w17,v18,v19,v20,v21,none]/\μ'=Lf cs::.l (ds.map mz)::.l (rs.map eTn)::(ρ++[.l ((AK L (g.ticks.take j)).map D.int)]))
  ⟨v16,v17,rfl,rfl⟩ (by
   rintro j ⟨k,sh⟩ σ μ' hj ⟨w16,w17,rfl,rfl⟩
   have hk:=hg.tk _ (BD hj)
   obtain⟨K,hK⟩:∃K:Nat,(K:Int)=k:=⟨k.toNat,by have:=hk.1;simp at this;lia⟩
   have hK2:K<(AK L (g.ticks.take j)).length:=by rw[Ck];have:=hk.2.1;simp at this;lia
   have hKn:(K:Int)∉(g.ticks.take j).map (·.1):=λz=>by
    rw[hK,IW]at z
    obtain⟨q,hq,e⟩:=BS.mp z
    have hj2:j<g.ticks.length:=(AF.mp hj).1
    rw[EX,AD]at hq
    rw[GV]at e
    have e2:(g.ticks.map (·.1))[j]'(by rw[AD];exact hj2)=k:=by
     rw[JF,(AF.mp hj).2]
    exact Gg hg.nd (show q<_ by rw[AD];lia) (show j<_ by rw[AD];exact hj2) (by lia) (by rw[e,e2])
   have e1:g.ticks.take (j+1)=g.ticks.take j++[((K:Int),sh)]:=by rw[DQ,hj,hK];rfl
   have bt:∀σ:Sl,gf (.many [16,17]) (eP (k,sh)) σ=some ((σ.set 16 (some (.int K))).set 17 (some (.int sh))):=λσ=>by rw[hK];rfl
   refine⟨_,_,?_,some (.int K),some (.int sh),rfl,rfl⟩
   rw[e1,<-U1 L _ sh hKn]
   simp! only[fLp,k9,bt,aas hK2])
 rw[BY (AI _)]at e1
 obtain⟨as,has⟩:∃as,as=AK L g.ticks:=⟨_,rfl⟩
 rw[<-has]at e1
 have ha:as.length=L:=by rw[has,Ck]
 have hask:∀k:Nat,k<L->as.getD k 0=ay g.spans k:=λk hk=>by rw[has,AK,xp hk,hg.ticks]
 have hρ2:=Uz hρ (as.map D.int)
 have ia:∀(cs:List Int) (k:Nat),k<L->ixD (.loc (ρ.length+3)) (.int k) (Lf cs::.l (ds.map mz)::.l (rs.map eTn)::(ρ++[.l (as.map D.int)]))=.ok (.int (as.getD k 0)) (Lf cs::.l (ds.map mz)::.l (rs.map eTn)::(ρ++[.l (as.map D.int)])):=λcs k hk=>qu abv (by lia)
 have il:∀(xs:List Int) (ν:Sto) (k:Nat),k<xs.length->ixD (.lst (xs.map D.int)) (.int k) ν=.ok (.int (xs.getD k 0)) ν:=λxs ν k hk=>qu au hk
 obtain⟨po,cs1,hpo,hpP,ep⟩:=Ig (S:=List Int) (m:=.z) (P:=λk v=>0<=v/\as.getD k 0<=tanks.getD k 0+v) (L:=L) (φ:=ak GL (n+3)) (tg:=.one 3) (cs:=.nil) (elt:=lb) (σ0:=[some (.loc (ρ.length+3)),some (.lst (tanks.map D.int)),some (.loc 0),none])
  (enS:=λcs=>Lf cs::.l (ds.map mz)::.l (rs.map eTn)::(ρ++[.l (as.map D.int)])) (by
   intro k hk cs
   have sb:=sj (cs.headD 0)
   have ks:=oo (n:=n+1) (ρ:=.l (ds.map mz)::.l (rs.map eTn)::(ρ++[.l (as.map D.int)])) (yb hρ2) cs
   refine⟨max 0 (as.getD k 0-tanks.getD k 0)+iy (cs.headD 0),cs.tail,by lia,?_⟩
   simp! only[iu,lb,ia cs k hk,il tanks _ k (by lia),ks]) cs
 rw[jg]at ep
 have ks1:=oo (n:=n+1) (ρ:=.l (ds.map mz)::.l (rs.map eTn)::(ρ++[.l (as.map D.int)])) (yb hρ2) cs1
 have sb1:=sj (cs1.headD 0)
 obtain⟨lack,hlack⟩:∃lack,lack=max 0 (po.sum-here)+iy (cs1.headD 0):=⟨_,rfl⟩
 have kn2:=pd (n:=n+2) (ρ:=.l (ds.map mz)::.l (rs.map eTn)::(ρ++[.l (as.map D.int)])) (λcs=>yb hρ2) cs1.tail
 have kt2:=oi (n:=n+2) (yb (cs:=cs1.tail.tail) (ds:=ds.map mz) (rs:=rs.map eTn) hρ2) (cs1.tail.headD 0)
 obtain⟨tk,t0,t1,es⟩:=F9 (n:=n+2) (ip (cs1.tail.headD 0)) 0 lack (by lia)
 have ksh:=av (es (Lf cs1.tail.tail::.l (ds.map mz)::.l (rs.map eTn)::(ρ++[.l (as.map D.int)]))) rfl rfl (yb hρ2)
 have e4:=sr (L:=L) (f:=λk=>tanks.getD k 0+po.getD k 0) (μ:=Lf cs1.tail.tail::.l (ds.map mz)::.l (rs.map eTn)::(ρ++[.l (as.map D.int)])) (φ:=ak GL (n+3)) (tg:=.one 2) (cs:=.nil) (elt:=lg) (σ0:=[some (.lst (tanks.map D.int)),some (.lst (po.map D.int)),none]) (by
  intro k hk
  simp! only[iu,lg,il tanks _ k (by lia),il po _ k (by lia)])
 obtain⟨ta,dta⟩:∃ta,ta=(List.range L).map λk=>tanks.getD k 0+po.getD k 0:=⟨_,rfl⟩
 rw[<-dta]at e4
 have hta:ta.length=L:=by rw[dta];simp
 have e5:=sr (L:=L) (f:=λk=>max (most.getD k 0) (ta.getD k 0)) (μ:=Lf cs1.tail.tail::.l (ds.map mz)::.l (rs.map eTn)::(ρ++[.l (as.map D.int)])) (φ:=ak GL (n+3)) (tg:=.one 2) (cs:=.nil) (elt:=lh) (σ0:=[some (.lst (most.map D.int)),some (.lst (ta.map D.int)),none]) (by
  intro k hk
  simp! only[iu,lh,il most _ k (by lia),il ta _ k (by lia)])
 obtain⟨mo,dmo⟩:∃mo,mo=(List.range L).map λk=>max (most.getD k 0) (ta.getD k 0):=⟨_,rfl⟩
 rw[<-dmo]at e5
 have hmo:mo.length=L:=by rw[dmo];simp
 have e6:=sr (L:=L) (f:=λk=>ta.getD k 0-as.getD k 0) (μ:=Lf cs1.tail.tail::.l (ds.map mz)::.l (rs.map eTn)::(ρ++[.l (as.map D.int)])) (φ:=ak GL (n+3)) (tg:=.one 2) (cs:=.nil) (elt:=lj) (σ0:=[some (.lst (ta.map D.int)),some (.loc (ρ.length+3)),none]) (by
  intro k hk
  simp! only[iu,lj,il ta _ k (by lia),ia _ k hk])
 obtain⟨tb,dtb⟩:∃tb,tb=(List.range L).map λk=>ta.getD k 0-as.getD k 0:=⟨_,rfl⟩
 rw[<-dtb]at e6
 have htb:tb.length=L:=by rw[dtb];simp
 have hsum:∀ν:Sto,btD .sum .z [.lst (po.map D.int)] ν=.ok (.int po.sum) ν:=λν=>bt_sum au (jf _)
 have kn3:=pd (n:=n+2) (ρ:=.l (ds.map mz)::.l (rs.map eTn)::(ρ++[.l (as.map D.int)])) (λcs=>yb hρ2) cs1.tail.tail
 have p15:opI .Pow 10 15 (Lf cs1.tail.tail.tail::.l (ds.map mz)::.l (rs.map eTn)::(ρ++[.l (as.map D.int)]))=.ok (.int (10 ^ 15)) (Lf cs1.tail.tail.tail::.l (ds.map mz)::.l (rs.map eTn)::(ρ++[.l (as.map D.int)])):=op_pow (by decide)
 have ksz:=D9 (n:=n+1) (yb (cs:=cs1.tail.tail.tail) (ds:=ds.map mz) (rs:=rs.map eTn) hρ2) (cs1.tail.tail.headD 0) (10 ^ 15) (by decide)
 have hpr:=Ox (c:=cs1.tail.tail.headD 0) (most:=10 ^ 15) (by decide)
 generalize w8 (cs1.tail.tail.headD 0) (10 ^ 15)=pr at ksz hpr
 have ks4:=oo (n:=n+1) (ρ:=.l (ds.map mz)::.l (rs.map eTn)::(ρ++[.l (as.map D.int)])) (yb hρ2) cs1.tail.tail.tail
 have ks5:=oo (n:=n+1) (ρ:=.l (ds.map mz)::.l (rs.map eTn)::(ρ++[.l (as.map D.int)])) (yb hρ2) cs1.tail.tail.tail.tail
 have sb4:=sj (cs1.tail.tail.tail.headD 0)
 have sb5:=sj (cs1.tail.tail.tail.tail.headD 0)
 generalize iy (cs1.tail.tail.tail.headD 0)=s4 at ks4 sb4
 generalize iy (cs1.tail.tail.tail.tail.headD 0)=s5 at ks5 sb5
 have a1:∀(cs:List Int),mtD .append (.loc 1) [.tup [.int (tk+s4),.int (lack-tk+s5),.int pr,.int g.length,.int g.wanted]] (Lf cs::.l (ds.map mz)::.l (rs.map eTn)::(ρ++[.l (as.map D.int)]))=.ok .non (Lf cs::.l ((ds++[(⟨tk+s4,lack-tk+s5,pr,g.length,g.wanted⟩:Day)]).map mz)::.l (rs.map eTn)::(ρ++[.l (as.map D.int)])):=λcs=>by
  rw[ac3 rfl (by rw[AD];lia),BX];rfl
 have a2:∀(cs:List Int) (xs:List D),mtD .append (.loc 2) [.tup [.int tk,.int (lack-tk),.tup (po.map D.int),.tup (g.spans.map eSpan)]] (Lf cs::.l xs::.l (rs.map eTn)::(ρ++[.l (as.map D.int)]))=.ok .non (Lf cs::.l xs::.l ((rs++[(⟨tk,lack-tk,po,g.spans⟩:Tn)]).map eTn)::(ρ++[.l (as.map D.int)])):=λcs xs=>by
  rw[BX]
  exact ac4 (d:=eTn ⟨tk,lack-tk,po,g.spans⟩) (Mb _) (by rw[AD];lia)
 have bt:∀σ:Sl,gf (.many [11,12,13,14]) (qg g) σ=some ((((σ.set 11 (some (.int g.length))).set 12 (some (.int g.wanted))).set 13 (some (.lst (g.ticks.map eP)))).set 14 (some (.tup (g.spans.map eSpan)))):=λσ=>rfl
 have t1:(fb st L (here,tanks) ⟨tk,lack-tk,po,g.spans⟩).1=min st (here+lack-po.sum):=by
  show min (here+tk+(lack-tk)-po.sum) st=_
  rw[Int.min_comm]
  congr 1
  lia
 have t2:(fb st L (here,tanks) ⟨tk,lack-tk,po,g.spans⟩).2=tb:=by
  rw[dtb]
  refine CF λk hk=>?_
  have hk:k<L:=by simpa using hk
  rw[dta,xp hk,hask k hk]
 have lev:∀k:Nat,k<L->ta.getD k 0=tanks.getD k 0+po.getD k 0:=λk hk=>by rw[dta,xp hk]
 have mol:∀k:Nat,k<L->mo.getD k 0=max (most.getD k 0) (ta.getD k 0):=λk hk=>by rw[dmo,xp hk]
 refine⟨[some (.loc 0),some (f9 L N aw),some ngs,some (.int st),some (.int oil),some (.lst (fi.map D.int)),some (.lst ((fb st L (here,tanks) ⟨tk,lack-tk,po,g.spans⟩).2.map D.int)),some (.lst (mo.map D.int)),some (.loc 1),some (.loc 2),some (.int (fb st L (here,tanks) ⟨tk,lack-tk,po,g.spans⟩).1),some (.int g.length),some (.int g.wanted),some (.lst (g.ticks.map eP)),some (.tup (g.spans.map eSpan)),some (.loc (ρ.length+3)),w16,w17,some (.lst (po.map D.int)),some (.int lack),some (.int tk),some (.int pr),none],cs1.tail.tail.tail.tail.tail,mo,⟨tk+s4,lack-tk+s5,pr,g.length,g.wanted⟩,⟨tk,lack-tk,po,g.spans⟩,ρ++[.l (as.map D.int)],λi=>[some (.loc (ρ.length+3)),w16,w17,some (.lst (po.map D.int)),some (.int lack),some (.int tk),some (.int pr)].getD (i-15) none,hmo,λk hk=>by rw[mol k hk];lia,?_,hρ2,rfl,?_⟩
 ·refine⟨⟨t0,by show tk<=tk+s4;lia⟩,⟨by show 0<=lack-tk;lia,by show lack-tk<=lack-tk+s5;lia⟩,hpo,λx hx=>?_,by show po.sum<=here+tk+(lack-tk);lia,λk hk=>?_,hg.len,hg.good,hg.nb,hg.cnt,hg.cov,λk hk=>?_,hpr⟩
  ·obtain⟨q,hq,rfl⟩:=BS.mp hx
   have:=(hpP q (by rw[<-hpo];exact hq)).1
   simpa[hq]using this
  ·show tanks.getD k 0+po.getD k 0<=mo.getD k 0
   rw[mol k hk,lev k hk];lia
  ·show ay g.spans k<=tanks.getD k 0+po.getD k 0
   rw[<-hask k hk]
   exact(hpP k hk).2
 rw[t1,t2]
 simp! only[fLp,ij,bt,Ux,dz (show L<=1000000 by lia),c0,e1,ep,hsum,ks1,<-hlack,kn2,kt2,ksh,e4,e5,e6,kn3,p15,ksz,ks4,ks5,km1,a1,bt_tuple au,km2,a2]
end
open PySem
def held (b:Book) (rs:List Tn) (i:Nat):Int×List Int:=(rs.take i).foldl (fb b.store b.lamps.length) (b.oil,b.lamps.map (·.oil))
abbrev abw (b:Book) (i:Nat) (H:Int×List Int) (t:Tn) (d:Day):Prop:=DayS b.lamps.length (b.lamps.map (·.tank)) (b.lamps.map (·.away)) i H t d
structure Kept (b:Book) (rs:List Tn):Prop where
 lamps:1<=b.lamps.length/\b.lamps.length<=8
 same:rs.length=b.days.length
 some:1<=rs.length
 few:rs.length<=16
 day:∀(i:Nat) t d,rs[i]? = Option.some t->b.days[i]? = Option.some d->abw b i (held b rs i) t d
theorem Gj {st oil:Int} {L:Nat} {fi:List Int} (h:fi.length=L) (rs:List Tn):(rs.foldl (fb st L) (oil,fi)).2.length=L:=by
 have gen:∀(rs:List Tn) (H:Int×List Int),H.2.length=L->(rs.foldl (fb st L) H).2.length=L:=by
  intro rs
  induction rs with
  | nil=>intro H h;exact h
  | cons t r ih=>intro H _;exact ih _ (by simp[fb])
 exact gen rs _ h
section
variable {n : Nat} {μ ρ : Sto} {φ : Phi}
theorem Pb (cs:List Int):∃(b:Book) (rs:List Tn) (cs':List Int) (ρ:Sto),(Kept b rs/\∀l∈b.lamps,l.away.length<=16) /\
  ak GL (n+4) md [.loc 0] [Lf cs]=.ok (.tup [cm b,.tup (rs.map eTn)]) ([Lf cs']++ρ):=by
 rw[ao B5,run_eq rfl]
 obtain⟨L,N,aw,cs1,hL,hN,⟨haw,haw2⟩,ef⟩:=O9 (n:=n) cs
 have kf:=xn (μ':=[Lf cs1]) (ρ:=[.dead]) ef rfl (Ic L N aw) rfl
 obtain⟨ns,cs2,hnl,hok,en⟩:=Ie (n:=n) cs1 L N aw hL hN.2 haw
 have pns:(D.lst (ns.map qg)).pure=true:=by
  rw[D.pure,mf,AN];intro x hx;obtain⟨i,_,rfl⟩:=AU.mp hx;exact Gb i
 have kn:=xn (μ':=[Lf cs2]) (ρ:=[.dead]) en rfl pns rfl
 have k3:=pd (n:=n+2) (ρ:=[]) (λcs=>L9) cs2
 have p30:opI .Pow 10 30 [Lf cs2.tail]=.ok (.int (10 ^ 30)) [Lf cs2.tail]:=op_pow (by decide)
 have k4:=D9 (n:=n+1) (L9 (cs:=cs2.tail)) (cs2.headD 0) (10 ^ 30) (by decide)
 generalize w8 (cs2.headD 0) (10 ^ 30)=st at k4
 have k5:=oo (n:=n+1) (ρ:=[]) rfl cs2.tail
 generalize iy (cs2.tail.headD 0)=oil at k5
 obtain⟨fi,cs3,hfi,e5⟩:=Mc (S:=List Int) (m:=.z) (φ:=ak GL (n+3)) (tg:=.one 1) (cs:=.nil) (elt:=k6) (σ0:=[some (.loc 0),none]) (xs:=List.range L) (en:=fun(k:Nat)=>D.int k) (enS:=λcs=>[Lf cs]) (by
  intro k _ cs
  have ks:=oo (n:=n+1) (ρ:=[]) rfl cs
  refine⟨iy (cs.headD 0),cs.tail,?_⟩
  simp! only[iu,k6,ks]) cs2.tail.tail
 rw[jg]at e5
 rw[DE]at hfi
 have li:∀ν:Sto,btD .list .z [.lst (fi.map D.int)] ν=.ok (.lst (fi.map D.int)) ν:=λν=>by rw[bt_list au,jg]
 have m1:mkL .l [] [Lf cs3]=.ok (.loc 1) [Lf cs3,.l []]:=Cb rfl
 have m2:mkL .l [] [Lf cs3,.l []]=.ok (.loc 2) [Lf cs3,.l [],.l []]:=Cb rfl
 obtain⟨σ',μ',e,cs4,most,ds,rs,ρ,v,hm,hdl,hrl,hdo,hρ,rfl,rfl⟩:=jn (φ:=ak GL (n+3)) (μ:=[Lf cs3,.l [],.l []]) (tg:=.many [11,12,13,14]) (b:=ij) (xs:=ns) (en:=qg)
  (σ:=[some (.loc 0),some (f9 L N aw),some (.lst (ns.map qg)),some (.int st),some (.int oil),some (.lst (fi.map D.int)),some (.lst (fi.map D.int)),some (.lst (fi.map D.int)),some (.loc 1),some (.loc 2),some (.int oil),none,none,none,none,none,none,none,none,none,none,none,none])
  (λj σ μ'=>∃(cs4:List Int) (most:List Int) (ds:List Day) (rs:List Tn) (ρ:Sto) (v:Nat->Option D),most.length=L/\ds.length=j/\rs.length=j/\(∀(i:Nat) t d,rs[i]? = some t->ds[i]? = some d->DayS L most aw i ((rs.take i).foldl (fb st L) (oil,fi)) t d)/\ρ.all noR=true /\
   σ=[some (.loc 0),some (f9 L N aw),some (.lst (ns.map qg)),some (.int st),some (.int oil),some (.lst (fi.map D.int)),some (.lst ((rs.foldl (fb st L) (oil,fi)).2.map D.int)),some (.lst (most.map D.int)),some (.loc 1),some (.loc 2),some (.int (rs.foldl (fb st L) (oil,fi)).1),v 11,v 12,v 13,v 14,v 15,v 16,v 17,v 18,v 19,v 20,v 21,none]/\μ'=Lf cs4::.l (ds.map mz)::.l (rs.map eTn)::ρ)
  ⟨cs3,fi,[],[],[],λ_=>none,hfi,rfl,rfl,by simp,rfl,rfl,rfl⟩ (by
   rintro j g σ μ' hj ⟨cs4,most,ds,rs,ρ,v,hm,hdl,hrl,hdo,hρ,rfl,rfl⟩
   have hg:=hok j g hj
   have hj2:j<ns.length:=(AF.mp hj).1
   obtain⟨σ',cs',most',d,t,ρ',w,q2,q3,q4,q5,rfl,q7⟩:=Ih (n:=n) (N:=N) (aw:=aw) hg hL.2 (ngs:=.lst (ns.map qg)) (st:=st) (oil:=oil) (here:=(rs.foldl (fb st L) (oil,fi)).1) hfi (Gj hfi rs) hm (ds:=ds) (rs:=rs) (by lia) (by lia) cs4 hρ (v 11) (v 12) (v 13) (v 14) (v 15) (v 16) (v 17) (v 18) (v 19) (v 20) (v 21)
   have ef:(rs++[t]).foldl (fb st L) (oil,fi)=fb st L ((rs.foldl (fb st L) (oil,fi)).1,(rs.foldl (fb st L) (oil,fi)).2) t:=by rw[List.foldl_append];rfl
   refine⟨_,_,q7,cs',most',ds++[d],rs++[t],ρ',λi=>[some (.int g.length),some (.int g.wanted),some (.lst (g.ticks.map eP)),some (.tup (g.spans.map eSpan)),w 15,w 16,w 17,w 18,w 19,w 20,w 21].getD (i-11) none,q2,by simp[hdl],by simp[hrl],λi t' d' ht' hd'=>?_,q5,by rw[ef];rfl,rfl⟩
   by_cases hi:i<j
   ·rw[AV (by lia)]at ht' hd'
    rw[HL (by lia)]
    exact(hdo i t' d' ht' hd').mono q3
   ·have hi2:i=j:=by
     have:=(AF.mp ht').1
     simp at this
     lia
    subst hi2
    have e1:t'=t:=by
     rw[BQ (by lia),hrl,JO]at ht'
     simpa using ht'.symm
    have e2:d'=d:=by
     rw[BQ (by lia),hdl,JO]at hd'
     simpa using hd'.symm
    subst e1 e2
    rw[HL (by lia),BY (by lia)]
    exact q4)
 have m3:=mk3 (ρ:=ρ) (cs:=cs4) (ds:=ds.map mz) (rs:=rs.map eTn) (xs:=[]) rfl
 obtain⟨σ2,μ2,e2,cs5,ls,w16,hll,hla,rfl,rfl⟩:=jn (φ:=ak GL (n+3)) (μ:=Lf cs4::.l (ds.map mz)::.l (rs.map eTn)::(ρ++[.l []])) (tg:=.one 16) (b:=lq) (xs:=List.range L) (en:=fun(k:Nat)=>D.int k)
  (σ:=[some (.loc 0),some (f9 L N aw),some (.lst (ns.map qg)),some (.int st),some (.int oil),some (.lst (fi.map D.int)),some (.lst ((rs.foldl (fb st L) (oil,fi)).2.map D.int)),some (.lst (most.map D.int)),some (.loc 1),some (.loc 2),some (.int (rs.foldl (fb st L) (oil,fi)).1),v 11,v 12,v 13,v 14,v 15,v 16,v 17,v 18,v 19,v 20,v 21,some (.loc (ρ.length+3))])
  (λj σ μ'=>∃(cs5:List Int) (ls:List Lamp) (w16:Option D),ls.length=j/\(∀(i:Nat) l,ls[i]? = some l->l.oil=fi.getD i 0/\l.away=aw.getD i []/\most.getD i 0<=l.tank)/\σ=[some (.loc 0),some (f9 L N aw),some (.lst (ns.map qg)),some (.int st),some (.int oil),some (.lst (fi.map D.int)),some (.lst ((rs.foldl (fb st L) (oil,fi)).2.map D.int)),some (.lst (most.map D.int)),some (.loc 1),some (.loc 2),some (.int (rs.foldl (fb st L) (oil,fi)).1),v 11,v 12,v 13,v 14,v 15,w16,v 17,v 18,v 19,v 20,v 21,some (.loc (ρ.length+3))] /\
   μ'=Lf cs5::.l (ds.map mz)::.l (rs.map eTn)::(ρ++[.l (ls.map d5)]))
  ⟨cs4,[],v 16,rfl,by simp,rfl,rfl⟩ (by
   rintro j a σ μ' ha ⟨cs5,ls,w16,hll,hla,rfl,rfl⟩
   obtain⟨rfl,hk⟩:=xm ha
   have ks:=oo (n:=n+1) (ρ:=.l (ds.map mz)::.l (rs.map eTn)::(ρ++[.l (ls.map d5)])) (yb (Uz hρ _)) cs5
   have i1:∀ν:Sto,ixD (.lst (most.map D.int)) (.int a) ν=.ok (.int (most.getD a 0)) ν:=λν=>qu au (by lia)
   have i2:∀ν:Sto,ixD (.lst (fi.map D.int)) (.int a) ν=.ok (.int (fi.getD a 0)) ν:=λν=>qu au (by lia)
   have i3:∀ν:Sto,ixD (.lst (aw.map eIl)) (.int a) ν=.ok (.lst ((aw.getD a []).map D.int)) ν:=λν=>uo au (by rw[AW,AB (by lia)];simp[show a<aw.length by lia,eIl])
   have ap:∀cs:List Int,mtD .append (.loc (ρ.length+3)) [.tup [.int (most.getD a 0+iy (cs5.headD 0)),.int (fi.getD a 0),.tup ((aw.getD a []).map D.int)]] (Lf cs::.l (ds.map mz)::.l (rs.map eTn)::(ρ++[.l (ls.map d5)]))=.ok .non (Lf cs::.l (ds.map mz)::.l (rs.map eTn)::(ρ++[.l ((ls++[(⟨most.getD a 0+iy (cs5.headD 0),fi.getD a 0,aw.getD a []⟩:Lamp)]).map d5)])):=λcs=>by
    rw[BX]
    exact ac5 (d:=d5 ⟨most.getD a 0+iy (cs5.headD 0),fi.getD a 0,aw.getD a []⟩) (sg _) (by rw[AD];lia)
   refine⟨_,_,?_,cs5.tail,ls++[⟨most.getD a 0+iy (cs5.headD 0),fi.getD a 0,aw.getD a []⟩],some (.int a),by simp[hll],λi l hl=>?_,rfl,rfl⟩
   ·simp! only[fLp,lq,i1,ks,i2,Uy,i3,bt_tuple au,km3,ap]
   ·by_cases hi:i<ls.length
    ·rw[AV hi]at hl
     exact hla i l hl
    ·have hi2:i=ls.length:=by
      have:=(AF.mp hl).1
      simp at this
      lia
     subst hi2
     rw[BQ (AI _),JO]at hl
     have el:l=⟨most.getD a 0+iy (cs5.headD 0),fi.getD a 0,aw.getD a []⟩:=by simpa using hl.symm
     rw[el,hll]
     exact⟨rfl,rfl,by show most.getD a 0<=most.getD a 0+iy (cs5.headD 0);have:=sj (cs5.headD 0);lia⟩)
 have s1:cv (Lf cs5::.l (ds.map mz)::.l (rs.map eTn)::(ρ++[.l (ls.map d5)])) (.loc 1)=some (ds.map mz):=rfl
 have s2:cv (Lf cs5::.l (ds.map mz)::.l (rs.map eTn)::(ρ++[.l (ls.map d5)])) (.loc 2)=some (rs.map eTn):=rfl
 rw[DE]at hll
 have eoil:ls.map (·.oil)=fi:=by
  apply CA
  intro i
  by_cases hi:i<L
  ·have q:=hla i ls[i] (AB (by lia))
   rw[AW,AB (show i<ls.length by lia),AB (show i<fi.length by lia)]
   have:fi.getD i 0=fi[i]:=by simp[show i<fi.length by lia]
   show Option.some ls[i].oil=Option.some fi[i]
   rw[q.1,this]
  ·rw[AZ (by rw[AD];lia),AZ (by lia)]
 have eaw:ls.map (·.away)=aw:=by
  apply CA
  intro i
  by_cases hi:i<L
  ·have q:=hla i ls[i] (AB (by lia))
   rw[AW,AB (show i<ls.length by lia),AB (show i<aw.length by lia)]
   have:aw.getD i []=aw[i]:=by simp[show i<aw.length by lia]
   show Option.some ls[i].away=Option.some aw[i]
   rw[q.2.1,this]
  ·rw[AZ (by rw[AD];lia),AZ (by lia)]
 refine⟨⟨st,oil,ls,ds⟩,rs,cs5,.l (ds.map mz)::.l (rs.map eTn)::(ρ++[.l (ls.map d5)]),⟨⟨by show 1<=ls.length/\ls.length<=8;lia,by show rs.length=ds.length;lia,by lia,by lia,λi t d ht hd=>?_⟩,λl hl=>haw2 _ (by rw[<-eaw];exact AU.mpr ⟨l,hl,rfl⟩)⟩,?_⟩
 ·show DayS ls.length (ls.map (·.tank)) (ls.map (·.away)) i ((rs.take i).foldl (fb st ls.length) (oil,ls.map (·.oil))) t d
  rw[eoil,eaw,hll]
  refine(hdo i t d ht hd).mono λk hk=>?_
  have q:=hla k ls[k] (AB (by lia))
  have:(ls.map (·.tank)).getD k 0=ls[k].tank:=by simp[show k<ls.length by lia]
  rw[this]
  exact q.2.2
 simp! only[D_law_kept_3,kf,kn,k3,p30,k4,k5,Ux,dz (show L<=1000000 by lia),e5,li,m1,m2,e,m3,e2,bt_tuple abv,bt_tuple s1,bt_tuple s2,cm]
end
open PySem
def c9 (H:Int×List Int):D:=.tup [.int H.1,cw H.2]
theorem p5 {k:Nat} (H:Int×List Int):D.pureN (k+2) (c9 H)=true:=by
 rw[c9,dy]
 simp![BB,eh,nq,Ev,GA]
theorem Ej {L:Nat} {a c:List Int} {f:Int×Int->Int} (ha:a.length=L) (hc:c.length=L):(a.zip c).map f=(List.range L).map fun(k:Nat)=>f (a.getD k 0,c.getD k 0):=by
 apply CA
 intro i
 by_cases hi:i<L
 ·have hz:(a.zip c)[i]? = some (a.getD i 0,c.getD i 0):=by
   rw[DC]
   exact⟨by simp[show i<a.length by lia],by simp[show i<c.length by lia]⟩
  simp[hz,hi]
 ·rw[AZ (by simp;lia),AZ (by simp;lia)]
section
variable {n : Nat} {μ ρ : Sto} {φ : Phi}
theorem Pc (b:Book):ak GL (n+1) g7 [cm b] μ=.ok (c9 (b.oil,b.lamps.map (·.oil))) μ:=by
 rw[ao w4,run_eq rfl]
 have c:=comp_map (m:=.z) (μ:=μ) (φ:=ak GL n) (tg:=.many [0,1,2]) (cs:=.nil) (elt:=h9) (σ0:=[none,none,none]) (xs:=b.lamps) (en:=d5) (g:=λl=>D.int l.oil) (by
  intro l _
  have bt:gf (.many [0,1,2]) (d5 l) [none,none,none]=some [some (.int l.tank),some (.int l.oil),some (cw l.away)]:=rfl
  simp! only[iu,bt,h9])
 have e:b.lamps.map (λl=>D.int l.oil)=(b.lamps.map (·.oil)).map D.int:=by rw[AY];rfl
 rw[e]at c
 have i1:ixD (cm b) (.int 1) μ=.ok (.int b.oil) μ:=rfl
 simp! only[D_held_at_first,i1,pf,c,bt_tuple au,c9,cw]
theorem Cm (a c:List Int):ak GL (n+1) sd [cw a,cw c] μ=.ok (cw ((a.zip c).map λp=>p.1+p.2)) μ:=by
 rw[ao Ou,run_eq rfl]
 have cc:=comp_map (m:=.z) (μ:=μ) (φ:=ak GL n) (tg:=.many [0,1]) (cs:=.nil) (elt:=rl) (σ0:=[none,none]) (xs:=a.zip c) (en:=λp=>D.tup [.int p.1,.int p.2]) (g:=λp=>D.int (p.1+p.2)) (by
  rintro⟨x,y⟩ _
  simp! only[iu,rl,o9])
 have e:(a.zip c).map (λp=>D.int (p.1+p.2))=((a.zip c).map λp=>p.1+p.2).map D.int:=by rw[AY];rfl
 rw[e]at cc
 have kz:uz (cw a) (cw c) μ=.ok ((a.zip c).map (λp=>D.tup [.int p.1,.int p.2]),none) μ:=Av (f:=D.int) (g:=D.int)
 simp! only[D_filled,kz,cc,bt_tuple au]
 rfl
theorem j9 {i j:Nat} {H:Int×List Int} {σ:Sl}:gf (.many [i,j]) (c9 H) σ=some ((σ.set i (some (.int H.1))).set j (some (cw H.2))):=rfl
theorem gi {i j k l:Nat} {t:Tn} {σ:Sl}:gf (.many [i,j,k,l]) (eTn t) σ=some ((((σ.set i (some (.int t.taken))).set j (some (.int t.bought))).set k (some (cw t.poured))).set l (some (.tup (t.spans.map eSpan)))):=rfl
theorem bw {i j k l m:Nat} {d:Day} {σ:Sl}:gf (.many [i,j,k,l,m]) (mz d) σ=some (((((σ.set i (some (.int d.boat))).set j (some (.int d.most))).set k (some (.int d.price))).set l (some (.int d.length))).set m (some (.int d.wanted))):=rfl
theorem sum_ints (xs:List Int):btD .sum .z [cw xs] μ=.ok (.int xs.sum) μ:=bt_sum a9 (jf _)
theorem Gk (xs:List Int):btD .len .z [cw xs] μ=.ok (.int xs.length) μ:=by rw[cw,bt_len a9,AD]
theorem Mh (hr:l5 μ) (b:Book) {H:Int×List Int} {t:Tn} (hH:H.2.length=b.lamps.length) (hp:t.poured.length=b.lamps.length) (hL:b.lamps.length<=8) (hs:t.spans.length<=1000):ak GL (n+2) ju [cm b,c9 H,eTn t] μ=.ok (c9 (fb b.store b.lamps.length H t)) μ:=by
 rw[ao Ai,run_eq rfl]
 obtain⟨ρ1,et⟩:=yz (n:=n) (μ:=μ) b.lamps.length t.spans (by lia) (by lia)
 have kt:=fw et (nq _) hr
 have kf:=av (Cm (n:=n) (μ:=μ) H.2 t.poured) (nq _) rfl hr
 rw[Ej hH hp]at kf
 have cc:=comp_map (m:=.z) (μ:=μ) (φ:=ak GL (n+1)) (tg:=.many [0,1]) (cs:=.nil) (elt:=jk) (σ0:=[none,none]) (xs:=((List.range b.lamps.length).map fun(k:Nat)=>H.2.getD k 0+t.poured.getD k 0).zip ((List.range b.lamps.length).map fun(k:Nat)=>ay t.spans k)) (en:=λp=>D.tup [.int p.1,.int p.2]) (g:=λp=>D.int (p.1-p.2)) (by
  rintro⟨x,y⟩ _
  simp! only[iu,jk,o9])
 have e:(((List.range b.lamps.length).map fun(k:Nat)=>H.2.getD k 0+t.poured.getD k 0).zip ((List.range b.lamps.length).map fun(k:Nat)=>ay t.spans k)).map (λp=>D.int (p.1-p.2))=(fb b.store b.lamps.length H t).2.map D.int:=by
  rw[show(λp:Int×Int=>D.int (p.1-p.2))=D.int∘(λp:Int×Int=>p.1-p.2)from rfl,<-AY,Ej (L:=b.lamps.length) (by simp) (by simp)]
  congr 1
  refine CF λk hk=>?_
  have hk:k<b.lamps.length:=by simpa using hk
  show((List.range b.lamps.length).map fun(k:Nat)=>H.2.getD k 0+t.poured.getD k 0).getD k 0-((List.range b.lamps.length).map fun(k:Nat)=>ay t.spans k).getD k 0=_
  rw[xp hk,xp hk]
 rw[e]at cc
 have kz:uz (cw ((List.range b.lamps.length).map fun(k:Nat)=>H.2.getD k 0+t.poured.getD k 0)) (cw ((List.range b.lamps.length).map fun(k:Nat)=>ay t.spans k)) μ=.ok (_,none) μ:=Av (f:=D.int) (g:=D.int)
 have i0:ixD (cm b) (.int 0) μ=.ok (.int b.store) μ:=rfl
 have ln:btD .len .z [cw H.2] μ=.ok (.int b.lamps.length) μ:=by rw[Gk,hH]
 simp! only[D_held_behind,j9,gi,sum_ints,ln,kt,kf,kz,cc,bt_tuple au,i0]
 rfl
theorem Co (b:Book) (rs:List Tn) {i:Nat} {t:Tn} (ht:rs[i]? = some t):held b rs (i+1)=fb b.store b.lamps.length (held b rs i) t:=by
 unfold held
 rw[DQ,ht,List.foldl_append]
 rfl
theorem Ek (b:Book) (rs:List Tn) (i:Nat):(held b rs i).2.length=b.lamps.length:=Gj (by simp) _
def evs (b:Book) (rs:List Tn):List (Int×List Int):=(List.range rs.length).map λi=>held b rs (i+1)
end
open PySem
def su (L:Int) (lamps:Nat) (ss:List Span):Prop:=(∀s∈ss,Good L 0 lamps s)/\ss.Pairwise Nb
theorem Pd {a b c:Span} (hb:b.start<b.fin) (h1:Nb a b) (h2:Nb b c):Nb a c:=by
 unfold Nb at *;omega
theorem Mi:∀{ss:List Span},(∀s∈ss,s.start<s.fin)->(∀p∈ss.zip (ss.drop 1),Nb p.1 p.2)->ss.Pairwise Nb
 | [],_,_=>.nil
 | [a],_,_=>by simp
 | a::b::r,h,g=>by
  have ih:=Mi (ss:=b::r) (λs hs=>h s (AH _ hs)) (λp hp=>g p (AH _ hp))
  have g0:Nb a b:=g (a,b) AQ
  refine BW.mpr ⟨λx hx=>?_,ih⟩
  rcases AL.mp hx with rfl | hx
  ·exact g0
  ·exact Pd (h b (by simp)) g0 ((BW.mp ih).1 x hx)
theorem abx {a b:Span}:lexLt [a.lamp,a.start,a.fin] [b.lamp,b.start,b.fin]=true↔(a.lamp<b.lamp\/(a.lamp=b.lamp/\(a.start<b.start\/(a.start=b.start/\a.fin<b.fin)))):=by
 simp![Lp.lexLt]
 split
 ·rename_i h;simp![h]
  split
  ·rename_i h;simp![h]
   split
   ·rename_i h;simp[h]
   ·simp
  ·simp;omega
 ·simp;omega
def Cq (a b:Span):Prop:=lexLt [a.lamp,a.start,a.fin] [b.lamp,b.start,b.fin]=false\/(a.lamp=b.lamp/\a.start<b.fin/\b.start<a.fin)
theorem Cr {a b:Span} (ha:a.start<a.fin) (hb:b.start<b.fin):Cq a b↔¬Nb a b:=by
 unfold Cq Nb
 rw[<-Bool.not_eq_true,abx]
 omega
theorem nr {α:Type} {φ:Phi} {μ:Sto} {tg:Tg} {b:Sms} {en:α->D} {v:D} (I:Sl->Prop) (P:α->Prop):∀{xs:List α} {σ:Sl},I σ->(∀a∈xs,∀σ,I σ->(¬P a->∃σ',fLp φ tg b (en a) σ μ=.ok (.nx σ') μ/\I σ')/\(P a->fLp φ tg b (en a) σ μ=.ok (.rt v) μ)) ->
  ((∀a∈xs,¬P a)->∃σ',ue φ tg b σ (xs.map en,none) μ=.ok (.nx σ') μ/\I σ')/\((¬∀a∈xs,¬P a)->ue φ tg b σ (xs.map en,none) μ=.ok (.rt v) μ)
 | [],σ,h,_=>⟨λ_=>⟨σ,by simp[ue,kg],h⟩,λe=>by simp at e⟩
 | a::r,σ,h,st=>by
  have s:=st a AQ σ h
  have kl:∀σ,ue φ tg b σ ((a::r).map en,none) μ=(fLp φ tg b (en a) σ μ).bind λfl μ1=>match fl with
   | .nx σ1=>ue φ tg b σ1 (r.map en,none) μ1
   | .ct σ1=>ue φ tg b σ1 (r.map en,none) μ1
   | .bk σ1=>.ok (.nx σ1) μ1
   | .rt v=>.ok (.rt v) μ1:=λσ=>by
    simp![ue,AR,kg]
    rw[if_pos (show gd none μ from trivial)]
    all_goals congr 1
  by_cases p:P a
  ·exact⟨λq=>absurd p (q a AQ),λ_=>by rw[kl,s.2 p];rfl⟩
  ·obtain⟨σ1,e1,i1⟩:=s.1 p
   have ih:=nr I P (xs:=r) (σ:=σ1) i1 λx hx=>st x (AH _ hx)
   refine⟨λq=>?_,λq=>?_⟩
   ·rw[kl,e1];exact ih.1 λx hx=>q x (AH _ hx)
   ·rw[kl,e1]
    refine ih.2 λz=>q λx hx=>?_
    rcases AL.mp hx with rfl | hx
    ·exact p
    ·exact z x hx
section
variable {n : Nat} {μ ρ : Sto} {φ : Phi} {σ : Sl}
theorem Cs (a b:Span):cpD .ge (eSpan a) (eSpan b) μ=.ok (.bl (!lexLt [a.lamp,a.start,a.fin] [b.lamp,b.start,b.fin])) μ:=by
 have e:∀s:Span,gb [D.int s.lamp,.int s.start,.int s.fin]=some [s.lamp,s.start,s.fin]:=λs=>jf [s.lamp,s.start,s.fin]
 simp![cpD,eSpan,e]
theorem Mj (ss:List Span):ak GL (n+1) wu [.tup (ss.map eSpan)] μ=.ok (.bl (((ss.zip (ss.drop 1)).map λp:Span×Span=>lexLt [p.1.lamp,p.1.start,p.1.fin] [p.2.lamp,p.2.start,p.2.fin]).all id)) μ:=by
 rw[ao K1,run_eq rfl]
 have hz:uz (.tup (ss.map eSpan)) (.tup ((ss.map eSpan).drop 1)) μ=.ok (((ss.map eSpan).zip ((ss.map eSpan).drop 1)).map λp=>.tup [p.1,p.2],none) μ:=rfl
 have hc:gy (ak GL n) .z (.many [0,1]) .nil nj [none,none] ((ss.zip (ss.drop 1)).map λp:Span×Span=>D.tup [eSpan p.1,eSpan p.2],none) μ=.ok (.lst (((ss.zip (ss.drop 1)).map λp:Span×Span=>lexLt [p.1.lamp,p.1.start,p.1.fin] [p.2.lamp,p.2.start,p.2.fin]).map D.bl)) μ:=by
  rw[comp_map (g:=λp:Span×Span=>D.bl (lexLt [p.1.lamp,p.1.start,p.1.fin] [p.2.lamp,p.2.start,p.2.fin])) λp hp=>by
   simp! only[iu,nj,Rq]]
  rw[jg,AY];rfl
 simp! only[D_rises,O3,hz,si,hc,bt_all au (g6 _)]
theorem Ii (a b:Span):ak GL (n+1) cu [eSpan a,eSpan b] μ=.ok (.bl (decide (a.lamp=b.lamp/\b.start<a.fin))) μ:=by
 rw[ao je,run_eq rfl]
 by_cases h:a.lamp=b.lamp
 ·simp! only[D_have_tick_in_common,u0,ya,Ce,h,true_and]
 ·simp! only[D_have_tick_in_common,u0,h,false_and]
theorem Az (hr:l5 μ) {L:Int} {lamps:Nat} {ss:List Span} (h:¬su L lamps ss):ak GL (n+2) fh [.int L,.int lamps,.tup (ss.map eSpan)] μ=.ok (.bl true) μ:=by
 rw[ao oz,run_eq rfl]
 have lp:=nr (φ:=ak GL (n+1)) (μ:=μ) (tg:=.many [3,4,5]) (b:=a7) (xs:=ss) (en:=eSpan) (v:=.bl true) (σ:=[some (.int L),some (.int lamps),some (.tup (ss.map eSpan)),none,none,none])
  (λσ=>∃v3 v4 v5,σ=[some (.int L),some (.int lamps),some (.tup (ss.map eSpan)),v3,v4,v5]) (λs=>¬Good L 0 lamps s) ⟨none,none,none,rfl⟩ (by
   rintro s hs σ ⟨v3,v4,v5,rfl⟩
   refine⟨λq=>?_,λq=>?_⟩
   ·obtain⟨⟨a1,a2⟩,b,c,d⟩:=CQ.mp q
    refine⟨[some (.int L),some (.int lamps),some (.tup (ss.map eSpan)),some (.int s.lamp),some (.int s.start),some (.int s.fin)],?_,_,_,_,rfl⟩
    simp! only[fLp,a7,eSpan,a1,a2,b,c,d]
   ·by_cases a1:0<=s.lamp
    ·by_cases a2:s.lamp<lamps
     ·by_cases b:0<=s.start
      ·by_cases c:s.start<s.fin
       ·have d:¬s.fin<=L:=λd=>q ⟨⟨a1,a2⟩,b,c,d⟩
        simp! only[fLp,a7,eSpan,a1,a2,b,c,d]
       ·simp! only[fLp,a7,eSpan,a1,a2,b,c]
      ·simp! only[fLp,a7,eSpan,a1,a2,b]
     ·simp! only[fLp,a7,eSpan,a1,a2]
    ·simp! only[fLp,a7,eSpan,a1])
 by_cases hg:∀s∈ss,¬¬Good L 0 lamps s
 ·obtain⟨σ',el,v3,v4,v5,rfl⟩:=lp.1 hg
  have hz:uz (.tup (ss.map eSpan)) (.tup ((ss.map eSpan).drop 1)) μ=.ok (((ss.map eSpan).zip ((ss.map eSpan).drop 1)).map λp=>.tup [p.1,p.2],none) μ:=rfl
  have hc:gy (ak GL (n+1)) .z (.many [0,1]) .nil dk [none,none] ((ss.zip (ss.drop 1)).map λp:Span×Span=>D.tup [eSpan p.1,eSpan p.2],none) μ=.ok (.lst (((ss.zip (ss.drop 1)).map λp=>decide (p.1.lamp=p.2.lamp/\p.2.start<p.1.fin)).map D.bl)) μ:=by
   rw[comp_map (g:=λp:Span×Span=>D.bl (decide (p.1.lamp=p.2.lamp/\p.2.start<p.1.fin))) λp hp=>by
    simp! only[iu,dk,av (Ii (n:=n) (μ:=μ) p.1 p.2) rfl rfl hr]]
   rw[jg,AY];rfl
  have kr:=av (Mj (n:=n) (μ:=μ) ss) rfl rfl hr
  have ba:=bt_any (μ:=μ) (m:=.z) (au (μ:=μ)) (g6 ((ss.zip (ss.drop 1)).map λp=>decide (p.1.lamp=p.2.lamp/\p.2.start<p.1.fin)))
  have hq:((ss.zip (ss.drop 1)).map λp:Span×Span=>lexLt [p.1.lamp,p.1.start,p.1.fin] [p.2.lamp,p.2.start,p.2.fin]).all id=false\/((ss.zip (ss.drop 1)).map λp=>decide (p.1.lamp=p.2.lamp/\p.2.start<p.1.fin)).any id=true:=by
   obtain⟨p,hp,hn⟩:∃p∈ss.zip (ss.drop 1),¬Nb p.1 p.2:=CG λq=>h ⟨λs hs=>CQ.mp (hg s hs),Mi (λs hs=>(CQ.mp (hg s hs)).run) λp hp=>CG λz=>q ⟨p,hp,z⟩⟩
   have r1:=(CQ.mp (hg p.1 (HN hp).1)).run
   by_cases hl:lexLt [p.1.lamp,p.1.start,p.1.fin] [p.2.lamp,p.2.start,p.2.fin]=true
   ·refine .inr (DM.mpr ⟨true,AU.mpr ⟨p,hp,decide_eq_true ?_⟩,rfl⟩)
    rw[abx]at hl
    unfold Nb at hn
    omega
   ·exact .inl (List.all_eq_false.mpr ⟨false,AU.mpr ⟨p,hp,by simpa using hl⟩,by simp⟩)
  generalize ((ss.zip (ss.drop 1)).map λp:Span×Span=>lexLt [p.1.lamp,p.1.start,p.1.fin] [p.2.lamp,p.2.start,p.2.fin]).all id=r at *
  cases r with
  | false=>simp! only[D_has_span_fault,el,kr]
  | true =>
   have hq':=hq.resolve_left (by decide)
   rw[hq']at ba
   simp! only[D_has_span_fault,el,kr,O3,hz,si,hc,ba]
 ·simp! only[D_has_span_fault,lp.2 hg]
theorem xq {L:Int} {lamps:Nat} {ss:List Span} (hn:ss.length<=1000) :
  (su L lamps ss->ak GL (n+1) gn [.int L,.int lamps,.tup (ss.map eSpan)] μ=.ok (.bl false) μ)/\(¬su L lamps ss->ak GL (n+1) gn [.int L,.int lamps,.tup (ss.map eSpan)] μ=.ok (.bl true) μ):=by
 rw[ao x8,run_eq rfl]
 have lp:=nr (φ:=ak GL n) (μ:=μ) (tg:=.one 3) (b:=bq) (xs:=List.range ss.length) (en:=fun(k:Nat)=>D.int k) (v:=.bl true) (σ:=[some (.int L),some (.int lamps),some (.tup (ss.map eSpan)),none,none,none,none,none])
  (λσ=>∃v3 v4 v5 v6 v7,σ=[some (.int L),some (.int lamps),some (.tup (ss.map eSpan)),v3,v4,v5,v6,v7]) (λk=>¬(Good L 0 lamps (ss.getD k ⟨0,0,0⟩)/\∀o∈ss.take k,¬Cq o (ss.getD k ⟨0,0,0⟩))) ⟨none,none,none,none,none,rfl⟩ (by
   rintro k hk σ ⟨v3,v4,v5,v6,v7,rfl⟩
   have hk':k<ss.length:=CO.mp hk
   have i1:ixD (.tup (ss.map eSpan)) (.int k) μ=.ok (eSpan (ss.getD k ⟨0,0,0⟩)) μ:=bo (by simp[hk'])
   generalize ss.getD k ⟨0,0,0⟩=c at *
   have ub:∀σ:Sl,gf (.many [4,5,6]) (eSpan c) σ=some (((σ.set 4 (some (.int c.lamp))).set 5 (some (.int c.start))).set 6 (some (.int c.fin))):=λ_=>rfl
   have li:=nr (φ:=ak GL n) (μ:=μ) (tg:=.one 7) (b:=ck) (xs:=ss.take k) (en:=eSpan) (v:=.bl true) (σ:=[some (.int L),some (.int lamps),some (.tup (ss.map eSpan)),some (.int k),some (.int c.lamp),some (.int c.start),some (.int c.fin),v7])
    (λσ=>∃v7,σ=[some (.int L),some (.int lamps),some (.tup (ss.map eSpan)),some (.int k),some (.int c.lamp),some (.int c.start),some (.int c.fin),v7]) (λo=>Cq o c) ⟨v7,rfl⟩ (by
     rintro o ho σ ⟨v7,rfl⟩
     refine⟨λq=>⟨[some (.int L),some (.int lamps),some (.tup (ss.map eSpan)),some (.int k),some (.int c.lamp),some (.int c.start),some (.int c.fin),some (eSpan o)],?_,_,rfl⟩,λq=>?_⟩
     ·unfold Cq at q
      have q1:lexLt [o.lamp,o.start,o.fin] [c.lamp,c.start,c.fin]=true:=by
       rw[<-Bool.not_eq_false];exact λz=>q (.inl z)
      by_cases a:o.lamp=c.lamp
      ·have da:decide (o.lamp=c.lamp)=true:=decide_eq_true a
       by_cases b:o.start<c.fin
       ·have d:¬c.start<o.fin:=λd=>q (.inr ⟨a,b,d⟩)
        simp! only[fLp,ck,i1,Cs,q1,u0,ya,Ce,da,b,d]
       ·simp! only[fLp,ck,i1,Cs,q1,u0,ya,da,b]
      ·simp! only[fLp,ck,i1,Cs,q1,u0,a]
     ·by_cases q1:lexLt [o.lamp,o.start,o.fin] [c.lamp,c.start,c.fin]=false
      ·simp! only[fLp,ck,i1,Cs,q1]
      ·obtain⟨a,b,d⟩:=Or.resolve_left q q1
       rw[Bool.not_eq_false]at q1
       have da:decide (o.lamp=c.lamp)=true:=decide_eq_true a
       simp! only[fLp,ck,i1,Cs,q1,u0,ya,Ce,da,b,d])
   rw[IW]at li
   have ks:kSeq (.tup ((ss.map eSpan).take k)) μ=.ok ((ss.map eSpan).take k,none) μ:=rfl
   refine⟨λq=>?_,λq=>?_⟩
   ·obtain⟨⟨⟨a1,a2⟩,b,c',d⟩,hcl⟩:=CQ.mp q
    obtain⟨σ',el,v7',rfl⟩:=li.1 hcl
    refine⟨_,?_,some (.int k),some (.int c.lamp),some (.int c.start),some (.int c.fin),v7',rfl⟩
    simp! only[fLp,bq,i1,ub,a1,a2,b,c',d,oj,ks,el]
   ·by_cases a1:0<=c.lamp
    ·by_cases a2:c.lamp<lamps
     ·by_cases b:0<=c.start
      ·by_cases c':c.start<c.fin
       ·by_cases d:c.fin<=L
        ·have hcl:¬∀o∈ss.take k,¬Cq o c:=λz=>q ⟨⟨⟨a1,a2⟩,b,c',d⟩,z⟩
         simp! only[fLp,bq,i1,ub,a1,a2,b,c',d,oj,ks,li.2 hcl]
        ·simp! only[fLp,bq,i1,ub,a1,a2,b,c',d]
       ·simp! only[fLp,bq,i1,ub,a1,a2,b,c']
      ·simp! only[fLp,bq,i1,ub,a1,a2,b]
     ·simp! only[fLp,bq,i1,ub,a1,a2]
    ·simp! only[fLp,bq,i1,ub,a1])
 have key:su L lamps ss↔∀k∈List.range ss.length,¬¬(Good L 0 lamps (ss.getD k ⟨0,0,0⟩)/\∀o∈ss.take k,¬Cq o (ss.getD k ⟨0,0,0⟩)):=by
  refine⟨λh k hk=>not_not_intro ?_,λh=>?_⟩
  ·have hk':k<ss.length:=CO.mp hk
   have e:ss.getD k ⟨0,0,0⟩=ss[k]:=by simp[hk']
   rw[e]
   refine⟨h.1 _ (CB hk'),λo ho=>?_⟩
   obtain⟨i,hi,rfl⟩:=BS.mp ho
   have hi':i<k:=by simp at hi;omega
   rw[GV,Cr (h.1 _ (CB _)).run (h.1 _ (CB hk')).run]
   exact not_not_intro (DD.mp h.2 i k (by omega) hk' hi')
  ·have g:∀k (hk:k<ss.length),Good L 0 lamps ss[k]/\∀o∈ss.take k,¬Cq o ss[k]:=λk hk=>by
    have e:ss.getD k ⟨0,0,0⟩=ss[k]:=by simp[hk]
    rw[<-e]
    exact CQ.mp (h k (CO.mpr hk))
   have g1:∀s∈ss,Good L 0 lamps s:=λs hs=>by
    obtain⟨i,hi,rfl⟩:=BS.mp hs
    exact(g i hi).1
   refine⟨g1,DD.mpr λi j hi hj hij=>?_⟩
   have q:=(g j hj).2 ss[i] (BS.mpr ⟨i,by simp;omega,by rw[GV]⟩)
   rw[Cr (g1 _ (CB hi)).run (g1 _ (CB hj)).run]at q
   exact CQ.mp q
 refine⟨λh=>?_,λh=>?_⟩
 ·obtain⟨σ',el,v3,v4,v5,v6,v7,rfl⟩:=lp.1 (key.mp h)
  simp! only[D_law_span_bad,bt_len a9,AD,dz (show ss.length<=1000000 by omega),el]
 ·simp! only[D_law_span_bad,bt_len a9,AD,dz (show ss.length<=1000000 by omega),lp.2 λz=>h (key.mpr z)]
end
open PySem
def Lit (L w:Int) (ss:List Span):Prop:=∀t,0<=t->t<L->(cov ss t:Int)=w
theorem Ru {L lo hi w:Int} {ss:List Span} (h:∀s∈ss,Good L lo hi s) (h0:(cov ss 0:Int)=w) (hz:∀t,0<t->t<L->dlt ss t=0\/(cov ss t:Int)=w):Lit L w ss:=by
 have gen:∀k:Nat,(k:Int)<L->(cov ss k:Int)=w:=by
  intro k
  induction k with
  | zero=>intro _;exact h0
  | succ k ih =>
   intro hk
   rcases hz ((k+1:Nat):Int) (by omega) hk with q | q
   ·have e:=F6 ss ((k+1:Nat):Int) h
    rw[q,show(((k+1:Nat):Int)-1)=k by omega,ih (by omega)]at e
    omega
   ·exact q
 intro t t0 t1
 have:=gen t.toNat (by omega)
 rwa [Int.toNat_of_nonneg t0]at this
theorem Pe {ss:List Span} {t:Int} (h:∀s∈ss,s.start≠t/\s.fin≠t):dlt ss t=0:=by
 induction ss with
 | nil=>rfl
 | cons s r ih =>
  have:=ih λx hx=>h x (AH _ hx)
  have g:=h s AQ
  simp![dlt,AR,DH]at this ⊢
  rw[this,if_neg g.1,if_neg g.2];rfl
section
variable {n : Nat} {μ ρ : Sto} {φ : Phi} {σ : Sl}
theorem Pf {L lo hi w:Int} {ss:List Span} (h:∀s∈ss,Good L lo hi s) (hL:0<L) (hn:ss.length<=1000) (hw:Lit L w ss) :
  ∃ρ,ak GL (n+1) cy [.int L,.int w,.tup (ss.map eSpan)] μ=.ok (.bl false) (μ++ρ):=by
 have e:=Uv (n:=n) (μ:=μ) (w:=w) h hL hw hn
 rwa [decide_eq_true rfl]at e
theorem Pg {L lo hi w:Int} {ss:List Span} (h:∀s∈ss,Good L lo hi s) (hL:0<L) (hn:ss.length<=1000) (hw:¬Lit L w ss) :
  ∃ρ,ak GL (n+1) cy [.int L,.int w,.tup (ss.map eSpan)] μ=.ok (.bl true) (μ++ρ):=by
 obtain⟨m,ρ,hk,hs0,hv,ed⟩:=F8 (n:=n) (μ:=μ) (w:=w) h hL hn
 refine⟨ρ,?_⟩
 rw[ed]
 cases q:(m.map λp=>!decide (p.2=0)).any id with
 | true=>rfl
 | false =>
  refine absurd ?_ hw
  have z:∀x,(dn m x).getD 0=0:=λx=>by
   cases e:dn m x with
   | none=>rfl
   | some v =>
    have:=GX.mp q (!decide (v=0)) (AU.mpr ⟨(x,v),As e,rfl⟩)
    simpa using this
  refine Ru h ?_ λt t0 t1=>.inl ?_
  ·have a:=hv 0
   rw[z,if_neg (by omega),if_pos rfl,F6 ss 0 h,rm (x:=0-1) h (.inl (by omega))]at a
   omega
  ·have a:=hv t
   rw[z,if_neg (by omega),if_neg (by omega)]at a
   omega
theorem El {xs ys:List D} (h:xs.length+ys.length<=1000000):opD .Add .z (.lst xs) (.lst ys) μ=.ok (.lst (xs++ys)) μ:=by
 simp![opD,Lp.listOf,lim,jg]
 rw[if_pos (by omega)]
theorem Em {L lo hi w:Int} {ss:List Span} (h:∀s∈ss,Good L lo hi s) (hL:0<L) (hn:ss.length<=31) :
  (Lit L w ss->ak GL (n+1) nh [.int L,.int w,.tup (ss.map eSpan)] μ=.ok (.bl false) μ)/\(¬Lit L w ss->ak GL (n+1) nh [.int L,.int w,.tup (ss.map eSpan)] μ=.ok (.bl true) μ):=by
 rw[ao Hv,run_eq rfl]
 have c1:gy (ak GL n) .z (.one 0) .nil oa [none] (ss.map eSpan,none) μ=.ok (.lst ((ss.map (·.start)).map D.int)) μ:=by
  rw[comp_map (g:=λs:Span=>D.int s.start) λs _=>by simp! only[iu,oa,ya]]
  rw[jg,AY];rfl
 have c2:gy (ak GL n) .z (.one 0) .nil og [none] (ss.map eSpan,none) μ=.ok (.lst ((ss.map (·.fin)).map D.int)) μ:=by
  rw[comp_map (g:=λs:Span=>D.int s.fin) λs _=>by simp! only[iu,og,Ce]]
  rw[jg,AY];rfl
 have a1:opD .Add .z (.lst [.int 0]) (.lst ((ss.map (·.start)).map D.int)) μ=.ok (.lst ((0::ss.map (·.start)).map D.int)) μ:=El (by simp;omega)
 have a2:opD .Add .z (.lst ((0::ss.map (·.start)).map D.int)) (.lst ((ss.map (·.fin)).map D.int)) μ=.ok (.lst ((0::ss.map (·.start)++ss.map (·.fin)).map D.int)) μ:=by
  rw[El (by simp;omega),<-BX]
 have mp:∀p,p∈sortI (zl (0::ss.map (·.start)++ss.map (·.fin)))↔(p=0\/∃s∈ss,s.start=p\/s.fin=p):=λp=>by
  rw[Fy,Ut]
  simp![EG,AL,CM,AU]
  constructor
  ·rintro(q | ⟨s,hs,q⟩ | ⟨s,hs,q⟩)
   ·exact .inl q
   ·exact .inr ⟨s,hs,.inl q⟩
   ·exact .inr ⟨s,hs,.inr q⟩
  ·rintro(q | ⟨s,hs,q | q⟩)
   ·exact .inl q
   ·exact .inr (.inl ⟨s,hs,q⟩)
   ·exact .inr (.inr ⟨s,hs,q⟩)
 have bs:btD .sortedSet .z [.lst ((0::ss.map (·.start)++ss.map (·.fin)).map D.int)] μ=.ok (.lst ((sortI (zl (0::ss.map (·.start)++ss.map (·.fin)))).map D.int)) μ:=by
  simp![btD,ff,Jn,Nw,cv,FX,jf]
  rw[if_pos (by simp;omega),jg]
 generalize sortI (zl (0::ss.map (·.start)++ss.map (·.fin)))=ps at *
 generalize 0::ss.map (·.start)=q0 at *
 have lp:=nr (φ:=ak GL n) (μ:=μ) (tg:=.one 4) (b:=ig) (xs:=ps) (en:=D.int) (v:=.bl true) (σ:=[some (.int L),some (.int w),some (.tup (ss.map eSpan)),some (.lst (ps.map D.int)),none])
  (λσ=>∃v4,σ=[some (.int L),some (.int w),some (.tup (ss.map eSpan)),some (.lst (ps.map D.int)),v4]) (λp=>p<L/\¬(cov ss p:Int)=w) ⟨none,rfl⟩ (by
   rintro p hp σ ⟨v4,rfl⟩
   have hc:gy (ak GL n) .z (.one 1) ic ie [some (.int p),none] (ss.map eSpan,none) μ=.ok (.lst ((ss.filter λs=>decide (s.start<=p/\p<s.fin)).map eSpan)) μ:=by
    rw[gz (g:=eSpan) (p:=λs:Span=>decide (s.start<=p/\p<s.fin)) λs _=>by
     by_cases h1:s.start<=p
     ·by_cases h2:p<s.fin
      ·simp! only[iu,ic,ie,ya,Ce,h1,h2,and_self,if_true]
      ·simp! only[iu,ic,ie,ya,Ce,h1,h2,and_false,if_false,AS]
     ·simp! only[iu,ic,ie,ya,h1,false_and,if_false,AS]]
    rw[jg]
   have hl:btD .len .z [.lst ((ss.filter λs=>decide (s.start<=p/\p<s.fin)).map eSpan)] μ=.ok (.int (cov ss p)) μ:=by
    rw[bt_len au,AD,<-List.countP_eq_length_filter];rfl
   by_cases q1:p<L
   ·by_cases q2:(cov ss p:Int)=w
    ·exact⟨λ_=>⟨[some (.int L),some (.int w),some (.tup (ss.map eSpan)),some (.lst (ps.map D.int)),some (.int p)],by simp! only[fLp,ig,q1,hc,hl,q2],_,rfl⟩,λz=>absurd q2 z.2⟩
    ·exact⟨λz=>absurd ⟨q1,q2⟩ z,λ_=>by simp! only[fLp,ig,q1,hc,hl,q2]⟩
   ·exact⟨λ_=>⟨[some (.int L),some (.int w),some (.tup (ss.map eSpan)),some (.lst (ps.map D.int)),some (.int p)],by simp! only[fLp,ig,q1],_,rfl⟩,λz=>absurd z.1 q1⟩)
 have key:Lit L w ss↔∀p∈ps,¬(p<L/\¬(cov ss p:Int)=w):=by
  refine⟨λhw p hp q=>q.2 (hw p ?_ q.1),λg=>Ru h ?_ λt t0 t1=>?_⟩
  ·rcases(mp p).mp hp with rfl | ⟨s,hs,e | e⟩
   ·omega
   ·have:=(h s hs).start;omega
   ·have:=(h s hs).start;have:=(h s hs).run;omega
  ·exact CQ.mp λz=>g 0 ((mp 0).mpr (.inl rfl)) ⟨hL,z⟩
  ·by_cases q:t∈ps
   ·exact .inr (CQ.mp λz=>g t q ⟨t1,z⟩)
   ·exact .inl (Pe λs hs=>⟨λe=>q ((mp t).mpr (.inr ⟨s,hs,.inl e⟩)),λe=>q ((mp t).mpr (.inr ⟨s,hs,.inr e⟩))⟩)
 have ml:mkL .z [D.int 0] μ=.ok (.lst [.int 0]) μ:=jg
 refine⟨λhw=>?_,λhw=>?_⟩
 ·obtain⟨σ',el,v4,rfl⟩:=lp.1 (key.mp hw)
  simp! only[D_law_dark,ml,c1,c2,a1,a2,bs,el]
 ·simp! only[D_law_dark,ml,c1,c2,a1,a2,bs,lp.2 λz=>hw (key.mpr z)]
end
open PySem
def p6 (L:Nat) (a c:List Int):List Int:=(List.range L).map fun(k:Nat)=>a.getD k 0+c.getD k 0
def Gm (b:Book) (i:Nat) (ss:List Span):Prop:=∀s∈ss,¬(i:Int)∈(b.lamps.map (·.away)).getD s.lamp.toNat []
def Ph (L:Nat) (lv:List Int) (ss:List Span):Prop:=∀k∈List.range L,¬lv.getD k 0<ay ss k
def Gn (b:Book) (lv:List Int):Prop:=∀k∈List.range b.lamps.length,¬(b.lamps.map (·.tank)).getD k 0<lv.getD k 0
open Classical in
def xu (b:Book) (i:Nat) (lv:List Int) (ss:List Span) (d:Day):Option Str :=
 if ¬su d.length b.lamps.length ss then some (Str.ofString "span")else if ¬Gm b i ss then some (Str.ofString "away")else if ¬Ph b.lamps.length lv ss then some (Str.ofString "oil")
 else if ¬Lit d.length d.wanted ss then some (Str.ofString "dark")else none
open Classical in
def Ml (b:Book) (i:Nat) (H:Int×List Int) (t:Tn) (d:Day):Option Str :=
 if ¬(0<=t.taken/\t.taken<=d.boat)then some (Str.ofString "boat")else if ¬(0<=t.bought/\t.bought<=d.most)then some (Str.ofString "market")
 else if ¬((∀x∈t.poured,¬x<0)/\¬H.1+t.taken+t.bought<t.poured.sum)then some (Str.ofString "pour")else if ¬Gn b (p6 b.lamps.length H.2 t.poured)then some (Str.ofString "tank")
 else xu b i (p6 b.lamps.length H.2 t.poured) t.spans d
def eW:Option Str->D
 | none=>.non
 | some w=>.str w
def eL:Option Str->D
 | none=>.str (Str.ofString "")
 | some w=>.str w
theorem Mm (w:Option Str):(eW w).pure=true:=by cases w<;>rfl
theorem U2 (w:Option Str):(eL w).pure=true:=by cases w<;>rfl
theorem Mn {α:Type} {xs:List α} {p:α->Prop} [DecidablePred p] (h:∀x∈xs,¬p x):(xs.map λx=>decide (p x)).any id=false:=by
 rw[GX]
 intro y hy
 obtain⟨x,hx,rfl⟩:=AU.mp hy
 simp[h x hx]
theorem En {α:Type} {xs:List α} {p:α->Prop} [DecidablePred p] (h:¬∀x∈xs,¬p x):(xs.map λx=>decide (p x)).any id=true:=by
 rw[DM]
 obtain⟨x,hx,q⟩:∃x∈xs,p x:=CG λz=>h λx hx q=>z ⟨x,hx,q⟩
 exact⟨true,AU.mpr ⟨x,hx,decide_eq_true q⟩,rfl⟩
theorem Mo {α:Type} {xs:List α} {p:α->Prop} [DecidablePred p] (h:∀x∈xs,¬p x):xs.filter (λx=>decide (p x))=[]:=by
 rw[List.filter_eq_nil_iff]
 intro x hx
 simp[h x hx]
theorem Eo {α:Type} {xs:List α} {p:α->Prop} [DecidablePred p] (h:¬∀x∈xs,¬p x):(0:Int)<((xs.filter λx=>decide (p x)).length:Nat):=by
 obtain⟨x,hx,q⟩:∃x∈xs,p x:=CG λz=>h λx hx q=>z ⟨x,hx,q⟩
 have:0<(xs.filter λx=>decide (p x)).length:=List.length_pos_of_mem (GD.mpr ⟨hx,decide_eq_true q⟩)
 omega
theorem aby {β:Type} {L:Nat} {a c:List Int} {f:Int×Int->β} (ha:a.length=L) (hc:c.length=L):(a.zip c).map f=(List.range L).map fun(k:Nat)=>f (a.getD k 0,c.getD k 0):=by
 apply CA
 intro i
 by_cases hi:i<L
 ·have hz:(a.zip c)[i]? = some (a.getD i 0,c.getD i 0):=by
   rw[DC]
   exact⟨by simp[show i<a.length by omega],by simp[show i<c.length by omega]⟩
  simp[hz,hi]
 ·rw[AZ (by simp;omega),AZ (by simp;omega)]
section
variable {n : Nat} {μ ρ : Sto} {φ : Phi} {σ : Sl}
theorem Mp {b:Book} {L:Int} {s:Span} (g:Good L 0 b.lamps.length s):∃(K:Nat) (l:Lamp),(K:Int)=s.lamp/\b.lamps[K]? = some l/\l.away=(b.lamps.map (·.away)).getD s.lamp.toNat []:=by
 have gl:=g.lamp
 obtain⟨K,hK⟩:∃K:Nat,(K:Int)=s.lamp:=⟨s.lamp.toNat,by omega⟩
 have hK2:K<b.lamps.length:=by omega
 exact⟨K,b.lamps[K],hK,AB hK2,by rw[<-hK,CI];simp[hK2]⟩
theorem Mq (hr:l5 μ) {b:Book} {i:Nat} {lv:List Int} {ss:List Span} {d:Day} (hd:b.days[i]? = some d) (hlv:lv.length=b.lamps.length) (hL:b.lamps.length<=8) (hs:ss.length<=31) (h1:1<=d.length) :
  ak GL (n+3) jv [cm b,.int i,cw lv,.tup (ss.map eSpan)] μ=.ok (eW (xu b i lv ss d)) μ:=by
 rw[ao Aj,run_eq rfl]
 have ln:btD .len .z [cw lv] μ=.ok (.int b.lamps.length) μ:=by rw[Gk,hlv]
 unfold xu
 by_cases sp:su d.length b.lamps.length ss
 ·rw[if_neg (not_not_intro sp)]
  have k1:=av (Cf (n:=n) hr (L:=d.length) (lamps:=b.lamps.length) sp.2 sp.1) rfl rfl hr
  have c1:=comp_map (m:=.z) (μ:=μ) (φ:=ak GL (n+2)) (tg:=.many [2,3,4]) (cs:=.nil) (elt:=jl) (σ0:=[some (cm b),some (.int i),none,none,none]) (xs:=ss) (en:=eSpan) (g:=λs=>D.bl (decide ((i:Int)∈(b.lamps.map (·.away)).getD s.lamp.toNat []))) (by
   intro s hs
   obtain⟨K,l,hK,hl,ea⟩:=Mp (sp.1 s hs)
   have kb:=av (Hz (n:=n+1) (μ:=μ) (b:=b) (k:=K) (l:=l) hl (i:Int)) rfl rfl hr
   have bt:gf (.many [2,3,4]) (eSpan s) [some (cm b),some (.int i),none,none,none]=some [some (cm b),some (.int i),some (.int K),some (.int s.start),some (.int s.fin)]:=by rw[hK];rfl
   rw[ea]at kb
   simp! only[iu,bt,jl,kb,Bool.not_not])
  rw[show(λs:Span=>D.bl (decide ((i:Int)∈(b.lamps.map (·.away)).getD s.lamp.toNat [])))=D.bl∘(λs:Span=>decide ((i:Int)∈(b.lamps.map (·.away)).getD s.lamp.toNat []))from rfl,<-AY]at c1
  have b1:=bt_any (μ:=μ) (m:=.z) (au (μ:=μ)) (g6 (ss.map λs=>decide ((i:Int)∈(b.lamps.map (·.away)).getD s.lamp.toNat [])))
  by_cases aw:Gm b i ss
  ·rw[if_neg (not_not_intro aw)]
   rw[Mn aw]at b1
   obtain⟨ρ1,et⟩:=yz (n:=n+1) (μ:=μ) b.lamps.length ss (by omega) (by omega)
   have kt:=fw et (nq _) hr
   have c2:=comp_map (m:=.z) (μ:=μ) (φ:=ak GL (n+2)) (tg:=.many [0,1]) (cs:=.nil) (elt:=jm) (σ0:=[none,none]) (xs:=((List.range b.lamps.length).map fun(k:Nat)=>ay ss k).zip lv) (en:=λp=>D.tup [.int p.1,.int p.2]) (g:=λp=>D.bl (decide (p.2<p.1))) (by
    rintro⟨x,y⟩ hp
    simp! only[iu,jm,o9])
   have e2:(((List.range b.lamps.length).map fun(k:Nat)=>ay ss k).zip lv).map (λp=>D.bl (decide (p.2<p.1)))=((List.range b.lamps.length).map fun(k:Nat)=>decide (lv.getD k 0<ay ss k)).map D.bl:=by
    rw[aby (L:=b.lamps.length) (by simp) hlv,AY]
    refine CF λk hk=>?_
    show D.bl (decide (lv.getD k 0<((List.range b.lamps.length).map fun(k:Nat)=>ay ss k).getD k 0))=_
    rw[xp (CO.mp hk)];rfl
   rw[e2]at c2
   have kz:uz (cw ((List.range b.lamps.length).map fun(k:Nat)=>ay ss k)) (cw lv) μ=.ok (_,none) μ:=Av (f:=D.int) (g:=D.int)
   have b2:=bt_any (μ:=μ) (m:=.z) (au (μ:=μ)) (g6 ((List.range b.lamps.length).map fun(k:Nat)=>decide (lv.getD k 0<ay ss k)))
   by_cases ol:Ph b.lamps.length lv ss
   ·rw[if_neg (not_not_intro ol)]
    rw[Mn ol]at b2
    by_cases lt:Lit d.length d.wanted ss
    ·rw[if_neg (not_not_intro lt)]
     obtain⟨ρ2,ed⟩:=Pf (n:=n+1) (μ:=μ) (lo:=0) (hi:=b.lamps.length) (w:=d.wanted) sp.1 (by omega) (by omega) lt
     have kd:=fw ed rfl hr
     simp! only[D_night_fault,gp,bo hd,bw,ln,k1,c1,b1,kt,kz,c2,b2,kd,eW]
    ·rw[if_pos lt]
     obtain⟨ρ2,ed⟩:=Pg (n:=n+1) (μ:=μ) (lo:=0) (hi:=b.lamps.length) (w:=d.wanted) sp.1 (by omega) (by omega) lt
     have kd:=fw ed rfl hr
     simp! only[D_night_fault,gp,bo hd,bw,ln,k1,c1,b1,kt,kz,c2,b2,kd,eW]
   ·rw[if_pos ol]
    rw[En ol]at b2
    simp! only[D_night_fault,gp,bo hd,bw,ln,k1,c1,b1,kt,kz,c2,b2,eW]
  ·rw[if_pos aw]
   rw[En aw]at b1
   simp! only[D_night_fault,gp,bo hd,bw,ln,k1,c1,b1,eW]
 ·rw[if_pos sp]
  have k1:=av (Az (n:=n) hr sp) rfl rfl hr
  simp! only[D_night_fault,gp,bo hd,bw,ln,k1,eW]
theorem Pj {ps:List Int} (h:1<=ps.length):∃mn:Int,(mn<0↔¬∀x∈ps,¬x<0)/\btD .min1 .z [cw ps] μ=.ok (.int mn) μ:=by
 cases ps with
 | nil=>simp at h
 | cons x r =>
  refine⟨Jm x r,⟨λq z=>?_,λq=>CG λz=>q λy hy=>?_⟩,?_⟩
  ·rcases(wm r x).2.2 with e | e
   ·exact z x AQ (by omega)
   ·exact z _ (AH _ e) q
  ·have a:=(wm r x).1
   rcases AL.mp hy with rfl | hy
   ·omega
   ·have:=(wm r x).2.1 y hy;omega
  ·simp![btD,ff,Wb,Nw,cw,cv,FX,jf]
theorem sv (L:Nat) (a c:List Int):(p6 L a c).length=L:=by simp[p6]
theorem U3 (hr:l5 μ) {b:Book} {i:Nat} {H:Int×List Int} {t:Tn} {d:Day} (hd:b.days[i]? = some d) (hH:H.2.length=b.lamps.length) (hp:t.poured.length=b.lamps.length) (hL1:1<=b.lamps.length) (hL:b.lamps.length<=8) (hs:t.spans.length<=31) (h1:1<=d.length) :
  ak GL (n+4) n9 [cm b,.int i,c9 H,eTn t] μ=.ok (eW (Ml b i H t d)) μ:=by
 rw[ao D5,run_eq rfl]
 have kn:=av (Mq (n:=n) (ss:=t.spans) hr hd (sv b.lamps.length H.2 t.poured) hL hs h1) (Mm _) rfl hr
 have kf:=av (Cm (n:=n+2) (μ:=μ) H.2 t.poured) (nq _) rfl hr
 rw[Ej hH hp,show((List.range b.lamps.length).map fun(k:Nat)=>H.2.getD k 0+t.poured.getD k 0)=p6 b.lamps.length H.2 t.poured from rfl]at kf
 obtain⟨mn,hmn,em⟩:=Pj (μ:=μ) (ps:=t.poured) (by omega)
 unfold Ml
 generalize hlv:p6 b.lamps.length H.2 t.poured=lv at *
 have hll:lv.length=b.lamps.length:=by rw[<-hlv];exact sv _ _ _
 have c1:=comp_map (m:=.z) (μ:=μ) (φ:=ak GL (n+3)) (tg:=.many [0,1]) (cs:=.nil) (elt:=my) (σ0:=[none,none]) (xs:=lv.zip b.lamps) (en:=λp=>D.tup [.int p.1,d5 p.2]) (g:=λp=>D.bl (decide (p.2.tank<p.1))) (by
  rintro⟨x,l⟩ _
  have il:∀ν:Sto,ixD (d5 l) (.int 0) ν=.ok (.int l.tank) ν:=λ_=>rfl
  simp! only[iu,my,o9,il])
 have e1:(lv.zip b.lamps).map (λp=>D.bl (decide (p.2.tank<p.1)))=((List.range b.lamps.length).map fun(k:Nat)=>decide ((b.lamps.map (·.tank)).getD k 0<lv.getD k 0)).map D.bl:=by
  have z:=aby (L:=b.lamps.length) (a:=lv) (c:=b.lamps.map (·.tank)) (f:=λp=>D.bl (decide (p.2<p.1))) hll (by simp)
  rw[List.zip_map_right,AY]at z
  rw[AY]
  exact z
 rw[e1]at c1
 have kz:uz (cw lv) (.tup (b.lamps.map d5)) μ=.ok (_,none) μ:=Av (f:=D.int) (g:=d5)
 have b1:=bt_any (μ:=μ) (m:=.z) (au (μ:=μ)) (g6 ((List.range b.lamps.length).map fun(k:Nat)=>decide ((b.lamps.map (·.tank)).getD k 0<lv.getD k 0)))
 by_cases q1:0<=t.taken/\t.taken<=d.boat
 ·rw[if_neg (not_not_intro q1)]
  by_cases q2:0<=t.bought/\t.bought<=d.most
  ·rw[if_neg (not_not_intro q2)]
   by_cases q3:∀x∈t.poured,¬x<0
   ·have nm:¬mn<0:=λz=>hmn.mp z q3
    by_cases q4:H.1+t.taken+t.bought<t.poured.sum
    ·rw[if_pos λz=>z.2 q4]
     simp! only[D_day_fault,gp,bo hd,bw,j9,gi,q1.1,q1.2,q2.1,q2.2,em,nm,sum_ints,q4,eW]
    ·rw[if_neg (not_not_intro ⟨q3,q4⟩)]
     by_cases q5:Gn b lv
     ·rw[if_neg (not_not_intro q5)]
      rw[Mn q5]at b1
      simp! only[D_day_fault,gp,bo hd,bw,j9,gi,q1.1,q1.2,q2.1,q2.2,em,nm,sum_ints,q4,kf,pf,kz,c1,b1,kn]
     ·rw[if_pos q5]
      rw[En q5]at b1
      simp! only[D_day_fault,gp,bo hd,bw,j9,gi,q1.1,q1.2,q2.1,q2.2,em,nm,sum_ints,q4,kf,pf,kz,c1,b1,eW]
   ·have nm:mn<0:=hmn.mpr q3
    rw[if_pos λz=>q3 z.1]
    simp! only[D_day_fault,gp,bo hd,bw,j9,gi,q1.1,q1.2,q2.1,q2.2,em,nm,eW]
  ·rw[if_pos q2]
   by_cases z:0<=t.bought
   ·have z2:¬t.bought<=d.most:=λy=>q2 ⟨z,y⟩
    simp! only[D_day_fault,gp,bo hd,bw,j9,gi,q1.1,q1.2,z,z2,eW]
   ·simp! only[D_day_fault,gp,bo hd,bw,j9,gi,q1.1,q1.2,z,eW]
 ·rw[if_pos q1]
  by_cases z:0<=t.taken
  ·have z2:¬t.taken<=d.boat:=λy=>q1 ⟨z,y⟩
   simp! only[D_day_fault,gp,bo hd,bw,j9,gi,z,z2,eW]
  ·simp! only[D_day_fault,gp,bo hd,bw,j9,gi,z,eW]
end
open PySem
theorem Mr (ss:List Span) (k:Int):((ss.filter λs=>decide (s.lamp=k)).map λs=>s.fin-s.start).sum=ay ss k:=by
 unfold ay
 induction ss with
 | nil=>rfl
 | cons s r ih =>
  by_cases h:s.lamp=k
  ·rw[List.filter_cons_of_pos (by simpa using h),AR,DH,AR,DH,ih,if_pos h]
  ·rw[List.filter_cons_of_neg (by simpa using h),AR,DH,ih,if_neg h,Int.zero_add]
section
variable {n : Nat} {μ ρ : Sto} {φ : Phi} {σ : Sl}
theorem za {ns:List Int} {k:Int}:cpD .in_ (.int k) (cw ns) μ=.ok (.bl (decide (k∈ns))) μ:=by
 simp![cpD,cw,a9,flat,xg,and_self,if_true,any_ints]
theorem Pk (hr:l5 μ) {b:Book} {i:Nat} {H:Int×List Int} {t:Tn} {d:Day} {T:D} (hT:cv μ T=some (H.2.map D.int)) (hd:b.days[i]? = some d) (hH:H.2.length=b.lamps.length) (hp:t.poured.length=b.lamps.length) (hL:b.lamps.length<=8) (hs:t.spans.length<=31) (h1:1<=d.length) :
  ak GL (n+2) qe [cm b,.int i,.int H.1,T,eTn t] μ=.ok (eL (Ml b i H t d)) μ:=by
 rw[ao Hw,run_eq rfl]
 unfold Ml xu
 have lT:btD .len .z [T] μ=.ok (.int b.lamps.length) μ:=by rw[bt_len hT,AD,hH]
 have ks0:kSeq (cw t.poured) μ=.ok (t.poured.map D.int,none) μ:=rfl
 have c0:gy (ak GL (n+1)) .z (.one 0) jx jy [none] (t.poured.map D.int,none) μ=.ok (.lst ((t.poured.filter λx=>decide (x<0)).map D.int)) μ:=by
  rw[gz (g:=D.int) (p:=λx:Int=>decide (x<0)) λx _=>by
   by_cases h:x<0
   ·simp! only[iu,jx,jy,h,if_true]
   ·simp! only[iu,jx,jy,h,if_false,AS]]
  rw[jg]
 by_cases q1:0<=t.taken/\t.taken<=d.boat
 ·rw[if_neg (not_not_intro q1)]
  have a1:¬t.taken<0:=by omega
  have a2:¬d.boat<t.taken:=by omega
  by_cases q2:0<=t.bought/\t.bought<=d.most
  ·rw[if_neg (not_not_intro q2)]
   have a3:¬t.bought<0:=by omega
   have a4:¬d.most<t.bought:=by omega
   by_cases q3:∀x∈t.poured,¬x<0
   ·rw[Mo q3]at c0
    have l0:btD .len .z [.lst (([]:List Int).map D.int)] μ=.ok (.int 0) μ:=rfl
    have z0:¬(0:Int)<0:=by decide
    simp![DJ]at c0 l0
    by_cases q4:H.1+t.taken+t.bought<t.poured.sum
    ·rw[if_pos λz=>z.2 q4]
     simp! only[D_law_word,gp,bo hd,bw,gi,a1,a2,a3,a4,ks0,c0,l0,z0,sum_ints,q4,eL]
    ·rw[if_neg (not_not_intro ⟨q3,q4⟩)]
     have c1:gy (ak GL (n+1)) .z (.one 2) .nil oh [some T,some (cw t.poured),none] ((List.range b.lamps.length).map fun(k:Nat)=>D.int k,none) μ=.ok (.lst ((p6 b.lamps.length H.2 t.poured).map D.int)) μ:=by
      refine sr (f:=λk=>H.2.getD k 0+t.poured.getD k 0) λk hk=>?_
      simp! only[iu,oh,qu hT (show k<H.2.length by omega),qu (x:=cw t.poured) (μ:=μ) rfl (show k<t.poured.length by omega)]
     generalize hlv:p6 b.lamps.length H.2 t.poured=lv at *
     have hll:lv.length=b.lamps.length:=by rw[<-hlv];exact sv _ _ _
     have lf:btD .len .z [.lst (lv.map D.int)] μ=.ok (.int b.lamps.length) μ:=by rw[bt_len au,AD,hll]
     have il:∀k,k<b.lamps.length->ixD (.lst (lv.map D.int)) (.int k) μ=.ok (.int (lv.getD k 0)) μ:=λk hk=>qu rfl (by omega)
     have kr:=dz (μ:=μ) (show b.lamps.length<=1000000 by omega)
     have c2:gy (ak GL (n+1)) .z (.one 2) jz j0 [some (.lst (lv.map D.int)),some (cm b),none] ((List.range b.lamps.length).map fun(k:Nat)=>D.int k,none) μ=.ok (.lst (((List.range b.lamps.length).filter fun(k:Nat)=>decide ((b.lamps.map (·.tank)).getD k 0<lv.getD k 0)).map fun(k:Nat)=>D.int k)) μ:=by
      rw[gz (g:=fun(k:Nat)=>D.int k) (p:=fun(k:Nat)=>decide ((b.lamps.map (·.tank)).getD k 0<lv.getD k 0)) λk hk=>by
       have hk':k<b.lamps.length:=CO.mp hk
       obtain⟨l,hl⟩:∃l,b.lamps[k]? = some l:=⟨_,AB hk'⟩
       have et:(b.lamps.map (·.tank)).getD k 0=l.tank:=by simp[hl]
       have i0:∀ν:Sto,ixD (d5 l) (.int 0) ν=.ok (.int l.tank) ν:=λ_=>rfl
       rw[et]
       by_cases h:l.tank<lv.getD k 0
       ·simp! only[iu,jz,j0,il k hk',pf,bo hl,i0,h,if_true]
       ·simp! only[iu,jz,j0,il k hk',pf,bo hl,i0,h,if_false,AS]]
      rw[jg]
     by_cases q5:Gn b lv
     ·rw[if_neg (not_not_intro q5)]
      rw[Mo q5,DJ]at c2
      by_cases sp:su d.length b.lamps.length t.spans
      ·rw[if_neg (not_not_intro sp)]
       have k1:=av ((xq (n:=n) (μ:=μ) (L:=d.length) (lamps:=b.lamps.length) (ss:=t.spans) (by omega)).1 sp) rfl rfl hr
       have c3:gy (ak GL (n+1)) .z (.one 2) j4 j5 [some (.int i),some (cm b),none] (t.spans.map eSpan,none) μ=.ok (.lst ((t.spans.filter λs=>decide ((i:Int)∈(b.lamps.map (·.away)).getD s.lamp.toNat [])).map eSpan)) μ:=by
        rw[gz (g:=eSpan) (p:=λs:Span=>decide ((i:Int)∈(b.lamps.map (·.away)).getD s.lamp.toNat [])) λs hs=>by
         obtain⟨K,l,hK,hl,ea⟩:=Mp (sp.1 s hs)
         have ix:ixD (.tup (b.lamps.map d5)) (.int s.lamp) μ=.ok (d5 l) μ:=by rw[<-hK];exact bo hl
         have i2:∀ν:Sto,ixD (d5 l) (.int 2) ν=.ok (cw l.away) ν:=λ_=>rfl
         rw[<-ea]
         by_cases h:(i:Int)∈l.away
         ·simp! only[iu,j4,j5,pf,u0,ix,i2,za,h,if_true]
         ·simp! only[iu,j4,j5,pf,u0,ix,i2,za,h,if_false,AS]]
        rw[jg]
       by_cases aw:Gm b i t.spans
       ·rw[if_neg (not_not_intro aw)]
        rw[Mo aw,DJ]at c3
        have lp:=nr (φ:=ak GL (n+1)) (μ:=μ) (tg:=.one 15) (b:=j8) (xs:=List.range b.lamps.length) (en:=fun(k:Nat)=>D.int k) (v:=.str (Str.ofString "oil"))
         (σ:=[some (cm b),some (.int i),some (.int H.1),some T,some (eTn t),some (.int d.boat),some (.int d.most),some (.int d.price),some (.int d.length),some (.int d.wanted),some (.int t.taken),some (.int t.bought),some (cw t.poured),some (.tup (t.spans.map eSpan)),some (.lst (lv.map D.int)),none])
         (λσ=>∃v,σ=[some (cm b),some (.int i),some (.int H.1),some T,some (eTn t),some (.int d.boat),some (.int d.most),some (.int d.price),some (.int d.length),some (.int d.wanted),some (.int t.taken),some (.int t.bought),some (cw t.poured),some (.tup (t.spans.map eSpan)),some (.lst (lv.map D.int)),v])
         (λk=>lv.getD k 0<ay t.spans k) ⟨none,rfl⟩ (by
          rintro k hk σ ⟨v,rfl⟩
          have hk':k<b.lamps.length:=CO.mp hk
          have c4:gy (ak GL (n+1)) .z (.one 1) j6 j7 [some (.int k),none] (t.spans.map eSpan,none) μ=.ok (.lst (((t.spans.filter λs=>decide (s.lamp=(k:Int))).map λs=>s.fin-s.start).map D.int)) μ:=by
           rw[gz (g:=λs:Span=>D.int (s.fin-s.start)) (p:=λs:Span=>decide (s.lamp=(k:Int))) λs _=>by
            by_cases q:s.lamp=(k:Int)
            ·simp! only[iu,j6,j7,u0,ya,Ce,q,if_true]
            ·simp! only[iu,j6,j7,u0,q,if_false,AS]]
           rw[jg,AY];rfl
          have b4:=bt_sum (μ:=μ) (m:=.z) (au (μ:=μ)) (jf ((t.spans.filter λs=>decide (s.lamp=(k:Int))).map λs=>s.fin-s.start))
          rw[Mr]at b4
          by_cases q:lv.getD k 0<ay t.spans k
          ·refine⟨λz=>absurd q z,λ_=>?_⟩
           simp! only[fLp,j8,c4,b4,il k hk',q]
          ·refine⟨λ_=>⟨_,?_,some (.int k),rfl⟩,λz=>absurd z q⟩
           simp! only[fLp,j8,c4,b4,il k hk',q])
        by_cases ol:Ph b.lamps.length lv t.spans
        ·rw[if_neg (not_not_intro ol)]
         obtain⟨σ',el,v,rfl⟩:=lp.1 ol
         have kd:=Em (n:=n) (μ:=μ) (lo:=0) (hi:=b.lamps.length) (w:=d.wanted) sp.1 (by omega) hs
         by_cases lt:Lit d.length d.wanted t.spans
         ·rw[if_neg (not_not_intro lt)]
          simp! only[D_law_word,gp,bo hd,bw,gi,a1,a2,a3,a4,ks0,c0,l0,z0,sum_ints,q4,lT,kr,c1,lf,c2,k1,c3,el,av (kd.1 lt) rfl rfl hr,eL]
         ·rw[if_pos lt]
          simp! only[D_law_word,gp,bo hd,bw,gi,a1,a2,a3,a4,ks0,c0,l0,z0,sum_ints,q4,lT,kr,c1,lf,c2,k1,c3,el,av (kd.2 lt) rfl rfl hr,eL]
        ·rw[if_pos ol]
         simp! only[D_law_word,gp,bo hd,bw,gi,a1,a2,a3,a4,ks0,c0,l0,z0,sum_ints,q4,lT,kr,c1,lf,c2,k1,c3,lp.2 ol,eL]
       ·rw[if_pos aw]
        have l3:=bt_len (μ:=μ) (m:=.z) (au (μ:=μ) (ds:=(t.spans.filter λs=>decide ((i:Int)∈(b.lamps.map (·.away)).getD s.lamp.toNat [])).map eSpan))
        rw[AD]at l3
        simp! only[D_law_word,gp,bo hd,bw,gi,a1,a2,a3,a4,ks0,c0,l0,z0,sum_ints,q4,lT,kr,c1,lf,c2,k1,c3,l3,Eo aw,eL]
      ·rw[if_pos sp]
       have k1:=av ((xq (n:=n) (μ:=μ) (L:=d.length) (lamps:=b.lamps.length) (ss:=t.spans) (by omega)).2 sp) rfl rfl hr
       simp! only[D_law_word,gp,bo hd,bw,gi,a1,a2,a3,a4,ks0,c0,l0,z0,sum_ints,q4,lT,kr,c1,lf,c2,k1,eL]
     ·rw[if_pos q5]
      have l2:=bt_len (μ:=μ) (m:=.z) (au (μ:=μ) (ds:=((List.range b.lamps.length).filter fun(k:Nat)=>decide ((b.lamps.map (·.tank)).getD k 0<lv.getD k 0)).map fun(k:Nat)=>D.int k))
      rw[AD]at l2
      simp! only[D_law_word,gp,bo hd,bw,gi,a1,a2,a3,a4,ks0,c0,l0,z0,sum_ints,q4,lT,kr,c1,lf,c2,l2,Eo q5,eL]
   ·rw[if_pos λz=>q3 z.1]
    have l0:=bt_len (μ:=μ) (m:=.z) (au (μ:=μ) (ds:=(t.poured.filter λx=>decide (x<0)).map D.int))
    rw[AD]at l0
    simp! only[D_law_word,gp,bo hd,bw,gi,a1,a2,a3,a4,ks0,c0,l0,Eo q3,eL]
  ·rw[if_pos q2]
   by_cases z:t.bought<0
   ·simp! only[D_law_word,gp,bo hd,bw,gi,a1,a2,z,eL]
   ·have z2:d.most<t.bought:=CG λy=>q2 ⟨by omega,by omega⟩
    simp! only[D_law_word,gp,bo hd,bw,gi,a1,a2,z,z2,eL]
 ·rw[if_pos q1]
  by_cases z:t.taken<0
  ·simp! only[D_law_word,gp,bo hd,bw,gi,z,eL]
  ·have z2:d.boat<t.taken:=CG λy=>q1 ⟨by omega,by omega⟩
   simp! only[D_law_word,gp,bo hd,bw,gi,z,z2,eL]
end
open PySem
structure Shape (b:Book) (rs:List Tn):Prop where
 lamps:1<=b.lamps.length/\b.lamps.length<=8
 same:rs.length=b.days.length
 few:rs.length<=16
 turn:∀t∈rs,t.poured.length=b.lamps.length/\t.spans.length<=31
 len:∀d∈b.days,1<=d.length
def wordAt (b:Book) (rs:List Tn) (i:Nat):Option Str:=match rs[i]?,b.days[i]? with
 | some t,some d=>Ml b i (held b rs i) t d
 | _,_=>none
theorem p7 {b:Book} {rs:List Tn} {i:Nat} {t:Tn} {d:Day} (h1:rs[i]? = some t) (h2:b.days[i]? = some d):wordAt b rs i=Ml b i (held b rs i) t d:=by rw[wordAt,h1,h2]
theorem U4 {b:Book} {i:Nat} {H:Int×List Int} {t:Tn} {d:Day} {w:Str} (h:Ml b i H t d=some w):¬w=Str.ofString "":=by
 unfold Ml xu at h
 repeat' split at h
 all_goals first
  | (cases h;done)
  | (rw[<-CH h];decide)
section
variable {n : Nat} {μ ρ : Sto} {φ : Phi} {σ : Sl}
theorem zc {α:Type} {tg:Tg} {b:Sms} {en:α->D} {xs:List α} (I:Nat->Sl->Sto->Prop) (W:Nat->Prop) (R:Nat->D->Sto->Prop) (h0:I 0 σ μ)
  (st:∀(k:Nat) a σ μ,xs[k]? = some a->I k σ μ->(¬W k->∃σ' μ',fLp φ tg b (en a) σ μ=.ok (.nx σ') μ'/\I (k+1) σ' μ')/\(W k->∃v μ',fLp φ tg b (en a) σ μ=.ok (.rt v) μ'/\R k v μ')) :
  ((∀k,k<xs.length->¬W k)->∃σ' μ',ue φ tg b σ (xs.map en,none) μ=.ok (.nx σ') μ'/\I xs.length σ' μ') /\
  (∀k,k<xs.length->W k->(∀j,j<k->¬W j)->∃v μ',ue φ tg b σ (xs.map en,none) μ=.ok (.rt v) μ'/\R k v μ'):=by
 refine⟨λh=>jn I h0 λk a σ μ e i=>(st k a σ μ e i).1 (h k (AF.mp e).1),λk hk hw hn=>?_⟩
 obtain⟨fl,μ',e,v,rfl,r⟩:=B7 (g:=none) (f:=fLp φ tg b) (ds:=xs.map en) (σ:=σ) (μ:=μ) (λj σ μ=>j<=k/\I j σ μ) (λfl μ'=>∃v,fl=.rt v/\R k v μ') 0 (λ_ _ _ _=>trivial) ⟨CS _,h0⟩ (by
  rintro j d σ μ e ⟨hj,i⟩
  rw[Nat.zero_add]at hj i ⊢
  rw[AW]at e
  cases ex:xs[j]? with
  | none=>rw[ex]at e;cases e
  | some a =>
   rw[ex]at e
   cases e
   have s:=st j a σ μ ex i
   by_cases q:j=k
   ·subst q
    obtain⟨v,μ',e,r⟩:=s.2 hw
    exact⟨.rt v,μ',e,v,rfl,r⟩
   ·obtain⟨σ',μ',e,i'⟩:=s.1 (hn j (by omega))
    exact⟨.nx σ',μ',e,by omega,i'⟩) (by
  rintro σ μ ⟨h,_⟩
  rw[Nat.zero_add,AD]at h
  omega)
 exact⟨v,μ',e,r⟩
theorem tf (hr:l5 μ) {b:Book} {rs:List Tn} (S:Shape b rs) :
  ((∀k,k<rs.length->wordAt b rs k=none)->ak GL (n+5) ua [cm b,.tup (rs.map eTn)] μ=.ok .non μ) /\
  (∀k w,k<rs.length->wordAt b rs k=some w->(∀j,j<k->wordAt b rs j=none)->ak GL (n+5) ua [cm b,.tup (rs.map eTn)] μ=.ok (.tup [.int k,.str w]) μ):=by
 rw[ao Uj,run_eq rfl]
 have k0:=av (Pc (n:=n+3) (μ:=μ) b) (p5 _) rfl hr
 have ke:kEnum (.tup (rs.map eTn)) μ=.ok (((List.range rs.length).zip rs).map (λp:Nat×Tn=>D.tup [.int p.1,eTn p.2]),none) μ:=by
  simp![kEnum,du,AD]
  congr 2
  apply CA
  intro i
  by_cases hi:i<rs.length
  ·simp[DC,hi]
  ·simp[hi]
 have lp:=zc (φ:=ak GL (n+4)) (μ:=μ) (tg:=.many [3,4]) (b:=qf) (xs:=(List.range rs.length).zip rs) (en:=λp:Nat×Tn=>D.tup [.int p.1,eTn p.2])
  (σ:=[some (cm b),some (.tup (rs.map eTn)),some (c9 (held b rs 0)),none,none,none])
  (λj σ μ'=>μ'=μ/\∃v3 v4 v5,σ=[some (cm b),some (.tup (rs.map eTn)),some (c9 (held b rs j)),v3,v4,v5]) (λk=>¬wordAt b rs k=none) (λk v μ'=>μ'=μ/\∃w,wordAt b rs k=some w/\v=.tup [.int k,.str w]) ⟨rfl,none,none,none,rfl⟩ (by
   rintro j ⟨k,t⟩ σ μ' hj ⟨rfl,v3,v4,v5,rfl⟩
   rw[DC]at hj
   obtain⟨h1,h2⟩:=hj
   obtain⟨rfl,hk3⟩:=xm h1
   have h2:rs[k]? = some t:=h2
   have hd:b.days[k]? = some (b.days[k]'(by rw[<-S.same];exact hk3)):=AB _
   have ht:=S.turn t (BD h2)
   have kd:=av (U3 (n:=n) hr hd (Ek b rs k) ht.1 S.lamps.1 S.lamps.2 ht.2 (S.len _ (BD hd))) (Mm _) rfl hr
   have kb:=av (Mh (n:=n+2) hr b (Ek b rs k) ht.1 S.lamps.2 (by omega)) (p5 _) rfl hr
   rw[<-Co b rs h2]at kb
   rw[<-p7 h2 hd]at kd
   refine⟨λq=>?_,λq=>?_⟩
   ·rw[CQ.mp q,eW]at kd
    have nn:cpD .isnot .non .non μ'=.ok (.bl false) μ':=rfl
    refine⟨_,μ',?_,rfl,some (.int k),some (eTn t),some .non,rfl⟩
    simp! only[fLp,qf,o9,kd,nn,kb]
   ·obtain⟨w,hw⟩:=IG.mp q
    rw[hw,eW]at kd
    have nn:cpD .isnot (.str w) .non μ'=.ok (.bl true) μ':=rfl
    refine⟨_,μ',?_,rfl,w,hw,rfl⟩
    simp! only[fLp,qf,o9,kd,nn])
 have e0:c9 (b.oil,b.lamps.map (·.oil))=c9 (held b rs 0):=rfl
 rw[e0]at k0
 have ll:((List.range rs.length).zip rs).length=rs.length:=by simp
 rw[ll]at lp
 refine⟨λh=>?_,λk w hk hw hn=>?_⟩
 ·obtain⟨σ',μ',e,rfl,v3,v4,v5,rfl⟩:=lp.1 λk hk=>not_not_intro (h k hk)
  simp! only[D_fault,k0,ke,e]
 ·obtain⟨v,μ',e,rfl,w',hw',rfl⟩:=lp.2 k hk (by rw[hw];simp) λj hj=>not_not_intro (hn j hj)
  rw[hw]at hw'
  cases hw'
  simp! only[D_fault,k0,ke,e]
theorem Ct (hr:l5 μ) {b:Book} {rs:List Tn} (S:Shape b rs) :
  ((∀k,k<rs.length->wordAt b rs k=none)->ak GL (n+6) wx [cm b,.tup (rs.map eTn)] μ=.ok (.bl true) μ) /\
  (∀k w,k<rs.length->wordAt b rs k=some w->(∀j,j<k->wordAt b rs j=none)->ak GL (n+6) wx [cm b,.tup (rs.map eTn)] μ=.ok (.bl false) μ):=by
 rw[ao Uk,run_eq rfl]
 refine⟨λh=>?_,λk w hk hw hn=>?_⟩
 ·have nn:cpD .is .non .non μ=.ok (.bl true) μ:=rfl
  simp! only[D_keeps,av ((tf (n:=n) hr S).1 h) rfl rfl hr,nn]
 ·have nn:cpD .is (.tup [.int k,.str w]) .non μ=.ok (.bl false) μ:=rfl
  simp! only[D_keeps,av ((tf (n:=n) hr S).2 k w hk hw hn) rfl rfl hr,nn]
theorem Pl (hr:l5 μ) (hρ:ρ.all noR=true):l5 (μ++ρ):=by
 unfold l5 at hr ⊢
 rw[AN]at hr ⊢
 intro o ho
 rcases CM.mp ho with h | h
 ·have:=hr o h
  cases o with
  | r xs =>
   simp![gc,AN]at this ⊢
   exact λx hx=>ve (by simp) 8 x (this x hx)
  | _=>rfl
 ·exact yw _ o (AN.mp hρ o h)
theorem Ms {xs:List Int} {k:Nat} {v:Int} (hk:k<xs.length):ur (.loc μ.length) (.int k) (.int v) (μ++[.l (xs.map D.int)])=.ok () (μ++[.l ((xs.set k v).map D.int)]):=by
 have e:ixN (xs.map D.int).length (k:Int)=some k:=Rr (by simpa using hk)
 simp![ur,iq,gj,e,fits,u9,if_true,putL,vd,Res.bg,HX]
theorem Ys {k:Nat} {ds:List D} {d:D} (h:μ[k]? = some (.l ds)) (hd:d.pure=true) (hl:ds.length<1000000):mtD .append (.loc k) [d] μ=.ok .non (μ.set k (.l (ds++[d]))):=by
 have:ds.length<lim:=by unfold lim;omega
 simp![mtD,tq,h,gj,mtL,ff,fits,hd,this,and_self,if_true,putL]
theorem aat {k:Nat} {ds:List D} {es:Exs} (h:μ[k]? = some (.l ds)):kM φ .append es σ (.loc k) μ=(jh φ es σ μ).bind (mtD .append (.loc k)):=D8 (by simp![jb,Lp.listOf,h];rfl)
def yc (L:Nat) (lv:List Int) (ss:List Span):List Int:=(List.range L).map fun(k:Nat)=>lv.getD k 0-ay ss k
theorem Mu {L:Nat} {lv:List Int} {ss:List Span} {s:Span} {K:Nat} (hK:(K:Int)=s.lamp) (hL:K<L):(yc L lv ss).set K ((yc L lv ss).getD K 0-(s.fin-s.start))=yc L lv (ss++[s]):=by
 apply CA
 intro i
 by_cases hi:i<L
 ·by_cases h:i=K
  ·subst h
   simp![yc,y0,List.getElem?_set_self',xp hL]
   simp[hi,hK]
   omega
  ·have h':¬s.lamp=(i:Int):=by omega
   rw[BR (λz=>h z.symm)]
   simp[yc,y0,hi,h']
 ·rw[AZ (by simp[yc];omega),AZ (by simp[yc];omega)]
theorem Pm (L:Nat) (lv:List Int) (h:lv.length=L):yc L lv []=lv:=by
 apply CA
 intro i
 by_cases hi:i<L
 ·simp[yc,ay,hi,h]
 ·rw[AZ (by simp[yc];omega),AZ (by omega)]
end
open PySem
theorem Mv {b:Book} {i:Nat} {H:Int×List Int} {t:Tn} {d:Day} (h:Ml b i H t d=none):su d.length b.lamps.length t.spans:=by
 refine CG λz=>?_
 unfold Ml xu at h
 rw[if_pos z]at h
 repeat' split at h
 all_goals cases h
theorem Mw (st:Int) (L:Nat) (H:Int×List Int) (t:Tn):(fb st L H t).2=yc L (p6 L H.2 t.poured) t.spans:=by
 unfold fb yc p6
 refine CF λk hk=>?_
 rw[xp (CO.mp hk)]
section
variable {n : Nat} {μ ρ : Sto} {φ : Phi} {σ : Sl}
theorem Gp (hr:l5 μ) {b:Book} {rs:List Tn} (S:Shape b rs) :
  ((∀k,k<rs.length->wordAt b rs k=none)->∃ρ,ak GL (n+3) jd [cm b,.tup (rs.map eTn)] μ=.ok (.tup [.non,.lst ((evs b rs).map c9)]) (μ++ρ)) /\
  (∀k w,k<rs.length->wordAt b rs k=some w->(∀j,j<k->wordAt b rs j=none)->∃(hs:List (Int×List Int)) (ρ:Sto),ak GL (n+3) jd [cm b,.tup (rs.map eTn)] μ=.ok (.tup [.tup [.int k,.str w],.lst (hs.map c9)]) (μ++ρ)):=by
 rw[ao B6,run_eq rfl]
 have c0:=comp_map (m:=.l) (μ:=μ) (φ:=ak GL (n+2)) (tg:=.one 0) (cs:=.nil) (elt:=lr) (σ0:=[none]) (xs:=b.lamps) (en:=d5) (g:=λl=>D.int l.oil) (by
  intro l _
  have i1:∀ν:Sto,ixD (d5 l) (.int 1) ν=.ok (.int l.oil) ν:=λ_=>rfl
  simp! only[iu,lr,i1])
 rw[show b.lamps.map (λl=>D.int l.oil)=(b.lamps.map (·.oil)).map D.int by rw[AY];rfl,Cb (Eh _)]at c0
 have hν:l5 (μ++[O.l ((b.lamps.map (·.oil)).map D.int)]):=Cc hr _
 have hq0:∀x:O,(μ++[O.l ((b.lamps.map (·.oil)).map D.int)]++[x])[μ.length]? = some (.l ((held b rs 0).2.map D.int)):=λx=>by simp[held]
 have m1:mkL .l [] (μ++[O.l ((b.lamps.map (·.oil)).map D.int)])=.ok (.loc (μ++[O.l ((b.lamps.map (·.oil)).map D.int)]).length) (μ++[O.l ((b.lamps.map (·.oil)).map D.int)]++[.l []]):=Cb rfl
 have e0:∀ρ:Sto,∃ρ':Sto,μ++[O.l ((b.lamps.map (·.oil)).map D.int)]++ρ=μ++ρ':=λρ=>⟨_,Da _ _ _⟩
 generalize μ++[O.l ((b.lamps.map (·.oil)).map D.int)]=ν at *
 have lp:=zc (φ:=ak GL (n+2)) (μ:=ν++[.l []]) (tg:=.one 5) (b:=ik) (xs:=List.range rs.length) (en:=fun(k:Nat)=>D.int k)
  (σ:=[some (cm b),some (.tup (rs.map eTn)),some (.int b.oil),some (.loc μ.length),some (.loc ν.length),none,none,none,none,none,none,none,none,none])
  (λj σ μ'=>∃(ρ:Sto) (q:Nat) (v:Nat->Option D),ρ.all noR=true/\(∀x:O,(ν++x::ρ)[q]? = some (.l ((held b rs j).2.map D.int)))/\μ'=ν++O.l (((List.range j).map λi=>held b rs (i+1)).map c9)::ρ /\
   σ=[some (cm b),some (.tup (rs.map eTn)),some (.int (held b rs j).1),some (.loc q),some (.loc ν.length),v 5,v 6,v 7,v 8,v 9,v 10,v 11,v 12,v 13])
  (λk=>¬wordAt b rs k=none) (λk v μ'=>∃(w:Str) (hs:List (Int×List Int)) (ρ:Sto),wordAt b rs k=some w/\v=.tup [.tup [.int k,.str w],.lst (hs.map c9)]/\μ'=ν++ρ)
  ⟨[],μ.length,λ_=>none,rfl,hq0,rfl,rfl⟩ (by
   rintro j k σ μ' hj ⟨ρ,q,v,hρ,hq,rfl,rfl⟩
   obtain⟨rfl,hk⟩:=xm hj
   have h2:rs[k]? = some rs[k]:=AB hk
   obtain⟨d,hd⟩:∃d,b.days[k]? = some d:=⟨_,AB (by rw[<-S.same];exact hk)⟩
   generalize rs[k]=t at *
   have ht:=S.turn t (BD h2)
   have h1:=S.len _ (BD hd)
   have H:=Ek b rs k
   have hx:=hq (.l (((List.range k).map λi=>held b rs (i+1)).map c9))
   have hS:l5 (ν++O.l (((List.range k).map λi=>held b rs (i+1)).map c9)::ρ):=Pl hν (by rw[BB,hρ];rfl)
   have hT:cv (ν++O.l (((List.range k).map λi=>held b rs (i+1)).map c9)::ρ) (.loc q)=some ((held b rs k).2.map D.int):=by simp![cv,hx]
   have kw:=av (Pk (n:=n) hS hT hd H ht.1 S.lamps.2 ht.2 h1) (U2 _) rfl hS
   rw[<-p7 h2 hd]at kw
   have hh:(ν++O.l (((List.range k).map λi=>held b rs (i+1)).map c9)::ρ)[ν.length]? = some (.l (((List.range k).map λi=>held b rs (i+1)).map c9)):=by simp
   have hsl:∀o:O,(ν++O.l (((List.range k).map λi=>held b rs (i+1)).map c9)::ρ).set ν.length o=ν++o::ρ:=λo=>by simp
   have hql:∀y:O,(ν++O.l (((List.range k).map λi=>held b rs (i+1)).map c9)::ρ++[y]).set ν.length=λo=>ν++o::(ρ++[y]):=λy=>by funext o;simp
   have hhl:∀y:O,(ν++O.l (((List.range k).map λi=>held b rs (i+1)).map c9)::ρ++[y])[ν.length]? = some (.l (((List.range k).map λi=>held b rs (i+1)).map c9)):=λy=>by simp
   have hnw:∀x y:O,(ν++x::(ρ++[y]))[(ν++O.l (((List.range k).map λi=>held b rs (i+1)).map c9)::ρ).length]? = some y:=λx y=>by
    rw[show ν++x::(ρ++[y])=(ν++x::ρ)++[y]by simp,show(ν++O.l (((List.range k).map λi=>held b rs (i+1)).map c9)::ρ).length=(ν++x::ρ).length by simp]
    exact iq
   generalize ehs:(List.range k).map (λi=>held b rs (i+1))=hs at *
   refine⟨λz=>?_,λz=>?_⟩
   ·have hw:=CQ.mp z
    have sp:=Mv (by rw[<-p7 h2 hd];exact hw)
    rw[hw,eL]at kw
    have ne0:cpD .ne (.str (Str.ofString "")) (.str (Str.ofString "")) (ν++O.l (hs.map c9)::ρ)=.ok (.bl false) (ν++O.l (hs.map c9)::ρ):=by rw[Ow rfl rfl];simp[deq]
    generalize eN:ν++O.l (hs.map c9)::ρ=N at *
    have lT:btD .len .z [.loc q] N=.ok (.int b.lamps.length) N:=by rw[bt_len hT,AD,H]
    generalize hHH:held b rs k=HH at *
    have c1:=comp_map (m:=.l) (μ:=N) (φ:=ak GL (n+2)) (tg:=.one 2) (cs:=.nil) (elt:=ly) (σ0:=[some (.loc q),some (cw t.poured),none]) (xs:=List.range b.lamps.length) (en:=fun(k:Nat)=>D.int k) (g:=λk=>D.int (HH.2.getD k 0+t.poured.getD k 0)) (by
     intro j hj
     have hj':j<b.lamps.length:=CO.mp hj
     simp! only[iu,ly,qu hT (show j<HH.2.length by omega),qu (x:=cw t.poured) (μ:=N) rfl (show j<t.poured.length by omega)])
    rw[show(List.range b.lamps.length).map (λk=>D.int (HH.2.getD k 0+t.poured.getD k 0))=(p6 b.lamps.length HH.2 t.poured).map D.int by rw[p6,AY];rfl,Cb (Eh _)]at c1
    have hll:=sv b.lamps.length HH.2 t.poured
    have hst:=Mw b.store b.lamps.length HH t
    have hst1:(fb b.store b.lamps.length HH t).1=min b.store (HH.1+t.taken+t.bought-t.poured.sum):=Int.min_comm _ _
    generalize p6 b.lamps.length HH.2 t.poured=lv at *
    obtain⟨σ2,μ2,e2,rfl,a,b',c',rfl⟩:=jn (φ:=ak GL (n+2)) (μ:=N++[.l (lv.map D.int)]) (tg:=.many [11,12,13]) (b:=l4) (xs:=t.spans) (en:=eSpan)
     (σ:=[some (cm b),some (.tup (rs.map eTn)),some (.int (min b.store (HH.1+t.taken+t.bought-t.poured.sum))),some (.loc N.length),some (.loc ν.length),some (.int k),some (.str (Str.ofString "")),some (.int t.taken),some (.int t.bought),some (cw t.poured),some (.tup (t.spans.map eSpan)),v 11,v 12,v 13])
     (λj σ μ'=>μ'=N++[.l ((yc b.lamps.length lv (t.spans.take j)).map D.int)]/\∃a b' c',σ=[some (cm b),some (.tup (rs.map eTn)),some (.int (min b.store (HH.1+t.taken+t.bought-t.poured.sum))),some (.loc N.length),some (.loc ν.length),some (.int k),some (.str (Str.ofString "")),some (.int t.taken),some (.int t.bought),some (cw t.poured),some (.tup (t.spans.map eSpan)),a,b',c'])
     ⟨by rw[List.take_zero,Pm _ _ hll],_,_,_,rfl⟩ (by
      rintro j s σ μ' hs ⟨rfl,a,b',c',rfl⟩
      have g:=(sp.1 s (BD hs)).lamp
      obtain⟨K,hK⟩:∃K:Nat,(K:Int)=s.lamp:=⟨s.lamp.toNat,by omega⟩
      have hK2:K<(yc b.lamps.length lv (t.spans.take j)).length:=by simp[yc];omega
      have ub:∀σ:Sl,gf (.many [11,12,13]) (eSpan s) σ=some (((σ.set 11 (some (.int s.lamp))).set 12 (some (.int s.start))).set 13 (some (.int s.fin))):=λ_=>rfl
      have i1:ixD (.loc N.length) (.int s.lamp) (N++[.l ((yc b.lamps.length lv (t.spans.take j)).map D.int)])=.ok (.int ((yc b.lamps.length lv (t.spans.take j)).getD K 0)) (N++[.l ((yc b.lamps.length lv (t.spans.take j)).map D.int)]):=by
       rw[<-hK];exact qu Fw hK2
      have i2:ur (.loc N.length) (.int s.lamp) (.int ((yc b.lamps.length lv (t.spans.take j)).getD K 0-(s.fin-s.start))) (N++[.l ((yc b.lamps.length lv (t.spans.take j)).map D.int)])=.ok () (N++[.l ((yc b.lamps.length lv (t.spans.take (j+1))).map D.int)]):=by
       have et:t.spans.take (j+1)=t.spans.take j++[s]:=by rw[DQ,hs];rfl
       rw[et,<-Mu hK (by omega),<-hK]
       exact Ms hK2
      refine⟨_,_,?_,rfl,some (.int s.lamp),some (.int s.start),some (.int s.fin),rfl⟩
      simp! only[fLp,ub,l4,i1,i2])
    rw[BY (AI _),<-hst]at e2
    have e3:=Co b rs h2
    have hnx:held b rs (k+1)=fb b.store b.lamps.length HH t:=by rw[e3,hHH]
    have ap:=Ys (μ:=N++[.l ((fb b.store b.lamps.length HH t).2.map D.int)]) (d:=c9 (fb b.store b.lamps.length HH t)) (hhl _) (p5 _) (by rw[AD,<-ehs,AD,DE];have:=S.few;omega)
    rw[hql]at ap
    have ap':mtD .append (.loc ν.length) [.tup [.int (min b.store (HH.1+t.taken+t.bought-t.poured.sum)),.tup ((fb b.store b.lamps.length HH t).2.map D.int)]] (N++[.l ((fb b.store b.lamps.length HH t).2.map D.int)])=.ok .non (ν++O.l (hs.map c9++[c9 (fb b.store b.lamps.length HH t)])::(ρ++[.l ((fb b.store b.lamps.length HH t).2.map D.int)])):=by
     rw[<-hst1];exact ap
    have km:∀(es:Exs) (σ:Sl),kM (ak GL (n+2)) .append es σ (.loc ν.length) (N++[.l ((fb b.store b.lamps.length HH t).2.map D.int)])=_:=λes σ=>aat (hhl _)
    have i0:∀μ:Sto,ixD (cm b) (.int 0) μ=.ok (.int b.store) μ:=λ_=>rfl
    have bt:=bt_tuple (m:=.z) (Fw (μ:=N) (ds:=(fb b.store b.lamps.length HH t).2.map D.int))
    refine⟨[some (cm b),some (.tup (rs.map eTn)),some (.int (min b.store (HH.1+t.taken+t.bought-t.poured.sum))),some (.loc N.length),some (.loc ν.length),some (.int k),some (.str (Str.ofString "")),some (.int t.taken),some (.int t.bought),some (cw t.poured),some (.tup (t.spans.map eSpan)),a,b',c'],ν++O.l (hs.map c9++[c9 (fb b.store b.lamps.length HH t)])::(ρ++[.l ((fb b.store b.lamps.length HH t).2.map D.int)]),?_,ρ++[.l ((fb b.store b.lamps.length HH t).2.map D.int)],N.length,λi=>[none,none,none,none,none,some (.int k),some (.str (Str.ofString "")),some (.int t.taken),some (.int t.bought),some (cw t.poured),some (.tup (t.spans.map eSpan)),a,b',c'].getD i none,Uz hρ _,?_,?_,?_⟩
    ·simp! only[fLp,ik,bo h2,kw,ne0,gi,i0,sum_ints,lT,dz (show b.lamps.length<=1000000 by have:=S.lamps;omega),c1,e2,km,bt,ap']
    ·intro x;rw[hnx];exact hnw x _
    ·rw[List.range_succ,BX,BX,ehs,<-hnx];rfl
    ·rw[hnx,hst1];rfl
   ·obtain⟨w,hw⟩:=IG.mp z
    rw[hw,eL]at kw
    have ne1:cpD .ne (.str w) (.str (Str.ofString "")) (ν++O.l (hs.map c9)::ρ)=.ok (.bl true) (ν++O.l (hs.map c9)::ρ):=by
     have:=U4 (by rw[<-p7 h2 hd];exact hw)
     rw[Ow rfl rfl];simp[deq,this]
    have fz:evE (ak GL (n+2)) (.frz 4) [some (cm b),some (.tup (rs.map eTn)),some (.int (held b rs k).1),some (.loc q),some (.loc ν.length),some (.int k),some (.str w),v 7,v 8,v 9,v 10,v 11,v 12,v 13] (ν++O.l (hs.map c9)::ρ)=.ok (.lst (hs.map c9)) (ν++.dead::ρ):=by
     rw[Yo rfl hh,hsl]
    refine⟨_,_,?_,w,hs,.dead::ρ,hw,rfl,rfl⟩
    simp! only[fLp,ik,bo h2,kw,ne1,fz])
 rw[DE]at lp
 refine⟨λh=>?_,λk w hk hw hn=>?_⟩
 ·obtain⟨σ',μ',e,ρ,q,v,hρ,hq,rfl,rfl⟩:=lp.1 λk hk=>not_not_intro (h k hk)
  have hh:(ν++O.l (((List.range rs.length).map λi=>held b rs (i+1)).map c9)::ρ)[ν.length]? = some (.l (((List.range rs.length).map λi=>held b rs (i+1)).map c9)):=by simp
  have fz:evE (ak GL (n+2)) (.frz 4) [some (cm b),some (.tup (rs.map eTn)),some (.int (held b rs rs.length).1),some (.loc q),some (.loc ν.length),v 5,v 6,v 7,v 8,v 9,v 10,v 11,v 12,v 13] (ν++O.l (((List.range rs.length).map λi=>held b rs (i+1)).map c9)::ρ)=.ok (.lst ((evs b rs).map c9)) (ν++.dead::ρ):=by
   rw[Yo rfl hh];simp[evs]
  obtain⟨ρ',er⟩:=e0 (.dead::ρ)
  refine⟨ρ',?_⟩
  rw[<-er]
  have i1:ixD (cm b) (.int 1) μ=.ok (.int b.oil) μ:=rfl
  simp! only[D_law_walk_2,i1,pf,c0,m1,bt_len a9,AD,dz (show rs.length<=1000000 by have:=S.few;omega),e,fz]
 ·obtain⟨v,μ',e,w',hs,ρ,hw',rfl,rfl⟩:=lp.2 k hk (by rw[hw];simp) λj hj=>not_not_intro (hn j hj)
  rw[hw]at hw'
  cases hw'
  obtain⟨ρ',er⟩:=e0 ρ
  refine⟨hs,ρ',?_⟩
  rw[<-er]
  have i1:ixD (cm b) (.int 1) μ=.ok (.int b.oil) μ:=rfl
  simp! only[D_law_walk_2,i1,pf,c0,m1,bt_len a9,AD,dz (show rs.length<=1000000 by have:=S.few;omega),e]
end
open PySem
theorem Ij {b:Book} {rs:List Tn} (hk:Kept b rs):Shape b rs/\∀k,k<rs.length->wordAt b rs k=none:=by
 have day:∀(i:Nat) (h:i<rs.length),∃d,b.days[i]? = some d/\abw b i (held b rs i) rs[i] d:=λi h=>by
  have h2:i<b.days.length:=by rw[<-hk.same];exact h
  exact⟨b.days[i],AB h2,hk.day i _ _ (AB h) (AB h2)⟩
 refine⟨⟨hk.lamps,hk.same,hk.few,λt ht=>?_,λd hd=>?_⟩,λk h=>?_⟩
 ·obtain⟨i,hi,rfl⟩:=BS.mp ht
  obtain⟨d,_,D⟩:=day i hi
  exact⟨D.pl,CL D.few (by decide)⟩
 ·obtain⟨i,hi,rfl⟩:=BS.mp hd
  obtain⟨d,e,D⟩:=day i (by rw[hk.same];exact hi)
  rw[AB hi]at e
  cases e
  exact D.len
 ·obtain⟨d,e,D⟩:=day k h
  rw[p7 (AB h) e]
  unfold Ml xu
  have g:∀s∈rs[k].spans,Good d.length 0 b.lamps.length s:=λs hs=>(D.good s hs).1
  have tk:Gn b (p6 b.lamps.length (held b rs k).2 rs[k].poured):=λj hj=>by
   have:=D.tank j (CO.mp hj)
   rw[p6,xp (CO.mp hj)];omega
  have ol:Ph b.lamps.length (p6 b.lamps.length (held b rs k).2 rs[k].poured) rs[k].spans:=λj hj=>by
   have:=D.oil j (CO.mp hj)
   rw[p6,xp (CO.mp hj)];omega
  have pr:(∀x∈rs[k].poured,¬x<0)/\¬(held b rs k).1+rs[k].taken+rs[k].bought<rs[k].poured.sum:=⟨λx hx=>by have:=D.p0 x hx;omega,by have:=D.ps;omega⟩
  have awo:Gm b k rs[k].spans:=λs hs=>(D.good s hs).2
  have lit:Lit d.length d.wanted rs[k].spans:=D.cov
  have spo:su d.length b.lamps.length rs[k].spans:=⟨g,D.nb⟩
  rw[if_neg (not_not_intro D.tk),if_neg (not_not_intro D.bt),if_neg (not_not_intro pr),if_neg (not_not_intro tk),if_neg (not_not_intro spo),if_neg (not_not_intro awo),if_neg (not_not_intro ol),if_neg (not_not_intro lit)]
open PySem
section
variable {n : Nat} {μ ρ : Sto} {φ : Phi} {σ : Sl}
theorem Mx:ak GL (n+2) fk [.non,.non] μ=.ok (.bl true) μ:=by
 rw[ao o3,run_eq rfl]
 have nn:cpD .is .non .non μ=.ok (.bl true) μ:=rfl
 simp! only[D_law_same_fault,nn]
theorem My (hr:l5 μ) (k:Nat) (w:Str):ak GL (n+2) fk [.tup [.int k,.str w],.tup [.int k,.str w]] μ=.ok (.bl true) μ:=by
 rw[ao o3,run_eq rfl]
 have nn:cpD .is (.tup [.int k,.str w]) .non μ=.ok (.bl false) μ:=rfl
 have it:Qb .tuple (.tup [.int k,.str w]) μ=.ok (.bl true) μ:=rfl
 have l2:btD .len .z [.tup [.int k,.str w]] μ=.ok (.int 2) μ:=rfl
 have i0:ixD (.tup [.int k,.str w]) (.int 0) μ=.ok (.int k) μ:=rfl
 have i1:ixD (.tup [.int k,.str w]) (.int 1) μ=.ok (.str w) μ:=rfl
 have is:Qb .str (.str w) μ=.ok (.bl true) μ:=rfl
 have eq:cpD .eq (.tup [.int k,.str w]) (.tup [.int k,.str w]) μ=.ok (.bl true) μ:=by rw[aao rfl rfl,Am 8 _ rfl]
 simp! only[D_law_same_fault,nn,it,l2,i0,av (Oy (n:=n) (μ:=μ) k) rfl rfl hr,i1,is,eq]
end
open PySem
def lS (s:Span):List D:=[.int s.lamp,.int s.start,.int s.fin]
def lO (s:Span):O:=.l (lS s)
abbrev lcs (ps:List (Nat×Span)):List D:=ps.map λp=>D.loc p.1
structure Rw (μ0 μ:Sto) (a:Nat) (ps:List (Nat×Span)):Prop where
 pre:∃ρ,μ=μ0++ρ
 la:μ0.length<=a
 lo:∀p∈ps,μ0.length<=p.1
 out:μ[a]? = some (.r (lcs ps))
 ats:∀p∈ps,μ[p.1]? = some (lO p.2)
 nd:(ps.map (·.1)).Nodup
 shut:l5 μ
theorem Mz (s:Span):(lS s).all (D.pureN 8)=true:=rfl
theorem Ep {μ0 μ:Sto} {i:Nat} {o:O} (h:∃ρ,μ=μ0++ρ) (hi:μ0.length<=i):∃ρ,μ.set i o=μ0++ρ:=by
 obtain⟨ρ,rfl⟩:=h
 exact⟨ρ.set (i-μ0.length) o,by rw[KE _ _ hi]⟩
section
variable {n : Nat} {μ μ0 : Sto} {φ : Phi} {a : Nat} {ps : List (Nat × Span)}
theorem Rw.ne (h:Rw μ0 μ a ps) {l:Nat} {s:Span} (e:μ[l]? = some (lO s)):l≠a:=λz=>by
 subst z
 rw[h.out]at e
 cases e
theorem Rw.put (h:Rw μ0 μ a ps) {qs:List (Nat×Span)} (h1:∀p∈qs,μ0.length<=p.1/\μ[p.1]? = some (lO p.2)) (h2:(qs.map (·.1)).Nodup):Rw μ0 (μ.set a (.r (lcs qs))) a qs where
 pre:=Ep h.pre h.la
 la:=h.la
 lo:=λp hp=>(h1 p hp).1
 out:=by rw[CT (AF.mp h.out).1]
 ats:=λp hp=>by rw[BR (h.ne (h1 p hp).2).symm];exact(h1 p hp).2
 nd:=h2
 shut:=Fz h.shut (by
  simp![gc,DA,AN]
  intro p hp
  simpa[D.belowN]using(AF.mp (h1 p hp).2).1)
theorem Rw.push (h:Rw μ0 μ a ps) (s:Span):Rw μ0 (μ++[lO s]) a ps where
 pre:=by obtain⟨ρ,e⟩:=h.pre;exact⟨ρ++[lO s],by rw[e,Da]⟩
 la:=h.la
 lo:=h.lo
 out:=by rw[AV (AF.mp h.out).1];exact h.out
 ats:=λp hp=>by rw[AV (AF.mp (h.ats p hp)).1];exact h.ats p hp
 nd:=h.nd
 shut:=Cc h.shut _
theorem Rw.sz (h:Rw μ0 μ a ps):μ0.length<=μ.length:=by obtain⟨ρ,e⟩:=h.pre;rw[e];simp
theorem Rw.new (h:Rw μ0 μ a ps):μ.length∉ps.map (·.1):=λhm=>by
 obtain⟨p,hp,e⟩:=AU.mp hm
 have:=(AF.mp (h.ats p hp)).1
 lia
theorem Rw.seq (h:Rw μ0 μ a ps):cv μ (.loc a)=some (lcs ps):=by simp![cv,h.out]
theorem Rw.kseq (h:Rw μ0 μ a ps):kSeq (.loc a) μ=.ok (lcs ps,some (a,.r (lcs ps))) μ:=by simp![kSeq,du,h.out]
theorem Rw.len (h:Rw μ0 μ a ps):btD .len .z [.loc a] μ=.ok (.int ps.length) μ:=by rw[bt_len h.seq,AD]
theorem Rw.ix (h:Rw μ0 μ a ps) {k:Nat} {p:Nat×Span} (e:ps[k]? = some p):ixD (.loc a) (.int k) μ=.ok (.loc p.1) μ:=uo h.seq (by rw[AW,e];rfl)
theorem Cu {l:Nat} {s:Span} (e:μ[l]? = some (lO s)):cv μ (.loc l)=some (lS s):=by simp![cv,e,lO]
theorem at0 {l:Nat} {s:Span} (e:μ[l]? = some (lO s)):ixD (.loc l) (.int 0) μ=.ok (.int s.lamp) μ:=yx (Cu e) (by decide) rfl
theorem at1 {l:Nat} {s:Span} (e:μ[l]? = some (lO s)):ixD (.loc l) (.int 1) μ=.ok (.int s.start) μ:=yx (Cu e) (by decide) rfl
theorem at2 {l:Nat} {s:Span} (e:μ[l]? = some (lO s)):ixD (.loc l) (.int 2) μ=.ok (.int s.fin) μ:=yx (Cu e) (by decide) rfl
theorem M1 {g:Gd} (hg:gd g μ) {ds:List D} {ss:List Span} (h:∀(i:Nat) d,ds[i]? = some d->∃s,ss[i]? = some s/\cv μ d=some (lS s)) (hl:ds.length=ss.length):gy φ .z (.one 0) .nil (.blt .tuple .z (.cons (.var 0) .nil)) [none] (ds,g) μ=.ok (.lst (ss.map eSpan)) μ:=by
 have e:mapR g (iu φ (.one 0) .nil (.blt .tuple .z (.cons (.var 0) .nil)) [none]) ds μ=.ok (ss.map eSpan) μ:=by
  induction ds generalizing ss with
  | nil =>
   have:ss=[]:=EY.mp hl.symm
   subst this
   simp[mapR,hg]
  | cons d r ih =>
   cases ss with
   | nil=>simp at hl
   | cons s q =>
    obtain⟨s',e1,e2⟩:=h 0 d rfl
    simp![EB,BN]at e1
    subst e1
    have e3:iu φ (.one 0) .nil (.blt .tuple .z (.cons (.var 0) .nil)) [none] d μ=.ok [eSpan s] μ:=by
     simp! only[iu,bt_tuple e2,lS,eSpan]
    have:=ih (ss:=q) (λi d' hd=>by simpa using h (i+1) d' (by simpa using hd)) (by simpa using hl)
    simp![mapR,hg,if_true,e3,Res.bg,this,AR]
    rfl
 rw[gy]
 show(mapR g _ ds μ).bind _=_
 rw[e]
 rfl
theorem Rw.tuples (h:Rw μ0 μ a ps):gy φ .z (.one 0) .nil (.blt .tuple .z (.cons (.var 0) .nil)) [none] (lcs ps,some (a,.r (lcs ps))) μ=.ok (.lst ((ps.map (·.2)).map eSpan)) μ :=
 M1 (show gd (some (a,.r (lcs ps))) μ from h.out) (λi d hd=>by
  rw[AW]at hd
  obtain⟨p,hp,rfl⟩:=ED.mp hd
  exact⟨p.2,by rw[AW,hp];rfl,Cu (h.ats p (BD hp))⟩) (by simp)
theorem Rw.app (h:Rw μ0 μ a ps) (s:Span) (hn:ps.length<1000000):mtD .append (.loc a) [.loc μ.length] (μ++[lO s])=.ok .non ((μ++[lO s]).set a (.r (lcs (ps++[(μ.length,s)]))))/\Rw μ0 ((μ++[lO s]).set a (.r (lcs (ps++[(μ.length,s)])))) a (ps++[(μ.length,s)]):=by
 have hp:=h.push s
 have:=ny
 refine⟨?_,hp.put (λp hm=>?_) ?_⟩
 ·simp![mtD,tq,hp.out,gj,mtL,ff,fits,putL]
  rw[if_pos ⟨trivial,by rw[AD];lia⟩]
  simp[lcs]
 ·rcases CM.mp hm with q | q
  ·exact⟨hp.lo p q,hp.ats p q⟩
  ·rw[CV.mp q]
   exact⟨h.sz,iq⟩
 ·rw[BX,IL]
  refine⟨h.nd,by simp,λx hx y hy=>?_⟩
  have:y=μ.length:=by simpa using hy
  subst this
  rintro rfl
  exact h.new hx
theorem Rw.ins (h:Rw μ0 μ a ps) (s:Span) {k:Nat} (hk:k<=ps.length) (hn:ps.length<1000000):∃μ',mtD .insert (.loc a) [.int k,.loc μ.length] (μ++[lO s])=.ok .non μ'/\Rw μ0 μ' a (ps.take k++(μ.length,s)::ps.drop k):=by
 have hp:=h.push s
 have:=ny
 refine⟨_,?_,hp.put (qs:=ps.take k++(μ.length,s)::ps.drop k) (λp hm=>?_) ?_⟩
 ·simp![mtD,tq,hp.out,gj,mtL,fits,putL]
  rw[if_pos ⟨by lia,by rw[AD];lia,trivial,by rw[AD];lia⟩]
  simp[lcs,IW,KJ]
 ·rcases CM.mp hm with q | q
  ·exact⟨hp.lo p (List.mem_of_mem_take q),hp.ats p (List.mem_of_mem_take q)⟩
  ·rcases AL.mp q with rfl | q
   ·exact⟨h.sz,iq⟩
   ·exact⟨hp.lo p (List.mem_of_mem_drop q),hp.ats p (List.mem_of_mem_drop q)⟩
 ·have pm:(ps.take k++(μ.length,s)::ps.drop k).Perm ((μ.length,s)::ps):=by
   refine List.perm_middle.trans ?_
   rw[List.take_append_drop]
  rw[(pm.map (·.1)).nodup_iff,AR,DS]
  exact⟨h.new,h.nd⟩
theorem Rw.rev (h:Rw μ0 μ a ps):∃μ',mtD .reverse (.loc a) [] μ=.ok .non μ'/\Rw μ0 μ' a ps.reverse:=by
 refine⟨_,?_,h.put (qs:=ps.reverse) (λp hm=>⟨h.lo p (List.mem_reverse.mp hm),h.ats p (List.mem_reverse.mp hm)⟩) (by rw[HF];exact(List.reverse_perm _).nodup_iff.mpr h.nd)⟩
 simp![mtD,tq,h.out,gj,mtL,putL,lcs,HF]
theorem Gq {l:Nat} {s:Span} (e:μ[l]? = some (lO s)):bx μ 8 (.loc l)=some (.lst (lS s)):=by
 rw[bx,e]
 rfl
theorem zd {α:Type} {f:α->Option D} {g:α->D}:∀{l:List α},(∀x∈l,f x=some (g x))->cj (l.map f)=some (l.map g)
 | [],_=>rfl
 | x::r,h=>by
  rw[AR,h x AQ,cj,zd λy hy=>h y (AH _ hy)]
  rfl
theorem x5 {α β:Type} (f:α->β):∀(l:List α) (j:Nat),(l.map f).eraseIdx j=(l.eraseIdx j).map f
 | [],_=>rfl
 | _::_,0=>rfl
 | x::r,j+1=>by simp[x5 f r j]
theorem Rw.rem (h:Rw μ0 μ a ps) {p:Nat×Span} (hp:p∈ps):∃μ' j,mtD .remove (.loc a) [.loc p.1] μ=.ok .non μ'/\Rw μ0 μ' a (ps.eraseIdx j):=by
 have o1:cj ((lcs ps).map (bx μ 8))=some (ps.map λp=>.lst (lS p.2)):=by
  rw[AY]
  exact zd λq hq=>Gq (h.ats q hq)
 have o2:=Gq (h.ats p hp)
 have fi:∃j,(ps.map λp=>D.lst (lS p.2)).findIdx? (λx=>deq x (.lst (lS p.2)))=some j:=by
  have:((ps.map λp=>D.lst (lS p.2)).findIdx? (λx=>deq x (.lst (lS p.2)))).isSome=true:=by
   rw[List.findIdx?_isSome,DM]
   exact⟨_,AU.mpr ⟨p,hp,rfl⟩,by simp[deq,G6,lS]⟩
  exact DZ.mp this
 obtain⟨j,fj⟩:=fi
 refine⟨_,j,?_,h.put (qs:=ps.eraseIdx j) (λq hq=>?_) ?_⟩
 ·simp![mtD,tq,h.out,gj,mtL,ff,o1,o2,fj,putL,lcs,x5]
 ·have:=List.mem_of_mem_eraseIdx hq
  exact⟨h.lo q this,h.ats q this⟩
 ·rw[<-x5]
  exact h.nd.sublist (List.eraseIdx_sublist _ _)
theorem Rw.upd (h:Rw μ0 μ a ps) {p:Nat×Span} (hp:p∈ps) (s:Span):Rw μ0 (μ.set p.1 (lO s)) a (ps.map λq=>if q.1=p.1 then(q.1,s)else q):=by
 have ha:=h.ats p hp
 have hlt:=(AF.mp ha).1
 have e1:∀q:Nat×Span,(if q.1=p.1 then(q.1,s)else q).1=q.1:=λq=>by split<;>rfl
 have e2:(ps.map λq=>if q.1=p.1 then(q.1,s)else q).map (·.1)=ps.map (·.1):=by
  rw[AY]
  exact CF λq _=>e1 q
 refine⟨Ep h.pre (h.lo p hp),h.la,λq hq=>?_,?_,λq hq=>?_,by rw[e2];exact h.nd,Fz h.shut rfl⟩
 ·obtain⟨r,hr,rfl⟩:=AU.mp hq
  rw[e1];exact h.lo r hr
 ·rw[BR (h.ne ha),h.out]
  have:lcs (ps.map λq=>if q.1=p.1 then(q.1,s)else q)=lcs ps:=by
   show(ps.map _).map _=_
   rw[AY]
   exact CF λq _=>by show D.loc _=_;rw[e1]
  rw[this]
 ·obtain⟨r,hr,rfl⟩:=AU.mp hq
  rw[e1]
  split
  ·rename_i hq
   rw[hq,CT hlt]
  ·rename_i hq
   rw[BR (Ne.symm hq)]
   exact h.ats r hr
theorem ac7 {l:Nat} {s:Span} (e:μ[l]? = some (lO s)) (v:Int):ur (.loc l) (.int 0) (.int v) μ=.ok () (μ.set l (lO ⟨v,s.start,s.fin⟩)):=by
 simp![ur,e,lO];rfl
theorem abz {l:Nat} {s:Span} (e:μ[l]? = some (lO s)) (v:Int):ur (.loc l) (.int 1) (.int v) μ=.ok () (μ.set l (lO ⟨s.lamp,v,s.fin⟩)):=by
 simp![ur,e,lO];rfl
theorem ac8 {l:Nat} {s:Span} (e:μ[l]? = some (lO s)) (v:Int):ur (.loc l) (.int 2) (.int v) μ=.ok () (μ.set l (lO ⟨s.lamp,s.start,v⟩)):=by
 simp![ur,e,lO];rfl
theorem Gr:∀{ps:List (Nat×Span)} {μ:Sto},(∃ρ,μ=μ0++ρ)->(∀p∈ps,μ0.length<=p.1)->(∀p∈ps,μ[p.1]? = some (lO p.2))->(ps.map (·.1)).Nodup->∃μ',rf (lcs ps) μ=some (ps.map λp=>rn p.2,μ')/\∃ρ,μ'=μ0++ρ
 | [],μ,hp,_,_,_=>⟨μ,rfl,hp⟩
 | p::r,μ,hp,hl,ha,hn=>by
  rw[AR,DS]at hn
  have e:=ha p AQ
  obtain⟨μ',e1,e2⟩:=Gr (ps:=r) (μ:=μ.set p.1 .dead) (Ep hp (hl p AQ)) (λq hq=>hl q (AH _ hq)) (λq hq=>by
   rw[BR (λz=>hn.1 (AU.mpr ⟨q,hq,z.symm⟩))]
   exact ha q (AH _ hq)) hn.2
  refine⟨μ',?_,e2⟩
  have i3:gb (lS p.2)=some (rn p.2):=rfl
  simp![lcs,AR,rf,e,lO,i3]
  rw[show(r.map λp=>D.loc p.1)=lcs r from rfl,e1]
theorem Rw.sort (h:Rw μ0 μ a ps) (hn:ps.length<64):∃(μ':Sto) (l:Nat) (ss:List Span),ss.length=ps.length/\btD .sortedL .l [.loc a] μ=.ok (.loc l) μ'/\μ'[l]? = some (.l (ss.map λs=>.lst (lS s)))/\∃ρ,μ'=μ0++ρ:=by
 obtain⟨μ1,e1,ρ,rfl⟩:=Gr h.pre h.lo h.ats h.nd
 have lo1:Lp.listOf μ (.loc a)=some (lcs ps):=by simp![Lp.listOf,h.out]
 have el:∃ss:List Span,ss.length=ps.length/\(o4 (ps.map λp=>rn p.2)).map (λr=>D.lst (r.map D.int))=ss.map λs=>.lst (lS s):=by
  have pm:=Lp.Srt.gg (ps.map λp=>rn p.2)
  refine⟨(o4 (ps.map λp=>rn p.2)).map unS,by rw[AD,pm.length_eq,AD],?_⟩
  rw[AY]
  refine CF λr hr=>?_
  obtain⟨p,_,rfl⟩:=AU.mp (pm.mem_iff.mp hr)
  rfl
 obtain⟨ss,hs,es⟩:=el
 have m1:mkL .l (ss.map λs=>D.lst (lS s)) (μ0++ρ)=.ok (.loc (μ0++ρ).length) ((μ0++ρ)++[.l (ss.map λs=>D.lst (lS s))]):=Cb (by
  rw[DA,AN]
  exact λs _=>rfl)
 refine⟨_,_,ss,hs,?_,iq,ρ++[.l (ss.map λs=>D.lst (lS s))],by rw[Da]⟩
 simp![btD,ff,C6,lo1,AD]
 rw[if_pos hn,e1]
 simp![es,m1]
end
open PySem
def psA:List Span->Nat->List (Nat×Span)
 | [],_=>[]
 | s::r,k=>(k,s)::psA r (k+1)
theorem M3:∀(ss:List Span) (k:Nat),(psA ss k).length=ss.length
 | [],_=>rfl
 | s::r,k=>by simp[psA,M3 r (k+1)]
theorem M4:∀(ss:List Span) (k:Nat),∀p∈psA ss k,k<=p.1
 | [],_,p,h=>by simp[psA]at h
 | s::r,k,p,h=>by
  rcases AL.mp h with rfl | h
  ·exact AI _
  ·have:=M4 r (k+1) p h;lia
theorem Rv:∀(ss:List Span) (k:Nat),((psA ss k).map (·.1)).Nodup
 | [],_=>by simp[psA]
 | s::r,k=>by
  simp![psA,AR,DS]
  refine⟨λhm=>?_,Rv r (k+1)⟩
  obtain⟨p,hp,e⟩:=AU.mp hm
  have:=M4 r (k+1) p hp
  lia
theorem Rx {μ:Sto}:∀(ss:List Span) (k:Nat),(∀(i:Nat) s,ss[i]? = some s->μ[k+i]? = some (lO s))->∀p∈psA ss k,μ[p.1]? = some (lO p.2)
 | [],_,_,p,hp=>by simp[psA]at hp
 | s::r,k,h,p,hp=>by
  rcases AL.mp hp with rfl | hp
  ·exact h 0 s rfl
  ·exact Rx r (k+1) (λi l' e=>by rw[show k+1+i=k+(i+1)by lia];exact h (i+1) l' (by simpa using e)) p hp
section
variable {n : Nat} {μ μ0 : Sto} {φ : Phi} {a : Nat} {ps : List (Nat × Span)} {σ : Sl} {es : Exs}
theorem ze:∀(ss:List Span) (μ:Sto),mapR none (iu φ (.one 0) .nil c7 [none]) (ss.map eSpan) μ=.ok (lcs (psA ss μ.length)) (μ++ss.map lO)
 | [],μ=>by simp[mapR,psA]
 | s::r,μ=>by
  have e0:mkL .l (lS s) μ=.ok (.loc μ.length) (μ++[lO s]):=Cb (Mz s)
  have e1:btD .list .l [eSpan s] μ=.ok (.loc μ.length) (μ++[lO s]):=by rw[eSpan,bt_list a9];exact e0
  have e2:iu φ (.one 0) .nil c7 [none] (eSpan s) μ=.ok [.loc μ.length] (μ++[lO s]):=by
   simp! only[iu,c7,e1]
  have ih:=ze r (μ++[lO s])
  simp![AR,mapR,tu,if_true,e2,Res.bg,ih,psA,BU,FM,Da,List.singleton_append]
theorem Pn (hr:l5 μ) (ss:List Span):∃μ1,gy φ .r (.one 0) .nil c7 [none] (ss.map eSpan,none) μ=.ok (.loc (μ.length+ss.length)) μ1/\Rw μ μ1 (μ.length+ss.length) (psA ss μ.length):=by
 refine⟨μ++ss.map lO++[.r (lcs (psA ss μ.length))],?_,?_⟩
 ·rw[gy,ze]
  simp![Res.bg,mkL,BU,AD]
 ·have ats:∀p∈psA ss μ.length,(μ++ss.map lO++[O.r (lcs (psA ss μ.length))])[p.1]? = some (lO p.2):=Rx ss μ.length λi s e=>by
   have hi:=(AF.mp e).1
   rw[AV (by simp;lia),BQ (by lia),Nat.add_sub_cancel_left,AW,e]
   rfl
  refine⟨⟨ss.map lO++[.r (lcs (psA ss μ.length))],by rw[Da]⟩,by lia,M4 ss _,?_,ats,Rv ss _,?_⟩
  ·have:μ.length+ss.length=(μ++ss.map lO).length:=by simp
   rw[this];exact iq
  ·unfold l5 at hr ⊢
   rw[AN]
   rw[AN]at hr
   intro o ho
   simp![CM,AU,CV]at ho
   rcases ho with(ho | ⟨l,_,rfl⟩) | rfl
   ·exact Ec (by simp) o (hr o ho)
   ·rfl
   ·simp![gc,DA,AN]
    intro p hp
    simpa[D.belowN]using(AF.mp (ats p hp)).1
theorem Rw.km (h:Rw μ0 μ a ps) {mt:Mt} (hm:∀d μ,jb mt d μ=(Lp.listOf μ d).isSome):kM φ mt es σ (.loc a) μ=(jh φ es σ μ).bind (mtD mt (.loc a)):=by
 refine D8 ?_
 rw[hm]
 simp![Lp.listOf,h.out];rfl
theorem qh (x t b:Int):∃v,∀μ,ak GL (n+1) fg [.int x,.int t,.int b] μ=.ok (.int v) μ:=by
 have hk:(t % 8).toNat<8:=by have:=BL t (show(8:Int)≠0 by decide);have:=BM t (show(0:Int)<8 by decide);lia
 have h0:0<=t % 8:=BL t (by decide)
 have ex:∃v,[x-1,x+1,-1,b+1,b,-1-t / 8 % 10 ^ 9,x+t / 8 % 10 ^ 9,0][(t % 8).toNat]? = some v:=⟨_,AB (by simpa using hk)⟩
 obtain⟨v,hv⟩:=ex
 refine⟨v,λμ=>?_⟩
 have p9:opI .Pow 10 9 μ=.ok (.int (10 ^ 9)) μ:=op_pow (by decide)
 have i1:ixD (.lst [.int (x-1),.int (x+1),.int (-1),.int (b+1),.int b,.int (-1-t / 8 % 10 ^ 9),.int (x+t / 8 % 10 ^ 9),.int 0]) (.int (t % 8)) μ=.ok (.int v) μ:=by
  refine yx au h0 ?_
  have:([x-1,x+1,-1,b+1,b,-1-t / 8 % 10 ^ 9,x+t / 8 % 10 ^ 9,0].map D.int)[(t % 8).toNat]? = some (.int v):=by rw[AW,hv];rfl
  exact this
 rw[ao D6,run_eq rfl]
 simp! only[D_law_other,ir (show(0:Int)<8 by decide) (by decide),p9,op_mod (show(0:Int)<10 ^ 9 by decide),op_mod (show(0:Int)<8 by decide),i1]
theorem Ik (ss:List Span) (hl:ss.length<64):∃ss':List Span,ss'.Perm ss/\∀μ,btD .sorted .z [.lst (ss.map eSpan)] μ=.ok (.lst (ss'.map eSpan)) μ:=by
 refine⟨(o4 (ss.map rn)).map unS,?_,λμ=>?_⟩
 ·have:=(Srt.gg (ss.map rn)).map unS
  rw[AY,show(unS∘rn)=id from rfl,List.map_id]at this
  exact this
 ·have hne:((ss.map rn).all λr=>!r.isEmpty)=true:=by rw[DA,AN];intro x _;rfl
  have e:((o4 (ss.map rn)).map λr=>D.tup (r.map D.int))=((o4 (ss.map rn)).map unS).map eSpan:=by
   rw[AY]
   refine CF λr hr=>?_
   obtain⟨s,_,rfl⟩:=AU.mp ((Srt.gg _).mem_iff.mp hr)
   rfl
  simp![btD,ff,E1,Lp.listOf,AD,hl,if_true,zk,ug,hne,e,jg]
theorem A0 (hr:l5 μ) {ss:List Span} (hs:ss.length<=40) (t L:Int) (hL:1<=L) (lamps:Nat) (hl:1<=lamps) :
  ∃(ss':List Span) (ρ:Sto),ss'.length<=ss.length+1/\ak GL (n+2) gh [.tup (ss.map eSpan),.int t,.int L,.int lamps] μ=.ok (.lst (ss'.map eSpan)) (μ++ρ):=by
 rw[ao uc,run_eq rfl]
 obtain⟨μ1,e1,R⟩:=Pn (φ:=ak GL (n+1)) hr ss
 have hpl:=M3 ss μ.length
 generalize psA ss μ.length=ps at *
 generalize μ.length+ss.length=a at *
 have d8:∀(y:Int) (ν:Sto),opI .FloorDiv y 8 ν=.ok (.int (y / 8)) ν:=λy ν=>ir (by decide) (by decide)
 have m8:∀ν:Sto,opI .Mod t 8 ν=.ok (.int (t % 8)) ν:=λν=>op_mod (by decide)
 have k0:0<=t % 8:=BL t (by decide)
 have k8:t % 8<8:=BM t (by decide)
 generalize t % 8=k at *
 generalize hrest:t / 8=r at *
 have y2:jr=.blt .tuple .z (.cons (.var 0) .nil):=rfl
 have y3:d9=.blt .tuple .z (.cons (.var 0) .nil):=rfl
 have ml:∀ν:Sto,opI .Mod r lamps ν=.ok (.int (r % lamps)) ν:=λν=>op_mod (by lia)
 have mL:∀(y:Int) (ν:Sto),opI .Mod y L ν=.ok (.int (y % L)) ν:=λy ν=>op_mod (by lia)
 have len:=R.len
 have goal:∀{μ2:Sto} {ss':List Span},(∃ρ,μ2=μ++ρ)->ss'.length<=ss.length+1->(qa (ak GL (n+1)) D_law_span_spoilt.body [some (.tup (ss.map eSpan)),some (.int t),some (.int L),some (.int lamps),none,none,none] μ).bind finD=.ok (.lst (ss'.map eSpan)) μ2 ->
   ∃(ss':List Span) (ρ:Sto),ss'.length<=ss.length+1/\(qa (ak GL (n+1)) D_law_span_spoilt.body [some (.tup (ss.map eSpan)),some (.int t),some (.int L),some (.int lamps),none,none,none] μ).bind finD=.ok (.lst (ss'.map eSpan)) (μ++ρ):=by
  rintro μ2 ss' ⟨ρ,rfl⟩ hl h
  exact⟨ss',ρ,hl,h⟩
 have case0:(ps.length=0\/k=0)->∃(ss':List Span) (ρ:Sto),ss'.length<=ss.length+1/\(qa (ak GL (n+1)) D_law_span_spoilt.body [some (.tup (ss.map eSpan)),some (.int t),some (.int L),some (.int lamps),none,none,none] μ).bind finD=.ok (.lst (ss'.map eSpan)) (μ++ρ):=by
  intro hc
  have mk:mkL .l [.int (r % lamps),.int 0,.int (1+r / 8 % L)] μ1=.ok (.loc μ1.length) (μ1++[lO ⟨r % lamps,0,1+r / 8 % L⟩]):=Cb rfl
  obtain⟨ea,R2⟩:=R.app ⟨r % lamps,0,1+r / 8 % L⟩ (by lia)
  generalize (μ1++[lO ⟨r % lamps,0,1+r / 8 % L⟩]).set a (.r (lcs (ps++[(μ1.length,⟨r % lamps,0,1+r / 8 % L⟩)])))=μ2 at *
  have tp:=R2.tuples (φ:=ak GL (n+1))
  obtain⟨ss',hp,es⟩:=Ik ((ps++[(μ1.length,(⟨r % lamps,0,1+r / 8 % L⟩:Span))]).map (λx=>x.2)) (by simp;lia)
  have hll:=hp.length_eq
  rw[AD,BU,FM]at hll
  have kq:=R2.kseq
  have pr:=R2.pre
  generalize (ps++[(μ1.length,(⟨r % lamps,0,1+r / 8 % L⟩:Span))])=qs at *
  refine goal pr (ss':=ss') (by lia) ?_
  have km:=λes σ=>R.km (φ:=ak GL (n+1)) (mt:=.append) (es:=es) (σ:=σ) λ_ _=>rfl
  by_cases h1:((ps.length:Nat):Int)=0
  ·rw[h1]at len
   simp! only[D_law_span_spoilt,e1,m8,d8,hrest,len,km,ml,mL,mk,ea,kq,y2,tp,es]
  ·have h2:k=0:=hc.resolve_left (by lia)
   subst h2
   simp! only[D_law_span_spoilt,e1,m8,d8,hrest,len,h1,km,ml,mL,mk,ea,kq,y2,tp,es]
 by_cases hc:ps.length=0\/k=0
 ·exact case0 hc
 have h1:¬((ps.length:Nat):Int)=0:=by lia
 have h2:¬k=0:=λz=>hc (.inr z)
 have hp1:1<=ps.length:=by lia
 have mP:∀ν:Sto,opI .Mod r (ps.length:Nat) ν=.ok (.int ((r % (ps.length:Nat)).toNat:Nat)) ν:=λν=>fmod hp1
 have lP:=An r hp1
 obtain⟨p,ep⟩:∃p,ps[(r % (ps.length:Nat)).toNat]? = some p:=⟨_,AB lP⟩
 have ix:=R.ix ep
 have hm:p∈ps:=BD ep
 have hat:=R.ats p hm
 generalize (r % (ps.length:Nat)).toNat=j at *
 have tpl:∀{μ2:Sto} {qs:List (Nat×Span)},Rw μ μ2 a qs->gy (ak GL (n+1)) .z (.one 0) .nil d9 [none] (lcs qs,some (a,.r (lcs qs))) μ2=.ok (.lst ((qs.map (·.2)).map eSpan)) μ2:=λR=>R.tuples
 by_cases q1:k=1
 ·subst q1
  obtain⟨μ2,i,e2,R2⟩:=R.rem hm
  have km:=λes σ=>R.km (φ:=ak GL (n+1)) (mt:=.remove) (es:=es) (σ:=σ) λ_ _=>rfl
  refine goal R2.pre (ss':=(ps.eraseIdx i).map (·.2)) (by rw[AD,FW];split<;>lia) ?_
  simp! only[D_law_span_spoilt,e1,m8,d8,hrest,len,h1,h2,mP,ix,km,e2,R2.kseq,tpl R2,Int.reduceEq]
 by_cases q2:k=2
 ·subst q2
  have h4:(r / 8 % 4).toNat<4:=by have:=BL (r / 8) (show(4:Int)≠0 by decide);have:=BM (r / 8) (show(0:Int)<4 by decide);lia
  have h40:0<=r / 8 % 4:=BL _ (by decide)
  obtain⟨v,hv⟩:∃v,[-1,(lamps:Int),p.2.lamp+1,0][(r / 8 % 4).toNat]? = some v:=⟨_,AB (by simpa using h4)⟩
  have i4:∀ν:Sto,ixD (.lst [.int (-1),.int lamps,.int (p.2.lamp+1),.int 0]) (.int (r / 8 % 4)) ν=.ok (.int v) ν:=λν=>by
   refine yx au h40 ?_
   have:([-1,(lamps:Int),p.2.lamp+1,0].map D.int)[(r / 8 % 4).toNat]? = some (.int v):=by rw[AW,hv];rfl
   exact this
  have m4:∀(y:Int) (ν:Sto),opI .Mod y 4 ν=.ok (.int (y % 4)) ν:=λy ν=>op_mod (by decide)
  have R2:=R.upd hm ⟨v,p.2.start,p.2.fin⟩
  refine goal R2.pre (ss':=(ps.map λq=>if q.1=p.1 then(q.1,(⟨v,p.2.start,p.2.fin⟩:Span))else q).map (·.2)) (by simp;lia) ?_
  simp! only[D_law_span_spoilt,e1,m8,d8,hrest,len,h1,h2,mP,ix,at0 hat,m4,i4,ac7 hat,R2.kseq,tpl R2,Int.reduceEq]
 by_cases q3:k=3
 ·subst q3
  obtain⟨v,hv⟩:=qh (n:=n) p.2.start (r / 8) L
  have kv:=av (hv μ1) rfl rfl R.shut
  have R2:=R.upd hm ⟨p.2.lamp,v,p.2.fin⟩
  refine goal R2.pre (ss':=(ps.map λq=>if q.1=p.1 then(q.1,(⟨p.2.lamp,v,p.2.fin⟩:Span))else q).map (·.2)) (by simp;lia) ?_
  simp! only[D_law_span_spoilt,e1,m8,d8,hrest,len,h1,h2,mP,ix,at1 hat,kv,abz hat,R2.kseq,tpl R2,Int.reduceEq]
 by_cases q4:k=4
 ·subst q4
  obtain⟨v,hv⟩:=qh (n:=n) p.2.fin (r / 8) L
  have kv:=av (hv μ1) rfl rfl R.shut
  have R2:=R.upd hm ⟨p.2.lamp,p.2.start,v⟩
  refine goal R2.pre (ss':=(ps.map λq=>if q.1=p.1 then(q.1,(⟨p.2.lamp,p.2.start,v⟩:Span))else q).map (·.2)) (by simp;lia) ?_
  simp! only[D_law_span_spoilt,e1,m8,d8,hrest,len,h1,h2,mP,ix,at2 hat,kv,ac8 hat,R2.kseq,tpl R2,Int.reduceEq]
 by_cases q5:k=5
 ·subst q5
  have mQ:∀ν:Sto,opI .Mod (r / 8) ((ps.length:Nat)+1) ν=.ok (.int ((r / 8 % ((ps.length+1:Nat):Int)).toNat:Nat)) ν:=λν=>fmod (k:=ps.length+1) (by lia)
  have lQ:=An (r / 8) (show 1<=ps.length+1 by lia)
  generalize (r / 8 % ((ps.length+1:Nat):Int)).toNat=i at *
  have bl:btD .list .l [.loc p.1] μ1=.ok (.loc μ1.length) (μ1++[lO p.2]):=by rw[bt_list (Cu hat)];exact Cb (Mz _)
  obtain⟨μ2,e2,R2⟩:=R.ins p.2 (k:=i) (by lia) (by lia)
  have km:=λes σ=>R.km (φ:=ak GL (n+1)) (mt:=.insert) (es:=es) (σ:=σ) λ_ _=>rfl
  refine goal R2.pre (ss':=(ps.take i++(μ1.length,p.2)::ps.drop i).map (·.2)) (by simp;lia) ?_
  simp! only[D_law_span_spoilt,e1,m8,d8,hrest,len,h1,h2,mP,ix,km,mQ,bl,e2,R2.kseq,tpl R2,Int.reduceEq]
 by_cases q6:k=6
 ·subst q6
  obtain⟨μ2,e2,R2⟩:=R.rev
  have km:=λes σ=>R.km (φ:=ak GL (n+1)) (mt:=.reverse) (es:=es) (σ:=σ) λ_ _=>rfl
  refine goal R2.pre (ss':=ps.reverse.map (·.2)) (by simp;lia) ?_
  simp! only[D_law_span_spoilt,e1,m8,d8,hrest,len,h1,h2,mP,ix,km,e2,R2.kseq,tpl R2,Int.reduceEq]
 ·have q7:k=7:=by lia
  subst q7
  have d2:∀(y:Int) (ν:Sto),opI .FloorDiv y 2 ν=.ok (.int (y / 2)) ν:=λy ν=>ir (by decide) (by decide)
  obtain⟨x,hx⟩:∃x,x=p.2.start+(p.2.fin-p.2.start) / 2:=⟨_,rfl⟩
  have mk:mkL .l [.int p.2.lamp,.int p.2.start,.int x] μ1=.ok (.loc μ1.length) (μ1++[lO ⟨p.2.lamp,p.2.start,x⟩]):=Cb rfl
  obtain⟨ea,R2⟩:=R.app ⟨p.2.lamp,p.2.start,x⟩ (by lia)
  generalize (μ1++[lO ⟨p.2.lamp,p.2.start,x⟩]).set a (.r (lcs (ps++[(μ1.length,⟨p.2.lamp,p.2.start,x⟩)])))=μ2 at *
  have hm2:p∈ps++[(μ1.length,(⟨p.2.lamp,p.2.start,x⟩:Span))]:=HJ _ hm
  have l2:(ps++[(μ1.length,(⟨p.2.lamp,p.2.start,x⟩:Span))]).length=ps.length+1:=by simp
  have hat2:=R2.ats p hm2
  have R3:=R2.upd hm2 ⟨p.2.lamp,x,p.2.fin⟩
  generalize ps++[(μ1.length,(⟨p.2.lamp,p.2.start,x⟩:Span))]=qs at *
  obtain⟨μ4,l,ss',hs',e4,e5,pr⟩:=R3.sort (by rw[AD];lia)
  rw[AD]at hs'
  have km:=λes σ=>R.km (φ:=ak GL (n+1)) (mt:=.append) (es:=es) (σ:=σ) λ_ _=>rfl
  have kq:kSeq (.loc l) μ4=.ok (ss'.map (λs=>D.lst (lS s)),some (l,.l (ss'.map λs=>D.lst (lS s)))) μ4:=by simp![kSeq,du,e5]
  have tp:gy (ak GL (n+1)) .z (.one 0) .nil d9 [none] (ss'.map (λs=>D.lst (lS s)),some (l,.l (ss'.map λs=>D.lst (lS s)))) μ4=.ok (.lst (ss'.map eSpan)) μ4 :=
   M1 (show gd (some (l,.l (ss'.map λs=>D.lst (lS s)))) μ4 from e5) (λi d hd=>by
    rw[AW]at hd
    obtain⟨s,hs,rfl⟩:=ED.mp hd
    exact⟨s,hs,rfl⟩) (by simp)
  refine goal pr (ss':=ss') (by lia) ?_
  simp! only[D_law_span_spoilt,e1,m8,d8,hrest,len,h1,h2,mP,ix,km,at0 hat,at1 hat,at2 hat,d2,<-hx,mk,ea,at1 hat2,at2 hat2,abz hat2,e4,kq,tp,Int.reduceEq]
end
open PySem
structure ShN (m:Nat) (b:Book) (rs:List Tn):Prop where
 lamps:1<=b.lamps.length/\b.lamps.length<=8
 same:rs.length=b.days.length
 some:1<=rs.length
 few:rs.length<=16
 pour:∀t∈rs,t.poured.length=b.lamps.length
 span:∀t∈rs,t.spans.length<=m
 len:∀d∈b.days,1<=d.length
 away:∀l∈b.lamps,l.away.length<=m
theorem ShN.shape {m:Nat} {b:Book} {rs:List Tn} (h:ShN m b rs) (hm:m<=31):Shape b rs:=⟨h.lamps,h.same,h.few,λt ht=>⟨h.pour t ht,CL (h.span t ht) hm⟩,h.len⟩
theorem M5 (x:Int):∀l:List Int,(insI x l).length=l.length+1
 | []=>rfl
 | y::r=>by
  rw[insI]
  split
  ·simp
  ·simp[M5 x r]
theorem Cv:∀l:List Int,(sortI l).length=l.length
 | []=>rfl
 | x::r=>by rw[sortI,M5,Cv r];rfl
theorem ded_len (l:List Int):(zl l).length<=l.length:=by
 have gen:∀(l σ:List Int),(l.foldl (λσ k=>if σ.any (·==k)then σ else σ++[k]) σ).length<=σ.length+l.length:=by
  intro l
  induction l with
  | nil=>intro σ;simp
  | cons x r ih =>
   intro σ
   rw[JQ]
   refine CL (ih _) ?_
   split<;>simp<;>lia
 have:=gen l []
 simpa[zl]using this
section
variable {n : Nat} {μ : Sto}
def MM (μ:Sto) (po:List Int) (ls:List Lamp):Sto:=μ++[.l (po.map D.int)]++[.l (ls.map d5)]
theorem mm7 {po:List Int} {ls:List Lamp}:(MM μ po ls)[μ.length]? = some (.l (po.map D.int)):=by simp[MM]
theorem ab0 {po:List Int} {ls:List Lamp}:(MM μ po ls)[μ.length+1]? = some (.l (ls.map d5)):=by simp[MM]
theorem Yt {po:List Int} {ls:List Lamp} {o:List Int}:(MM μ po ls).set μ.length (.l (o.map D.int))=MM μ o ls:=by simp[MM]
theorem U5 {po:List Int} {ls o:List Lamp}:(MM μ po ls).set (μ.length+1) (.l (o.map d5))=MM μ po o:=by simp[MM,KE]
theorem ab1 {po:List Int} {ls:List Lamp}:cv (MM μ po ls) (.loc μ.length)=some (po.map D.int):=by simp![cv,mm7]
theorem U6 {po:List Int} {ls:List Lamp}:cv (MM μ po ls) (.loc (μ.length+1))=some (ls.map d5):=by simp![cv,ab0]
theorem aau (hr:l5 μ) (po:List Int) (ls:List Lamp):l5 (MM μ po ls):=Cc (Cc hr _) _
theorem aav {po:List Int} {ls:List Lamp} {j:Nat} (hj:j<po.length) (v:Int):ur (.loc μ.length) (.int j) (.int v) (MM μ po ls)=.ok () (MM μ (po.set j v) ls):=by
 have e:ixN (po.map D.int).length (j:Int)=some j:=by
  rw[ixN,if_pos (by lia),if_pos (by rw[AD];lia)];simp
 simp![ur,mm7,gj,e,putL]
 rw[if_pos (show fits (O.l (po.map D.int)) (D.int v)=true from rfl),<-HX]
 show Res.ok () _=_
 rw[Yt]
theorem Ry {po:List Int} {ls:List Lamp} {j:Nat} (hj:j<ls.length) (l:Lamp):ur (.loc (μ.length+1)) (.int j) (d5 l) (MM μ po ls)=.ok () (MM μ po (ls.set j l)):=by
 have e:ixN (ls.map d5).length (j:Int)=some j:=by
  rw[ixN,if_pos (by lia),if_pos (by rw[AD];lia)];simp
 simp![ur,ab0,gj,e,putL]
 rw[if_pos (show fits (O.l (ls.map d5)) (d5 l)=true from sg l),<-HX]
 show Res.ok () _=_
 rw[U5]
theorem M6 (hr:l5 μ) {m:Nat} (hm:m<=30) {b:Book} {rs:List Tn} (S:ShN m b rs) (t:Int) :
  ∃(b':Book) (rs':List Tn) (ρ:Sto),ShN (m+1) b' rs'/\ak GL (n+3) ja [cm b,.tup (rs.map eTn),.int t] μ=.ok (.tup [cm b',.tup (rs'.map eTn)]) (μ++ρ):=by
 rw[ao x9,run_eq rfl]
 have d8:∀(y:Int) (ν:Sto),opI .FloorDiv y 8 ν=.ok (.int (y / 8)) ν:=λy ν=>ir (by decide) (by decide)
 have d128:∀(y:Int) (ν:Sto),opI .FloorDiv y 128 ν=.ok (.int (y / 128)) ν:=λy ν=>ir (by decide) (by decide)
 have m8:∀ν:Sto,opI .Mod t 8 ν=.ok (.int (t % 8)) ν:=λν=>op_mod (by decide)
 have mR:∀ν:Sto,opI .Mod (t / 8) (rs.length:Nat) ν=.ok (.int ((t / 8 % (rs.length:Nat)).toNat:Nat)) ν:=λν=>fmod S.some
 have lR:=An (t / 8) S.some
 have mL:∀ν:Sto,opI .Mod (t / 128) (b.lamps.length:Nat) ν=.ok (.int ((t / 128 % (b.lamps.length:Nat)).toNat:Nat)) ν:=λν=>fmod S.lamps.1
 have lL:=An (t / 128) S.lamps.1
 generalize t % 8=k at *
 generalize (t / 8 % (rs.length:Nat)).toNat=i at *
 generalize (t / 128 % (b.lamps.length:Nat)).toNat=j at *
 generalize h128:t / 128=r at *
 obtain⟨tn,et⟩:∃tn,rs[i]? = some tn:=⟨_,AB lR⟩
 obtain⟨d,ed⟩:∃d,b.days[i]? = some d:=⟨_,AB (by rw[<-S.same];exact lR)⟩
 obtain⟨l,el⟩:∃l,b.lamps[j]? = some l:=⟨_,AB lL⟩
 have mt:=BD et
 have hpo:=S.pour tn mt
 have hsp:=S.span tn mt
 have hd1:=S.len d (BD ed)
 have hlam:=S.lamps
 have hfew:=S.few
 have haw:=S.away l (BD el)
 have ub1:∀σ:Sl,gf (.many [5,6,7,8]) (eTn tn) σ=some ((((σ.set 5 (some (.int tn.taken))).set 6 (some (.int tn.bought))).set 7 (some (.tup (tn.poured.map D.int)))).set 8 (some (.tup (tn.spans.map eSpan)))):=λ_=>rfl
 have ub2:∀σ:Sl,gf (.many [9,10,11,12,13]) (mz d) σ=some (((((σ.set 9 (some (.int d.boat))).set 10 (some (.int d.most))).set 11 (some (.int d.price))).set 12 (some (.int d.length))).set 13 (some (.int d.wanted))):=λ_=>rfl
 have l7:btD .list .l [.tup (tn.poured.map D.int)] μ=.ok (.loc μ.length) (μ++[.l (tn.poured.map D.int)]):=by
  rw[bt_list a9]
  exact Cb (by rw[DA,AN];exact λ_ _=>eh)
 have l14:btD .list .l [.tup (b.lamps.map d5)] (μ++[.l (tn.poured.map D.int)])=.ok (.loc (μ.length+1)) (MM μ tn.poured b.lamps):=by
  rw[bt_list a9,Cb (by rw[DA,AN];exact λl _=>sg l),BU]
  rfl
 have hl14:∀(po:List Int) (ls:List Lamp),btD .len .z [.loc (μ.length+1)] (MM μ po ls)=.ok (.int ls.length) (MM μ po ls):=λpo ls=>by rw[bt_len U6,AD]
 have i14:ixD (.loc (μ.length+1)) (.int j) (MM μ tn.poured b.lamps)=.ok (d5 l) (MM μ tn.poured b.lamps):=uo U6 (by rw[AW,el];rfl)
 have t7:∀(po:List Int) (ls:List Lamp),btD .tuple .z [.loc μ.length] (MM μ po ls)=.ok (.tup (po.map D.int)) (MM μ po ls):=λpo ls=>bt_tuple ab1
 have t14:∀(po:List Int) (ls:List Lamp),btD .tuple .z [.loc (μ.length+1)] (MM μ po ls)=.ok (.tup (ls.map d5)) (MM μ po ls):=λpo ls=>bt_tuple U6
 have c1:∀(t':D) (ν:Sto),opD .Add .z (.tup ((rs.map eTn).take i)) (.tup [t']) ν=.ok (.tup ((rs.map eTn).take i++[t'])) ν:=λt' ν=>op_cat (by simp;lia)
 have c2:∀(t':D) (ν:Sto),opD .Add .z (.tup ((rs.map eTn).take i++[t'])) (.tup ((rs.map eTn).drop (i+1))) ν=.ok (.tup ((rs.map eTn).take i++[t']++(rs.map eTn).drop (i+1))) ν:=λt' ν=>op_cat (by simp;lia)
 have i1:(i:Int)+1=((i+1:Nat):Int):=by lia
 have cc:∀t':Tn,(rs.map eTn).take i++[eTn t']++(rs.map eTn).drop (i+1)=(rs.set i t').map eTn:=λt'=>by
  rw[HX,List.set_eq_take_append_cons_drop,if_pos (by simpa using lR)];simp
 have cg:∀(v w:Int) (po:List Int) (ss:List Span),(rs.map eTn).take i++[D.tup [.int v,.int w,.tup (po.map D.int),.tup (ss.map eSpan)]]++(rs.map eTn).drop (i+1)=(rs.set i ⟨v,w,po,ss⟩).map eTn:=λv w po ss=>cc ⟨v,w,po,ss⟩
 have eb:∀ls:List Lamp,D.tup [.int b.store,.int b.oil,.tup (ls.map d5),.tup (b.days.map mz)]=cm ⟨b.store,b.oil,ls,b.days⟩:=λ_=>rfl
 have sh:∀{ls:List Lamp} {t':Tn},ls.length=b.lamps.length->(∀x∈ls,x.away.length<=m+1)->t'.poured.length=b.lamps.length->t'.spans.length<=m+1->ShN (m+1) ⟨b.store,b.oil,ls,b.days⟩ (rs.set i t'):=λ{ls t'} h1 h2 h3 h4 =>
  ⟨by show 1<=ls.length/\ls.length<=8;lia,by simpa using S.same,by simpa using S.some,by simpa using S.few,λx hx=>by
   show x.poured.length=ls.length
   rcases EM hx with q | rfl
   ·rw[S.pour x q,h1]
   ·rw[h3,h1],λx hx=>by
   rcases EM hx with q | rfl
   ·exact EC (S.span x q)
   ·exact h4,S.len,h2⟩
 have aw0:∀x∈b.lamps,x.away.length<=m+1:=λx hx=>EC (S.away x hx)
 have awS:∀l':Lamp,l'.away.length<=m+1->∀x∈b.lamps.set j l',x.away.length<=m+1:=λl' h x hx=>by
  rcases EM hx with q | rfl
  ·exact aw0 x q
  ·exact h
 have HM:=aau hr tn.poured b.lamps
 have goal:∀{po:List Int} {ls:List Lamp} {t':Tn},ShN (m+1) ⟨b.store,b.oil,ls,b.days⟩ (rs.set i t')->(qa (ak GL (n+2)) D_law_spoilt_2.body [some (cm b),some (.tup (rs.map eTn)),some (.int t),none,none,none,none,none,none,none,none,none,none,none,none,none,none] μ).bind finD=.ok (.tup [cm ⟨b.store,b.oil,ls,b.days⟩,.tup ((rs.set i t').map eTn)]) (MM μ po ls) ->
   ∃(b':Book) (rs':List Tn) (ρ:Sto),ShN (m+1) b' rs'/\(qa (ak GL (n+2)) D_law_spoilt_2.body [some (cm b),some (.tup (rs.map eTn)),some (.int t),none,none,none,none,none,none,none,none,none,none,none,none,none,none] μ).bind finD=.ok (.tup [cm b',.tup (rs'.map eTn)]) (μ++ρ):=λ{po ls t'} h e =>
  ⟨_,_,[.l (po.map D.int)]++[.l (ls.map d5)],h,by rw[e,MM,Da]⟩
 have lpo:tn.poured[j]? = some (tn.poured.getD j 0):=by rw[AB (by lia)];simp[show j<tn.poured.length by lia]
 have i7:ixD (.loc μ.length) (.int j) (MM μ tn.poured b.lamps)=.ok (.int (tn.poured.getD j 0)) (MM μ tn.poured b.lamps):=uo ab1 (by rw[AW,lpo];rfl)
 by_cases k0:k=0
 ·obtain⟨v,hv⟩:=qh (n:=n+1) tn.taken r d.boat
  have kv:=av (hv (MM μ tn.poured b.lamps)) rfl rfl HM
  refine goal (po:=tn.poured) (t':=⟨v,tn.bought,tn.poured,tn.spans⟩) (sh rfl aw0 hpo (EC hsp)) ?_
  simp! only[D_law_spoilt_2,d8,bt_len a9,AD,mR,d128,h128,bo et,ub1,gp,bo ed,ub2,l7,pf,l14,hl14,mL,m8,k0,kv,t7,t14,bt_tuple a9,oj,c1,i1,ph,c2,cg,Ea,Eb,eb]
 by_cases k1:k=1
 ·obtain⟨v,hv⟩:=qh (n:=n+1) tn.bought r d.most
  have kv:=av (hv (MM μ tn.poured b.lamps)) rfl rfl HM
  refine goal (po:=tn.poured) (t':=⟨tn.taken,v,tn.poured,tn.spans⟩) (sh rfl aw0 hpo (EC hsp)) ?_
  simp! only[D_law_spoilt_2,d8,bt_len a9,AD,mR,d128,h128,bo et,ub1,gp,bo ed,ub2,l7,pf,l14,hl14,mL,m8,k1,kv,t7,t14,bt_tuple a9,oj,c1,i1,ph,c2,cg,Ea,Eb,eb,Int.reduceEq]
 have two:k=2\/k=3->∃(b':Book) (rs':List Tn) (ρ:Sto),ShN (m+1) b' rs'/\(qa (ak GL (n+2)) D_law_spoilt_2.body [some (cm b),some (.tup (rs.map eTn)),some (.int t),none,none,none,none,none,none,none,none,none,none,none,none,none,none] μ).bind finD=.ok (.tup [cm b',.tup (rs'.map eTn)]) (μ++ρ):=by
  intro hk
  obtain⟨v,hv⟩:=qh (n:=n+1) (tn.poured.getD j 0) (r / 8) l.tank
  have kv:=av (hv (MM μ tn.poured b.lamps)) rfl rfl HM
  have sx:=aav (μ:=μ) (po:=tn.poured) (ls:=b.lamps) (j:=j) (by lia) v
  refine goal (po:=tn.poured.set j v) (t':=⟨tn.taken,tn.bought,tn.poured.set j v,tn.spans⟩) (sh rfl aw0 (by simpa using hpo) (EC hsp)) ?_
  rcases hk with rfl | rfl
  ·simp! only[D_law_spoilt_2,d8,bt_len a9,AD,mR,d128,h128,bo et,ub1,gp,bo ed,ub2,l7,pf,l14,hl14,mL,m8,k0,k1,i7,i14,O0,kv,sx,t7,t14,bt_tuple a9,oj,c1,i1,ph,c2,cg,Ea,Eb,eb]
  ·simp! only[D_law_spoilt_2,d8,bt_len a9,AD,mR,d128,h128,bo et,ub1,gp,bo ed,ub2,l7,pf,l14,hl14,mL,m8,k0,k1,i7,i14,O0,kv,sx,t7,t14,bt_tuple a9,oj,c1,i1,ph,c2,cg,Ea,Eb,eb,Int.reduceEq]
 by_cases k23:k=2\/k=3
 ·exact two k23
 have k2:¬k=2:=λz=>k23 (.inl z)
 have k3:¬k=3:=λz=>k23 (.inr z)
 by_cases k4:k=4
 ·have oc:∀ν:Sto,opD .Add .z (cw l.away) (.tup [.int i]) ν=.ok (.tup ((l.away++[(i:Int)]).map D.int)) ν:=λν=>by
   rw[cw,op_cat (by simp;lia),BX];rfl
  have bs:∀ν:Sto,btD .sortedSet .z [.tup ((l.away++[(i:Int)]).map D.int)] ν=.ok (.lst ((sortI (zl (l.away++[(i:Int)]))).map D.int)) ν:=λν=>by
   simp![btD,ff,Jn,Nw,cv,FX,jf]
   rw[if_pos (by simp;lia),jg]
  have hle:(sortI (zl (l.away++[(i:Int)]))).length<=m+1:=by
   rw[Cv]
   refine CL (ded_len _) ?_
   simp;lia
  generalize sortI (zl (l.away++[(i:Int)]))=aw at *
  have sx:=Ry (μ:=μ) (po:=tn.poured) (ls:=b.lamps) lL ⟨l.tank,l.oil,aw⟩
  have eq:∀x y:Int,D.tup [.int x,.int y,.tup (aw.map D.int)]=d5 ⟨x,y,aw⟩:=λ_ _=>rfl
  refine goal (po:=tn.poured) (ls:=b.lamps.set j ⟨l.tank,l.oil,aw⟩) (t':=⟨tn.taken,tn.bought,tn.poured,tn.spans⟩) (sh (by simp) (awS _ hle) hpo (EC hsp)) ?_
  simp! only[D_law_spoilt_2,d8,bt_len a9,AD,mR,d128,h128,bo et,ub1,gp,bo ed,ub2,l7,pf,l14,hl14,mL,m8,k4,i14,O0,Ym,Yn,oc,bs,bt_tuple au,eq,sx,t7,t14,bt_tuple a9,oj,c1,i1,ph,c2,cg,Ea,Eb,eb,Int.reduceEq]
 by_cases k5:k=5
 ·obtain⟨v,hv⟩:=qh (n:=n+1) l.tank (r / 8) 0
  have kv:=av (hv (MM μ tn.poured b.lamps)) rfl rfl HM
  have sx:=Ry (μ:=μ) (po:=tn.poured) (ls:=b.lamps) lL ⟨min (max 0 v) (10 ^ 30),min (max 0 v) l.oil,l.away⟩
  have eq:∀x y:Int,D.tup [.int x,.int y,cw l.away]=d5 ⟨x,y,l.away⟩:=λ_ _=>rfl
  have p30:∀ν:Sto,opI .Pow 10 30 ν=.ok (.int (10 ^ 30)) ν:=λν=>op_pow (by decide)
  refine goal (po:=tn.poured) (ls:=b.lamps.set j ⟨min (max 0 v) (10 ^ 30),min (max 0 v) l.oil,l.away⟩) (t':=⟨tn.taken,tn.bought,tn.poured,tn.spans⟩) (sh (by simp) (awS _ (by show l.away.length<=_;lia)) hpo (EC hsp)) ?_
  simp! only[D_law_spoilt_2,d8,bt_len a9,AD,mR,d128,h128,bo et,ub1,gp,bo ed,ub2,l7,pf,l14,hl14,mL,m8,k5,i14,O0,Ym,Yn,kv,p30,eq,sx,t7,t14,bt_tuple a9,oj,c1,i1,ph,c2,cg,Ea,Eb,eb,Int.reduceEq]
 ·obtain⟨ss',ρ,hl',es⟩:=A0 (n:=n) HM (ss:=tn.spans) (by lia) r d.length hd1 b.lamps.length hlam.1
  have pu:(D.lst (ss'.map eSpan)).pure=true:=by
   rw[D.pure,mf,DA,AN];exact λs _=>rfl
  have kv:=fw es pu HM
  refine goal (po:=tn.poured) (t':=⟨tn.taken,tn.bought,tn.poured,ss'⟩) (sh rfl aw0 hpo (by show ss'.length<=_;lia)) ?_
  simp! only[D_law_spoilt_2,d8,bt_len a9,AD,mR,d128,h128,bo et,ub1,gp,bo ed,ub2,l7,pf,l14,hl14,mL,m8,k0,k1,k2,k3,k4,k5,kv,bt_tuple au,t7,t14,bt_tuple a9,oj,c1,i1,ph,c2,cg,Ea,Eb,eb]
end
open PySem
theorem Po (b:Book) (rs:List Tn):(∀k,k<rs.length->wordAt b rs k=none)\/∃k w,k<rs.length/\wordAt b rs k=some w/\∀j,j<k->wordAt b rs j=none:=by
 have gen:∀N,N<=rs.length->(∀k,k<N->wordAt b rs k=none)\/∃k w,k<rs.length/\wordAt b rs k=some w/\∀j,j<k->wordAt b rs j=none:=by
  intro N
  induction N with
  | zero=>exact λ_=>.inl λk hk=>absurd hk (by lia)
  | succ N ih =>
   intro hN
   rcases ih (by lia)with h | h
   ·cases e:wordAt b rs N with
    | none =>
     refine .inl λk hk=>?_
     by_cases q:k=N
     ·rw[q];exact e
     ·exact h k (by lia)
    | some w=>exact .inr ⟨N,w,by lia,e,h⟩
   ·exact .inr h
 exact gen rs.length (AI _)
theorem Pp {b:Book} {rs:List Tn} (hk:Kept b rs) (ha:∀l∈b.lamps,l.away.length<=16):ShN 16 b rs:=by
 obtain⟨S,_⟩:=Ij hk
 refine⟨S.lamps,S.same,hk.some,S.few,λt ht=>(S.turn t ht).1,λt ht=>?_,S.len,ha⟩
 obtain⟨i,hi,rfl⟩:=BS.mp ht
 have h2:i<b.days.length:=by rw[<-hk.same];exact hi
 exact(hk.day i _ _ (AB hi) (AB h2)).few
theorem Cw (b:Book) (rs:List Tn):(D.tup [cm b,.tup (rs.map eTn)]).pure=true:=by
 have p1:D.pureN 7 (cm b)=true:=by
  simp![cm,dy,BB,Ev,FL,GC,eh,DA,BC,AN]
  exact⟨λl _=>sg l,λl _=>Oz l⟩
 have p2:D.pureN 7 (.tup (rs.map eTn))=true:=by
  rw[dy,AN];intro x hx;obtain⟨i,_,rfl⟩:=AU.mp hx;exact Mb i
 rw[D.pure,dy]
 simp![BB,p1,p2,Ev,GA]
theorem aaw {μ:Sto} (ns:List Int):∃cs:List Int,cs.length<=3/\slD .z (.lst (ns.map D.int)) (some (-3)) none μ=.ok (.lst (cs.map D.int)) μ:=by
 refine⟨(ns.drop ((-3:Int)+(ns.length:Int)).toNat).take (ns.length-((-3:Int)+(ns.length:Int)).toNat),by simp;lia,?_⟩
 simp![slD,Lp.listOf,jg,cut,sIx,AD]
 rw[if_pos (by decide),<-KJ,<-IW]
open PySem
theorem aax (ns:List Int):∃μ',ak GL 8 wy [.lst (ns.map D.int)] []=.ok (.bl true) μ':=by
 rw[ao K2,run_eq rfl]
 obtain⟨b,rs,cs,ρ,⟨hk,ha⟩,ek⟩:=Pb (n:=3) ns
 have kk:=xn (μ':=[Lf cs]) ek rfl (Cw b rs) rfl
 have H:l5 [Lf cs]:=L9
 have S0:=Pp hk ha
 have unp:∀(b:Book) (rs:List Tn) (σ:Sl),gf (.many [1,2]) (.tup [cm b,.tup (rs.map eTn)]) σ=some ((σ.set 1 (some (cm b))).set 2 (some (.tup (rs.map eTn)))):=λ_ _ _=>rfl
 obtain⟨c3,h3,e3⟩:=aaw (μ:=[Lf cs]) ns
 have ml:mkL .z [D.int 0] [Lf cs]=.ok (.lst [.int 0]) [Lf cs]:=rfl
 have ac:opD .Add .z (.lst (c3.map D.int)) (.lst [.int 0]) [Lf cs]=.ok (.lst ((c3++[0]).map D.int)) [Lf cs]:=by
  rw[El (by simp;lia),BX];rfl
 have hc:(c3++[(0:Int)]).length<=4:=by simp;lia
 generalize c3++[(0:Int)]=cl at *
 have ib:∀c:Bool,Qb .bool (.bl c) [Lf cs]=.ok (.bl true) [Lf cs]:=λ_=>rfl
 obtain⟨σ',μ',el,rfl,b',rs',v4,v5,v6,S',rfl⟩:=jn (φ:=ak GL 7) (μ:=[Lf cs]) (tg:=.one 4) (b:=me) (xs:=List.range cl.length) (en:=fun(k:Nat)=>D.int k) (σ:=[some (.lst (ns.map D.int)),some (cm b),some (.tup (rs.map eTn)),some (.lst (cl.map D.int)),none,none,none])
  (λj σ μ'=>μ'=[Lf cs]/\∃b' rs' v4 v5 v6,ShN (16+j) b' rs'/\σ=[some (.lst (ns.map D.int)),some (cm b'),some (.tup (rs'.map eTn)),some (.lst (cl.map D.int)),v4,v5,v6]) ⟨rfl,b,rs,none,none,none,S0,rfl⟩ (by
   rintro k a σ μ' hk ⟨rfl,b',rs',v4,v5,v6,S',rfl⟩
   obtain⟨rfl,hk'⟩:=xm hk
   have ix:ixD (.lst (cl.map D.int)) (.int (a:Nat)) [Lf cs]=.ok (.int (cl.getD a 0)) [Lf cs]:=Ld (by rw[AB hk'];simp[hk'])
   have mu:opI .Mult 7919 (a:Nat) [Lf cs]=.ok (.int (7919*(a:Nat))) [Lf cs]:=op_mul (.left (by decide) (by decide))
   have kt:=oi (n:=6) H (cl.getD a 0+7919*(a:Nat))
   obtain⟨b2,rs2,ρ2,S2,e2⟩:=M6 (n:=4) H (show 16+a<=30 by lia) S' (ip (cl.getD a 0+7919*(a:Nat)))
   have ks:=fw e2 (Cw b2 rs2) H
   have Sf:=S2.shape (by lia)
   rcases Po b2 rs2 with h | ⟨j,w,hj,hw,hn⟩
   ·obtain⟨ρ1,ew⟩:=(Gp (n:=4) H Sf).1 h
    have phs:(D.tup [.non,.lst ((evs b2 rs2).map c9)]).pure=true:=by
     rw[D.pure,dy]
     have:D.pureN 7 (.lst ((evs b2 rs2).map c9))=true:=by
      rw[mf,AN];intro x hx;obtain⟨i,_,rfl⟩:=AU.mp hx;exact p5 i
     simp![BB,K5,this,Ev,GA]
    have kw:=fw ew phs H
    have kf:=av ((tf (n:=2) H Sf).1 h) rfl rfl H
    have kp:=av ((Ct (n:=1) H Sf).1 h) rfl rfl H
    have sf:=av (Mx (n:=5) (μ:=[Lf cs])) rfl rfl H
    have i0:ixD (.tup [.non,.lst ((evs b2 rs2).map c9)]) (.int 0) [Lf cs]=.ok .non [Lf cs]:=rfl
    have ni:cpD .is .non .non [Lf cs]=.ok (.bl true) [Lf cs]:=rfl
    refine⟨_,_,?_,rfl,b2,rs2,some (.int (a:Nat)),some .non,some (.bl true),S2,rfl⟩
    simp! only[fLp,me,ix,mu,kt,ks,unp,kw,i0,kf,sf,kp,ib,ni,Fp,beq_self_eq_true]
   ·obtain⟨hs,ρ1,ew⟩:=(Gp (n:=4) H Sf).2 j w hj hw hn
    have phs:(D.tup [.tup [.int j,.str w],.lst (hs.map c9)]).pure=true:=by
     rw[D.pure,dy]
     have:D.pureN 7 (.lst (hs.map c9))=true:=by
      rw[mf,AN];intro x hx;obtain⟨i,_,rfl⟩:=AU.mp hx;exact p5 i
     have h2:D.pureN 7 (.tup [.int j,.str w])=true:=rfl
     simp![BB,h2,this,Ev,GA]
    have kw:=fw ew phs H
    have kf:=av ((tf (n:=2) H Sf).2 j w hj hw hn) rfl rfl H
    have kp:=av ((Ct (n:=1) H Sf).2 j w hj hw hn) rfl rfl H
    have sf:=av (My (n:=5) (μ:=[Lf cs]) H j w) rfl rfl H
    have i0:ixD (.tup [.tup [.int j,.str w],.lst (hs.map c9)]) (.int 0) [Lf cs]=.ok (.tup [.int j,.str w]) [Lf cs]:=rfl
    have ni:cpD .is (.tup [.int j,.str w]) .non [Lf cs]=.ok (.bl false) [Lf cs]:=rfl
    refine⟨_,_,?_,rfl,b2,rs2,some (.int (a:Nat)),some (.tup [.int j,.str w]),some (.bl false),S2,rfl⟩
    simp! only[fLp,me,ix,mu,kt,ks,unp,kw,i0,kf,sf,kp,ib,ni,Fp,beq_self_eq_true])
 refine⟨[Lf cs],?_⟩
 simp! only[D_law_k08,Hy Ia,L3,kk,unp,e3,ml,ac,bt_len au,AD,dz (show cl.length<=1000000 by lia),el]
end Lr
namespace Lp.Law
open PySem PySem.Spec PyProof.Rows L2 Lp
def top (i:Nat):Stmt:=PySem.Challenge.pw_lamprota_k08_first_faults.main.body.getD i (.Pass ⟨0,0,0,0⟩)
def e0:Ent:=⟨wu,"rises",top 1,["things"],["things"],D_rises⟩
def e1:Ent:=⟨qd,"can_burn",top 2,["book","lamp","day","tank","oil","away"],["book","lamp","day"],D_can_burn⟩
def e2:Ent:=⟨dr,"ticks_of_spans",top 4,["lamps","spans","ticks","lamp","start","end"],["lamps","spans"],D_ticks_of_spans⟩
def e3:Ent:=⟨cu,"have_tick_in_common",top 5,["one","other"],["one","other"],D_have_tick_in_common⟩
def e4:Ent:=⟨fh,"has_span_fault",top 6,["length","lamps","spans","lamp","start","end"],["length","lamps","spans"],D_has_span_fault⟩
def e5:Ent:=⟨cy,"has_dark_fault",top 7,["length","wanted","spans","changes","lamp","start","end"],["length","wanted","spans"],D_has_dark_fault⟩
def e6:Ent:=⟨g7,"held_at_first",top 8,["book"],["book"],D_held_at_first⟩
def e7:Ent:=⟨sd,"filled",top 9,["tanks","poured"],["tanks","poured"],D_filled⟩
def e8:Ent:=⟨ju,"held_behind",top 10,["book","held","turn","store","tanks","taken","bought","poured","spans","left","ticks"],["book","held","turn"],D_held_behind⟩
def e9:Ent:=⟨n9,"day_fault",top 11,["book","day","held","turn","boat","most","price","length","wanted","store","tanks","taken","bought","poured","spans","levels"],["book","day","held","turn"],D_day_fault⟩
def e10:Ent:=⟨jv,"night_fault",top 12,["book","day","levels","spans","boat","most","price","length","wanted","ticks"],["book","day","levels","spans"],D_night_fault⟩
def e11:Ent:=⟨ua,"fault",top 13,["book","rota","held","day","turn","word"],["book","rota"],D_fault⟩
def e12:Ent:=⟨wx,"keeps",top 14,["book","rota"],["book","rota"],D_keeps⟩
def e13:Ent:=⟨n4,"_law_whole",top 16,["found"],["found"],D_law_whole⟩
def e14:Ent:=⟨dq,"_law_next",top 17,["left"],["left"],D_law_next⟩
def e15:Ent:=⟨ee,"_law_turn",top 18,["cell","stir"],["cell"],D_law_turn⟩
def e16:Ent:=⟨i8,"_law_size",top 19,["cell","most","turn"],["cell","most"],D_law_size⟩
def e17:Ent:=⟨ko,"_law_share",top 20,["turn","low","high"],["turn","low","high"],D_law_share⟩
def e18:Ent:=⟨ku,"_law_ticks",top 21,["turn","lamps","length","wanted","order","left","ticks","k","low","share"],["turn","lamps","length","wanted"],D_law_ticks⟩
def e19:Ent:=⟨n8,"_law_spans",top 22,["length","ticks","spans","at","lamp","share","end"],["length","ticks"],D_law_spans⟩
def e20:Ent:=⟨jw,"_law_frame",top 23,["left","head","lamps","days","away","lamp","turn"],["left"],D_law_frame_2⟩
def e21:Ent:=⟨ma,"_law_nights",top 24,["left","frame","nights","day","free","length","turn","wanted","ticks"],["left","frame"],D_law_nights⟩
def e22:Ent:=⟨dj,"_law_slack",top 25,["left","turn"],["left"],D_law_slack⟩
def e23:Ent:=⟨md,"_law_kept",top 26,["left","frame","nights","store","oil","first","tanks","most","days","rota","here","length","wanted","ticks","spans","asked","lamp","share","poured","lack","taken","price","lamps"],["left"],D_law_kept_3⟩
def e24:Ent:=⟨gn,"_law_span_bad",top 27,["length","lamps","spans","k","lamp","start","end","other"],["length","lamps","spans"],D_law_span_bad⟩
def e25:Ent:=⟨nh,"_law_dark",top 28,["length","wanted","spans","points","point"],["length","wanted","spans"],D_law_dark⟩
def e26:Ent:=⟨qe,"_law_word",top 29,["book","number","here","tanks","part","boat","most","price","length","wanted","taken","bought","poured","spans","full","k"],["book","number","here","tanks","part"],D_law_word⟩
def e27:Ent:=⟨jd,"_law_walk",top 30,["book","rota","here","tanks","heard","number","word","taken","bought","poured","spans","lamp","start","end"],["book","rota"],D_law_walk_2⟩
def e28:Ent:=⟨fk,"_law_same_fault",top 31,["found","due"],["found","due"],D_law_same_fault⟩
def e29:Ent:=⟨fg,"_law_other",top 32,["number","turn","bound","far"],["number","turn","bound"],D_law_other⟩
def e30:Ent:=⟨gh,"_law_span_spoilt",top 33,["spans","turn","length","lamps","kind","rest","span"],["spans","turn","length","lamps"],D_law_span_spoilt⟩
def e31:Ent:=⟨ja,"_law_spoilt",top 34,["book","rota","turn","at","rest","taken","bought","poured","spans","boat","most","price","length","wanted","lamps","lamp","tank"],["book","rota","turn"],D_law_spoilt_2⟩
def e32:Ent:=⟨wy,"law",top 35,["script","book","rota","cells","k","due","heard"],["script"],D_law_k08⟩
def ents:List Ent:=[e0,e1,e2,e3,e4,e5,e6,e7,e8,e9,e10,e11,e12,e13,e14,e15,e16,e17,e18,e19,e20,e21,e22,e23,e24,e25,e26,e27,e28,e29,e30,e31,e32]
def qi:List Str:=["zip","all","range","tuple","any","sum","len","min","enumerate","isinstance","int","bool","max","sorted","list","set","str","reversed"]
theorem arS {k:Nat} {Q:List Value->Prop} (h:∀a us,us.length=k->Q (a::us)):∀us:List Value,us.length=k+1->Q us
 | [],e=>nomatch e
 | a::us,e=>h a us (Nat.succ.inj e)
theorem ar0 {Q:List Value->Prop} (h:∀(_:Unit),Q []):∀us:List Value,us.length=0->Q us
 | [],_=>h ()
theorem ar1 {Q:List Value->Prop} (h:∀(a0:Value),Q [a0]):∀us:List Value,us.length=1->Q us:=arS λa0=>ar0 (Q:=λus=>Q (a0::us)) (λ_=>h a0)
theorem ar2 {Q:List Value->Prop} (h:∀(a0 a1:Value),Q [a0,a1]):∀us:List Value,us.length=2->Q us:=arS λa0=>ar1 (Q:=λus=>Q (a0::us)) (h a0)
theorem ar3 {Q:List Value->Prop} (h:∀(a0 a1 a2:Value),Q [a0,a1,a2]):∀us:List Value,us.length=3->Q us:=arS λa0=>ar2 (Q:=λus=>Q (a0::us)) (h a0)
theorem ar4 {Q:List Value->Prop} (h:∀(a0 a1 a2 a3:Value),Q [a0,a1,a2,a3]):∀us:List Value,us.length=4->Q us:=arS λa0=>ar3 (Q:=λus=>Q (a0::us)) (h a0)
theorem ar5 {Q:List Value->Prop} (h:∀(a0 a1 a2 a3 a4:Value),Q [a0,a1,a2,a3,a4]):∀us:List Value,us.length=5->Q us:=arS λa0=>ar4 (Q:=λus=>Q (a0::us)) (h a0)
section
variable {P : Program} {w : World} {K : PySem.W.Frag} {mg : Str -> Option Value} {base : Heap}
theorem dv0 (B:∀(j:Nat) x,qi[j]? = some x->mg x=none):Derived GL P w K mg base ents e0:=dmk λn fa cdv A outer s H E hu C =>
 (aq (bu (To (B 1 _ rfl) (ae (d6 ["one","other"] (ym (B 0 _ rfl) (aa 0) (Vb (aa 0) (Va ag) U9)) (λ_ _ _ _=>⟨(dh (ai 0 (ai 1 dg))),br,(wc (aa 0) (wb hu .lt (aa 1)))⟩)) ah))) bh)
theorem dv1 (B:∀(j:Nat) x,qi[j]? = some x->mg x=none):Derived GL P w K mg base ents e1:=dmk λn fa cdv A outer s H E hu C =>
 (aq (rj (dh (ai 3 (ai 4 (ai 5 dg)))) (cf (cf (aa 0) ag) (aa 1))) (aq (bu (wc (aa 2) (wb hu .notin (aa 5)))) bh))
theorem dv2 (B:∀(j:Nat) x,qi[j]? = some x->mg x=none):Derived GL P w K mg base ents e2:=dmk λn fa cdv A outer s H E hu C =>
 (aq (bc 2 (Xb false)) (aq (o7 (gk (aa 1)) (dh (ai 3 (ai 4 (ai 5 dg)))) (aq (oy hu (aa 2) (aa 3) (aj (aj (zy hu (aa 2) (aa 3) ag) (aa 5)) (aa 4))) bh)) (aq (bu (cq (B 3 _ rfl) (ae (d6 ["ticks","lamp"] (gm (B 2 _ rfl) (aa 0)) (λ_ _ _ _=>⟨(bp 1),br,(zy hu (aa 0) (aa 1) ag)⟩)) ah))) bh)))
theorem dv3 (B:∀(j:Nat) x,qi[j]? = some x->mg x=none):Derived GL P w K mg base ents e3:=dmk λn fa cdv A outer s H E hu C =>
 (aq (bu (Tj (wc (cf (aa 0) ag) (wb hu .eq (cf (aa 1) ag))) (J3 (wc (cf (aa 1) ag) (wb hu .lt (cf (aa 0) ag)))))) bh)
theorem dv4 (B:∀(j:Nat) x,qi[j]? = some x->mg x=none):Derived GL P w K mg base ents e4:=dmk λn fa cdv A outer s H E hu C =>
 (aq (o7 (gk (aa 2)) (dh (ai 3 (ai 4 (ai 5 dg)))) (aq (kc (r6 (Fc (Bp (az ag (Qh hu .le (aa 3) (bz hu .lt (aa 1)))) (zu (az ag (Qh hu .le (aa 4) (Qh hu .lt (aa 5) (bz hu .le (aa 0))))))))) (aq (bu M8) bh) bh) bh)) (aq (bu (ac2 (Ti (ax (C 0 _ rfl) (ae (aa 2) ah))) (aaf (wj (B 4 _ rfl) (ae (d6 ["one","other"] (ym (B 0 _ rfl) (aa 2) (Vb (aa 2) (Va ag) U9)) (λ_ _ _ _=>⟨(dh (ai 0 (ai 1 dg))),br,(ax (C 3 _ rfl) (ae (aa 0) (ae (aa 1) ah)))⟩)) ah))))) bh))
theorem dv5 (B:∀(j:Nat) x,qi[j]? = some x->mg x=none):Derived GL P w K mg base ents e5:=dmk λn fa cdv A outer s H E hu C =>
 (aq (bc 3 (Xc 1 0 1)) (aq (o7 (gk (aa 2)) (dh (ai 4 (ai 5 (ai 6 dg)))) (aq (oy hu (aa 3) (aa 5) (aj (zy hu (aa 3) (aa 5) ag) ag)) (aq (oy hu (aa 3) (aa 6) (aj (zy hu (aa 3) (aa 6) ag) ag)) bh))) (aq (bu (wj (B 4 _ rfl) (ae (d6 ["change"] (T7 (aa 3)) (λ_ _ _ _=>⟨(bp 0),br,(wc (aa 0) (wb hu .ne ag))⟩)) ah))) bh)))
theorem dv6 (B:∀(j:Nat) x,qi[j]? = some x->mg x=none):Derived GL P w K mg base ents e6:=dmk λn fa cdv A outer s H E hu C =>
 (aq (bu (jt (ae (cf (aa 0) ag) (ae (cq (B 3 _ rfl) (ae (d6 ["tank","oil","away"] (gk (cf (aa 0) ag)) (λ_ _ _ _=>⟨(dh (ai 0 (ai 1 (ai 2 dg)))),br,(aa 1)⟩)) ah)) ah)))) bh)
theorem dv7 (B:∀(j:Nat) x,qi[j]? = some x->mg x=none):Derived GL P w K mg base ents e7:=dmk λn fa cdv A outer s H E hu C =>
 (aq (bu (cq (B 3 _ rfl) (ae (d6 ["level","much"] (ym (B 0 _ rfl) (aa 0) (aa 1)) (λ_ _ _ _=>⟨(dh (ai 0 (ai 1 dg))),br,(aj (aa 0) (aa 1))⟩)) ah))) bh)
theorem dv8 (B:∀(j:Nat) x,qi[j]? = some x->mg x=none):Derived GL P w K mg base ents e8:=dmk λn fa cdv A outer s H E hu C =>
 (aq (rj (dh (ai 3 (ai 4 dg))) (aa 1)) (aq (rj (dh (ai 5 (ai 6 (ai 7 (ai 8 dg))))) (aa 2)) (aq (bc 9 (aj (aj (aj (aa 3) (aa 5)) (aa 6)) (rh (B 5 _ rfl) (ae (aa 7) ah)))) (aq (bc 10 (ax (C 2 _ rfl) (ae (cb (B 6 _ rfl) (ae (aa 4) ah)) (ae (aa 8) ah)))) (aq (bu (jt (ae (o8 (B 7 _ rfl) (ae (aa 9) (ae (cf (aa 0) ag) ah))) (ae (cq (B 3 _ rfl) (ae (d6 ["level","burns"] (ym (B 0 _ rfl) (ax (C 7 _ rfl) (ae (aa 4) (ae (aa 7) ah))) (aa 10)) (λ_ _ _ _=>⟨(dh (ai 0 (ai 1 dg))),br,(aj (aa 0) (aa 1))⟩)) ah)) ah)))) bh)))))
theorem dv9 (B:∀(j:Nat) x,qi[j]? = some x->mg x=none):Derived GL P w K mg base ents e9:=dmk λn fa cdv A outer s H E hu C =>
 (aq (rj (dh (ai 4 (ai 5 (ai 6 (ai 7 (ai 8 dg)))))) (cf (cf (aa 0) ag) (aa 1))) (aq (rj (dh (ai 9 (ai 10 dg))) (aa 2)) (aq (rj (dh (ai 11 (ai 12 (ai 13 (ai 14 dg))))) (aa 3)) (aq (kc (r6 (az ag (Qh hu .le (aa 11) (bz hu .le (aa 4))))) (aq (bu o6) bh) bh) (aq (kc (r6 (az ag (Qh hu .le (aa 12) (bz hu .le (aa 5))))) (aq (bu o6) bh) bh) (aq (kc (Fc (we (az (Oe (B 7 _ rfl) (ae (aa 13) ah)) (bz hu .lt ag)) (qq (az (rh (B 5 _ rfl) (ae (aa 13) ah)) (bz hu .gt (aj (aj (aa 9) (aa 11)) (aa 12))))))) (aq (bu o6) bh) bh) (aq (bc 15 (ax (C 7 _ rfl) (ae (aa 10) (ae (aa 13) ah)))) (aq (kc (ki (wj (B 4 _ rfl) (ae (d6 ["level","lamp"] (ym (B 0 _ rfl) (aa 15) (cf (aa 0) ag)) (λ_ _ _ _=>⟨(dh (ai 0 (ai 1 dg))),br,(wc (aa 0) (wb hu .gt (cf (aa 1) ag)))⟩)) ah))) (aq (bu o6) bh) bh) (aq (bu (ax (C 10 _ rfl) (ae (aa 0) (ae (aa 1) (ae (aa 15) (ae (aa 14) ah)))))) bh)))))))))
theorem ac9 (B:∀(j:Nat) x,qi[j]? = some x->mg x=none):Derived GL P w K mg base ents e10:=dmk λn fa cdv A outer s H E hu C =>
 (aq (rj (dh (ai 4 (ai 5 (ai 6 (ai 7 (ai 8 dg)))))) (cf (cf (aa 0) ag) (aa 1))) (aq (kc (ki (ax (C 4 _ rfl) (ae (aa 7) (ae (cb (B 6 _ rfl) (ae (aa 2) ah)) (ae (aa 3) ah))))) (aq (bu o6) bh) bh) (aq (kc (ki (wj (B 4 _ rfl) (ae (d6 ["book","day","lamp","start","end"] (gk (aa 3)) (λ_ _ _ _=>⟨(dh (ai 2 (ai 3 (ai 4 dg)))),br,(Ti (ax (C 1 _ rfl) (ae (aa 0) (ae (aa 2) (ae (aa 1) ah)))))⟩)) ah))) (aq (bu o6) bh) bh) (aq (bc 9 (ax (C 2 _ rfl) (ae (cb (B 6 _ rfl) (ae (aa 2) ah)) (ae (aa 3) ah)))) (aq (kc (ki (wj (B 4 _ rfl) (ae (d6 ["burns","level"] (ym (B 0 _ rfl) (aa 9) (aa 2)) (λ_ _ _ _=>⟨(dh (ai 0 (ai 1 dg))),br,(wc (aa 0) (wb hu .gt (aa 1)))⟩)) ah))) (aq (bu o6) bh) bh) (aq (kc (ki (ax (C 5 _ rfl) (ae (aa 7) (ae (aa 8) (ae (aa 3) ah))))) (aq (bu o6) bh) bh) (aq (bu Bo) bh)))))))
theorem ada (B:∀(j:Nat) x,qi[j]? = some x->mg x=none):Derived GL P w K mg base ents e11:=dmk λn fa cdv A outer s H E hu C =>
 (aq (bc 2 (ax (C 6 _ rfl) (ae (aa 0) ah))) (aq (o7 (T4 (B 8 _ rfl) (aa 1)) (dh (ai 3 (ai 4 dg))) (aq (bc 5 (ax (C 9 _ rfl) (ae (aa 0) (ae (aa 3) (ae (aa 2) (ae (aa 4) ah)))))) (aq (kc (az (aa 5) (bz hu .isnot Bo)) (aq (bu (jt (ae (aa 3) (ae (aa 5) ah)))) bh) bh) (aq (bc 2 (ax (C 8 _ rfl) (ae (aa 0) (ae (aa 2) (ae (aa 4) ah))))) bh)))) (aq (bu Bo) bh)))
theorem adb (B:∀(j:Nat) x,qi[j]? = some x->mg x=none):Derived GL P w K mg base ents e12:=dmk λn fa cdv A outer s H E hu C =>
 (aq (bu (wc (ax (C 11 _ rfl) (ae (aa 0) (ae (aa 1) ah))) (wb hu .is Bo))) bh)
theorem ade (B:∀(j:Nat) x,qi[j]? = some x->mg x=none):Derived GL P w K mg base ents e13:=dmk λn fa cdv A outer s H E hu C =>
 (aq (bu (Tj (J4 (aa 0) (B 9 _ rfl) (B 10 _ rfl)) (J3 (Ti (J4 (aa 0) (B 9 _ rfl) (B 11 _ rfl)))))) bh)
theorem adf (B:∀(j:Nat) x,qi[j]? = some x->mg x=none):Derived GL P w K mg base ents e14:=dmk λn fa cdv A outer s H E hu C =>
 (aq (kc (az (cb (B 6 _ rfl) (ae (aa 0) ah)) (bz hu .gt ag)) (aq (bu (Ob (aa 0))) bh) bh) (aq (bu ag) bh))
theorem adg (B:∀(j:Nat) x,qi[j]? = some x->mg x=none):Derived GL P w K mg base ents e15:=dmk λn fa cdv A outer s H E hu C =>
 (aq (bc 1 (aj (aj (aj (aj (aa 0) (aj ag ag)) ag) ag) ag)) (aq (bu (aj (aj (aj (aa 1) (aa 1)) ag) ag)) bh))
theorem adh (B:∀(j:Nat) x,qi[j]? = some x->mg x=none):Derived GL P w K mg base ents e16:=dmk λn fa cdv A outer s H E hu C =>
 (aq (bc 2 (ax (C 15 _ rfl) (ae (aa 0) ah))) (aq (kc (az (aj (aa 2) ag) (bz hu .lt ag)) (aq (bu (o8 (B 7 _ rfl) (ae (aa 1) (ae (aj (aj (aa 2) ag) ag) ah)))) bh) bh) (aq (kc (az (aj (aa 2) ag) (bz hu .eq ag)) (aq (bu (aj (aa 1) (aj (aj (aa 2) ag) ag))) bh) bh) (aq (bu (aj (aa 0) (aj (aa 1) ag))) bh))))
theorem adi (B:∀(j:Nat) x,qi[j]? = some x->mg x=none):Derived GL P w K mg base ents e17:=dmk λn fa cdv A outer s H E hu C =>
 (aq (kc (az (aj (aa 0) ag) (bz hu .lt ag)) (aq (bu (aj (aa 1) (aj (aj (aj (aa 0) ag) ag) (aj (aj (aa 2) (aa 1)) ag)))) bh) bh) (aq (bu (cf (qj (ae (aa 1) (ae (aa 2) ah))) (aj (aa 0) ag))) bh))
theorem adj (B:∀(j:Nat) x,qi[j]? = some x->mg x=none):Derived GL P w K mg base ents e18:=dmk λn fa cdv A outer s H E hu C =>
 (aq (r8 4 ["lamps","turn","k"] (gm (B 2 _ rfl) (cb (B 6 _ rfl) (ae (aa 1) ah))) (λ_ _ _ _=>⟨(bp 2),br,(cf (aa 0) (aj (aj (aa 2) (aa 1)) (cb (B 6 _ rfl) (ae (aa 0) ah))))⟩)) (aq (bc 5 (aj (aa 3) (aa 2))) (aq (bc 6 (qj ah)) (aq (o7 (gm (B 2 _ rfl) (cb (B 6 _ rfl) (ae (aa 4) ah))) (bp 7) (aq (bc 8 (t8 (B 12 _ rfl) (ae ag (ae (aj (aa 5) (aj (aa 2) (aj (aj (cb (B 6 _ rfl) (ae (aa 4) ah)) (aa 7)) ag))) ah)))) (aq (bc 9 (ax (C 17 _ rfl) (ae (aj (aj (aj (aa 0) ag) (aj (aj ag (aa 7)) (aa 7))) (aa 7)) (ae (aa 8) (ae (o8 (B 7 _ rfl) (ae (aa 2) (ae (aa 5) ah))) ah))))) (aq (Fd (di (aa 6) (ae (jt (ae (cf (aa 4) (aa 7)) (ae (aa 9) ah))) ah))) (aq (bc 5 (aj (aa 5) (aa 9))) bh))))) (aq (bu (J2 6)) bh)))))
theorem adk (B:∀(j:Nat) x,qi[j]? = some x->mg x=none):Derived GL P w K mg base ents e19:=dmk λn fa cdv A outer s H E hu C =>
 (aq (bc 2 (qj ah)) (aq (bc 3 ag) (aq (o7 (gk (aa 1)) (dh (ai 4 (ai 5 dg))) (aq (bc 6 (aj (aa 3) (aa 5))) (aq (kc (az (aa 5) (bz hu .gt ag)) (aq (Fd (di (aa 2) (ae (jt (ae (aa 4) (ae (aa 3) (ae (o8 (B 7 _ rfl) (ae (aa 6) (ae (aa 0) ah))) ah)))) ah))) bh) bh) (aq (kc (az (aa 6) (bz hu .gt (aa 0))) (aq (Fd (di (aa 2) (ae (jt (ae (aa 4) (ae ag (ae (aj (aa 6) (aa 0)) ah)))) ah))) bh) bh) (aq (bc 3 (aj (aa 6) (aa 0))) bh))))) (aq (bu (cq (B 3 _ rfl) (ae (yo (B 13 _ rfl) (ae (aa 2) ah)) ah))) bh))))
theorem adl (B:∀(j:Nat) x,qi[j]? = some x->mg x=none):Derived GL P w K mg base ents e20:=dmk λn fa cdv A outer s H E hu C =>
 (aq (bc 1 (ax (C 15 _ rfl) (ae (ax (C 14 _ rfl) (ae (aa 0) ah)) ah))) (aq (bc 2 (aj ag (aj (aa 1) ag))) (aq (bc 3 (aj ag (aj (aj (aa 1) ag) ag))) (aq (kc (az (aj (aj (aa 1) ag) ag) (bz hu .eq ag)) (aq (bc 2 (aj ag (aj (aj (aa 1) ag) ag))) (aq (bc 3 (aj ag (aj (aj (aa 1) ag) ag))) bh)) bh) (aq (bc 4 (qj ah)) (aq (o7 (gm (B 2 _ rfl) (aa 2)) (bp 5) (aq (bc 6 (ax (C 15 _ rfl) (ae (ax (C 14 _ rfl) (ae (aa 0) ah)) ah))) (aq (Fd (di (aa 4) (ae (d6 ["turn","day"] (gm (B 2 _ rfl) (aa 3)) (λ_ _ _ _=>⟨(bp 1),(n3 (Fc (Bp (az (aj (aa 0) ag) (bz hu .eq ag)) (zu (az (aj (aj (aa 0) (aj (aa 1) ag)) ag) (bz hu .eq ag))))) br),(aa 1)⟩)) ah))) bh))) (aq (bu (jt (ae (aa 2) (ae (aa 3) (ae (J2 4) ah))))) bh)))))))
theorem adm (B:∀(j:Nat) x,qi[j]? = some x->mg x=none):Derived GL P w K mg base ents e21:=dmk λn fa cdv A outer s H E hu C =>
 (aq (bc 2 (qj ah)) (aq (o7 (gm (B 2 _ rfl) (cf (aa 1) ag)) (bp 3) (aq (r8 4 ["day","frame","lamp"] (gm (B 2 _ rfl) (cf (aa 1) ag)) (λ_ _ _ _=>⟨(bp 2),(n3 (az (aa 0) (bz hu .notin (cf (cf (aa 1) ag) (aa 2)))) br),(aa 2)⟩)) (aq (bc 5 (t8 (B 12 _ rfl) (ae ag (ae (ax (C 16 _ rfl) (ae (ax (C 14 _ rfl) (ae (aa 0) ah)) (ae (aj ag ag) ah))) ah)))) (aq (bc 6 (ax (C 15 _ rfl) (ae (ax (C 14 _ rfl) (ae (aa 0) ah)) ah))) (aq (bc 7 (aj (aa 6) (aj (cb (B 6 _ rfl) (ae (aa 4) ah)) ag))) (aq (bc 8 (qj ah)) (aq (kc (az (cb (B 6 _ rfl) (ae (aa 4) ah)) (bz hu .gt ag)) (aq (bc 8 (ax (C 18 _ rfl) (ae (aj (aa 6) ag) (ae (aa 4) (ae (aa 5) (ae (aa 7) ah)))))) bh) bh) (aq (Fd (di (aa 2) (ae (jt (ae (aa 5) (ae (aa 7) (ae (aa 8) (ae (ax (C 19 _ rfl) (ae (aa 5) (ae (aa 8) ah))) ah))))) ah))) bh)))))))) (aq (bu (J2 2)) bh)))
theorem adn (B:∀(j:Nat) x,qi[j]? = some x->mg x=none):Derived GL P w K mg base ents e22:=dmk λn fa cdv A outer s H E hu C =>
 (aq (bc 1 (ax (C 15 _ rfl) (ae (ax (C 14 _ rfl) (ae (aa 0) ah)) ah))) (aq (kc (az (aj (aa 1) ag) (bz hu .lt ag)) (aq (bu ag) bh) bh) (aq (bu (aj (aj (aa 1) ag) ag)) bh)))
theorem ado (B:∀(j:Nat) x,qi[j]? = some x->mg x=none):Derived GL P w K mg base ents e23:=dmk λn fa cdv A outer s H E hu C =>
 (aq (bc 1 (ax (C 20 _ rfl) (ae (aa 0) ah))) (aq (bc 2 (ax (C 21 _ rfl) (ae (aa 0) (ae (aa 1) ah)))) (aq (bc 3 (ax (C 16 _ rfl) (ae (ax (C 14 _ rfl) (ae (aa 0) ah)) (ae (aj ag ag) ah)))) (aq (bc 4 (ax (C 22 _ rfl) (ae (aa 0) ah))) (aq (r8 5 ["left","lamp"] (gm (B 2 _ rfl) (cf (aa 1) ag)) (λ_ _ _ _=>⟨(bp 1),br,(ax (C 22 _ rfl) (ae (aa 0) ah))⟩)) (aq (bc 6 (qb (B 14 _ rfl) (ae (aa 5) ah))) (aq (bc 7 (qb (B 14 _ rfl) (ae (aa 5) ah))) (aq (bc 8 (qj ah)) (aq (bc 9 (qj ah)) (aq (bc 10 (aa 4)) (aq (o7 (gk (aa 2)) (dh (ai 11 (ai 12 (ai 13 (ai 14 dg))))) (aq (bc 15 (d6 ["lamp"] (gm (B 2 _ rfl) (cf (aa 1) ag)) (λ_ _ _ _=>⟨(bp 0),br,ag⟩))) (aq (o7 (gk (aa 13)) (dh (ai 16 (ai 17 dg))) (aq (oy hu (aa 15) (aa 16) (aa 17)) bh)) (aq (bc 18 (d6 ["asked","tanks","left","k"] (gm (B 2 _ rfl) (cf (aa 1) ag)) (λ_ _ _ _=>⟨(bp 3),br,(aj (t8 (B 12 _ rfl) (ae ag (ae (aj (cf (aa 0) (aa 3)) (cf (aa 1) (aa 3))) ah))) (ax (C 22 _ rfl) (ae (aa 2) ah)))⟩))) (aq (bc 19 (aj (t8 (B 12 _ rfl) (ae ag (ae (aj (rh (B 5 _ rfl) (ae (aa 18) ah)) (aa 10)) ah))) (ax (C 22 _ rfl) (ae (aa 0) ah)))) (aq (bc 20 (ax (C 17 _ rfl) (ae (ax (C 15 _ rfl) (ae (ax (C 14 _ rfl) (ae (aa 0) ah)) ah)) (ae ag (ae (aa 19) ah))))) (aq (bc 6 (d6 ["tanks","poured","k"] (gm (B 2 _ rfl) (cf (aa 1) ag)) (λ_ _ _ _=>⟨(bp 2),br,(aj (cf (aa 0) (aa 2)) (cf (aa 1) (aa 2)))⟩))) (aq (bc 7 (d6 ["most","tanks","k"] (gm (B 2 _ rfl) (cf (aa 1) ag)) (λ_ _ _ _=>⟨(bp 2),br,(t8 (B 12 _ rfl) (ae (cf (aa 0) (aa 2)) (ae (cf (aa 1) (aa 2)) ah)))⟩))) (aq (bc 6 (d6 ["tanks","asked","k"] (gm (B 2 _ rfl) (cf (aa 1) ag)) (λ_ _ _ _=>⟨(bp 2),br,(aj (cf (aa 0) (aa 2)) (cf (aa 1) (aa 2)))⟩))) (aq (bc 10 (o8 (B 7 _ rfl) (ae (aa 3) (ae (aj (aj (aa 10) (aa 19)) (rh (B 5 _ rfl) (ae (aa 18) ah))) ah)))) (aq (bc 21 (ax (C 16 _ rfl) (ae (ax (C 14 _ rfl) (ae (aa 0) ah)) (ae (aj ag ag) ah)))) (aq (Fd (di (aa 8) (ae (jt (ae (aj (aa 20) (ax (C 22 _ rfl) (ae (aa 0) ah))) (ae (aj (aj (aa 19) (aa 20)) (ax (C 22 _ rfl) (ae (aa 0) ah))) (ae (aa 21) (ae (aa 11) (ae (aa 12) ah)))))) ah))) (aq (Fd (di (aa 9) (ae (jt (ae (aa 20) (ae (aj (aa 19) (aa 20)) (ae (cq (B 3 _ rfl) (ae (aa 18) ah)) (ae (aa 14) ah))))) ah))) bh))))))))))))) (aq (bc 22 (qj ah)) (aq (o7 (gm (B 2 _ rfl) (cf (aa 1) ag)) (bp 16) (aq (Fd (di (aa 22) (ae (jt (ae (aj (cf (aa 7) (aa 16)) (ax (C 22 _ rfl) (ae (aa 0) ah))) (ae (cf (aa 5) (aa 16)) (ae (cq (B 3 _ rfl) (ae (cf (cf (aa 1) ag) (aa 16)) ah)) ah)))) ah))) bh)) (aq (bu (jt (ae (jt (ae (aa 3) (ae (aa 4) (ae (cq (B 3 _ rfl) (ae (aa 22) ah)) (ae (cq (B 3 _ rfl) (ae (aa 8) ah)) ah))))) (ae (cq (B 3 _ rfl) (ae (aa 9) ah)) ah)))) bh))))))))))))))
theorem adp (B:∀(j:Nat) x,qi[j]? = some x->mg x=none):Derived GL P w K mg base ents e24:=dmk λn fa cdv A outer s H E hu C =>
 (aq (o7 (gm (B 2 _ rfl) (cb (B 6 _ rfl) (ae (aa 2) ah))) (bp 3) (aq (rj (dh (ai 4 (ai 5 (ai 6 dg)))) (cf (aa 2) (aa 3))) (aq (kc (Fc (we (r6 (az ag (Qh hu .le (aa 4) (bz hu .lt (aa 1))))) (qq (r6 (az ag (Qh hu .le (aa 5) (Qh hu .lt (aa 6) (bz hu .le (aa 0))))))))) (aq (bu M8) bh) bh) (aq (o7 (gk (Vb (aa 2) U9 (Va (aa 3)))) (bp 7) (aq (kc (Fc (we (az (aa 7) (bz hu .ge (cf (aa 2) (aa 3)))) (qq (Fc (Bp (az (cf (aa 7) ag) (bz hu .eq (aa 4))) (Bp (az (cf (aa 7) ag) (bz hu .lt (aa 6))) (zu (az (aa 5) (bz hu .lt (cf (aa 7) ag)))))))))) (aq (bu M8) bh) bh) bh)) bh)))) (aq (bu M8) bh))
theorem adq (B:∀(j:Nat) x,qi[j]? = some x->mg x=none):Derived GL P w K mg base ents e25:=dmk λn fa cdv A outer s H E hu C =>
 (aq (bc 3 (wt (B 13 _ rfl) (B 15 _ rfl) (aj (aj (qj (ae ag ah)) (d6 ["span"] (gk (aa 2)) (λ_ _ _ _=>⟨(bp 0),br,(cf (aa 0) ag)⟩))) (d6 ["span"] (gk (aa 2)) (λ_ _ _ _=>⟨(bp 0),br,(cf (aa 0) ag)⟩))))) (aq (o7 (gk (aa 3)) (bp 4) (aq (kc (az (aa 4) (bz hu .lt (aa 0))) (aq (kc (az (cb (B 6 _ rfl) (ae (d6 ["point","span"] (gk (aa 2)) (λ_ _ _ _=>⟨(bp 1),(n3 (Fc (Bp (az (cf (aa 1) ag) (bz hu .le (aa 0))) (zu (az (aa 0) (bz hu .lt (cf (aa 1) ag)))))) br),(aa 1)⟩)) ah)) (bz hu .ne (aa 1))) (aq (bu M8) bh) bh) bh) bh) bh)) (aq (bu M8) bh)))
theorem ads (B:∀(j:Nat) x,qi[j]? = some x->mg x=none):Derived GL P w K mg base ents e26:=dmk λn fa cdv A outer s H E hu C =>
 (aq (rj (dh (ai 5 (ai 6 (ai 7 (ai 8 (ai 9 dg)))))) (cf (cf (aa 0) ag) (aa 1))) (aq (rj (dh (ai 10 (ai 11 (ai 12 (ai 13 dg))))) (aa 4)) (aq (kc (Fc (we (az (aa 10) (bz hu .lt ag)) (qq (az (aa 10) (bz hu .gt (aa 5)))))) (aq (bu o6) bh) bh) (aq (kc (Fc (we (az (aa 11) (bz hu .lt ag)) (qq (az (aa 11) (bz hu .gt (aa 6)))))) (aq (bu o6) bh) bh) (aq (kc (Fc (we (az (cb (B 6 _ rfl) (ae (d6 ["much"] (gk (aa 12)) (λ_ _ _ _=>⟨(bp 0),(n3 (az (aa 0) (bz hu .lt ag)) br),(aa 0)⟩)) ah)) (bz hu .gt ag)) (qq (az (rh (B 5 _ rfl) (ae (aa 12) ah)) (bz hu .gt (aj (aj (aa 2) (aa 10)) (aa 11))))))) (aq (bu o6) bh) bh) (aq (bc 14 (d6 ["tanks","poured","k"] (gm (B 2 _ rfl) (cb (B 6 _ rfl) (ae (aa 3) ah))) (λ_ _ _ _=>⟨(bp 2),br,(aj (cf (aa 0) (aa 2)) (cf (aa 1) (aa 2)))⟩))) (aq (kc (az (cb (B 6 _ rfl) (ae (d6 ["full","book","k"] (gm (B 2 _ rfl) (cb (B 6 _ rfl) (ae (aa 14) ah))) (λ_ _ _ _=>⟨(bp 2),(n3 (az (cf (aa 0) (aa 2)) (bz hu .gt (cf (cf (cf (aa 1) ag) (aa 2)) ag))) br),(aa 2)⟩)) ah)) (bz hu .gt ag)) (aq (bu o6) bh) bh) (aq (kc (ki (ax (C 24 _ rfl) (ae (aa 8) (ae (cb (B 6 _ rfl) (ae (aa 3) ah)) (ae (aa 13) ah))))) (aq (bu o6) bh) bh) (aq (kc (az (cb (B 6 _ rfl) (ae (d6 ["number","book","span"] (gk (aa 13)) (λ_ _ _ _=>⟨(bp 2),(n3 (az (aa 0) (bz hu .in_ (cf (cf (cf (aa 1) ag) (cf (aa 2) ag)) ag))) br),(aa 2)⟩)) ah)) (bz hu .gt ag)) (aq (bu o6) bh) bh) (aq (o7 (gm (B 2 _ rfl) (cb (B 6 _ rfl) (ae (aa 14) ah))) (bp 15) (aq (kc (az (rh (B 5 _ rfl) (ae (d6 ["k","span"] (gk (aa 13)) (λ_ _ _ _=>⟨(bp 1),(n3 (az (cf (aa 1) ag) (bz hu .eq (aa 0))) br),(aj (cf (aa 1) ag) (cf (aa 1) ag))⟩)) ah)) (bz hu .gt (cf (aa 14) (aa 15)))) (aq (bu o6) bh) bh) bh)) (aq (kc (ki (ax (C 25 _ rfl) (ae (aa 8) (ae (aa 9) (ae (aa 13) ah))))) (aq (bu o6) bh) bh) (aq (bu o6) bh))))))))))))
theorem adt (B:∀(j:Nat) x,qi[j]? = some x->mg x=none):Derived GL P w K mg base ents e27:=dmk λn fa cdv A outer s H E hu C =>
 (aq (bc 2 (cf (aa 0) ag)) (aq (bc 3 (d6 ["lamp"] (gk (cf (aa 0) ag)) (λ_ _ _ _=>⟨(bp 0),br,(cf (aa 0) ag)⟩))) (aq (bc 4 (qj ah)) (aq (o7 (gm (B 2 _ rfl) (cb (B 6 _ rfl) (ae (aa 1) ah))) (bp 5) (aq (bc 6 (ax (C 26 _ rfl) (ae (aa 0) (ae (aa 5) (ae (aa 2) (ae (aa 3) (ae (cf (aa 1) (aa 5)) ah))))))) (aq (kc (az (aa 6) (bz hu .ne o6)) (aq (bu (jt (ae (jt (ae (aa 5) (ae (aa 6) ah))) (ae (J2 4) ah)))) bh) bh) (aq (rj (dh (ai 7 (ai 8 (ai 9 (ai 10 dg))))) (cf (aa 1) (aa 5))) (aq (bc 2 (o8 (B 7 _ rfl) (ae (cf (aa 0) ag) (ae (aj (aj (aj (aa 2) (aa 7)) (aa 8)) (rh (B 5 _ rfl) (ae (aa 9) ah))) ah)))) (aq (bc 3 (d6 ["tanks","poured","k"] (gm (B 2 _ rfl) (cb (B 6 _ rfl) (ae (aa 3) ah))) (λ_ _ _ _=>⟨(bp 2),br,(aj (cf (aa 0) (aa 2)) (cf (aa 1) (aa 2)))⟩))) (aq (o7 (gk (aa 10)) (dh (ai 11 (ai 12 (ai 13 dg)))) (aq (oy hu (aa 3) (aa 11) (aj (cf (aa 3) (aa 11)) (aj (aa 13) (aa 12)))) bh)) (aq (Fd (di (aa 4) (ae (jt (ae (aa 2) (ae (cq (B 3 _ rfl) (ae (aa 3) ah)) ah))) ah))) bh)))))))) (aq (bu (jt (ae Bo (ae (J2 4) ah)))) bh)))))
theorem adu (B:∀(j:Nat) x,qi[j]? = some x->mg x=none):Derived GL P w K mg base ents e28:=dmk λn fa cdv A outer s H E hu C =>
 (aq (kc (az (aa 1) (bz hu .is Bo)) (aq (bu (wc (aa 0) (wb hu .is Bo))) bh) bh) (aq (kc (Fc (we (r6 (ki (J4 (aa 0) (B 9 _ rfl) (B 3 _ rfl)))) (we (az (cb (B 6 _ rfl) (ae (aa 0) ah)) (bz hu .ne ag)) (qq (r6 (ki (ax (C 13 _ rfl) (ae (cf (aa 0) ag) ah)))))))) (aq (bu M8) bh) bh) (aq (bu (Tj (J4 (cf (aa 0) ag) (B 9 _ rfl) (B 16 _ rfl)) (J3 (wc (aa 0) (wb hu .eq (aa 1)))))) bh)))
theorem adv (B:∀(j:Nat) x,qi[j]? = some x->mg x=none):Derived GL P w K mg base ents e29:=dmk λn fa cdv A outer s H E hu C =>
 (aq (bc 3 (aj (aj (aa 1) ag) (aj ag ag))) (aq (bu (cf (qj (ae (aj (aa 0) ag) (ae (aj (aa 0) ag) (ae (N9 ag) (ae (aj (aa 2) ag) (ae (aa 2) (ae (aj (N9 ag) (aa 3)) (ae (aj (aa 0) (aa 3)) (ae ag ah))))))))) (aj (aa 1) ag))) bh))
theorem adw (B:∀(j:Nat) x,qi[j]? = some x->mg x=none):Derived GL P w K mg base ents e30:=dmk λn fa cdv A outer s H E hu C =>
 (aq (r8 0 ["span"] (gk (aa 0)) (λ_ _ _ _=>⟨(bp 0),br,(qb (B 14 _ rfl) (ae (aa 0) ah))⟩)) (aq (bc 4 (aj (aa 1) ag)) (aq (bc 5 (aj (aa 1) ag)) (aq (kc (Fc (we (az (cb (B 6 _ rfl) (ae (aa 0) ah)) (bz hu .eq ag)) (qq (az (aa 4) (bz hu .eq ag))))) (aq (Fd (di (aa 0) (ae (qj (ae (aj (aa 5) (aa 3)) (ae ag (ae (aj ag (aj (aj (aa 5) ag) (aa 2))) ah)))) ah))) (aq (bu (yo (B 13 _ rfl) (ae (d6 ["span"] (gk (aa 0)) (λ_ _ _ _=>⟨(bp 0),br,(cq (B 3 _ rfl) (ae (aa 0) ah))⟩)) ah))) bh)) bh) (aq (bc 6 (cf (aa 0) (aj (aa 5) (cb (B 6 _ rfl) (ae (aa 0) ah))))) (aq (kc (az (aa 4) (bz hu .eq ag)) (aq (Fd (Hk hu (aa 0) (ae (aa 6) ah))) bh) (aq (kc (az (aa 4) (bz hu .eq ag)) (aq (oy hu (aa 6) ag (cf (qj (ae (N9 ag) (ae (aa 3) (ae (aj (cf (aa 6) ag) ag) (ae ag ah))))) (aj (aj (aa 5) ag) ag))) bh) (aq (kc (az (aa 4) (bz hu .eq ag)) (aq (oy hu (aa 6) ag (ax (C 29 _ rfl) (ae (cf (aa 6) ag) (ae (aj (aa 5) ag) (ae (aa 2) ah))))) bh) (aq (kc (az (aa 4) (bz hu .eq ag)) (aq (oy hu (aa 6) ag (ax (C 29 _ rfl) (ae (cf (aa 6) ag) (ae (aj (aa 5) ag) (ae (aa 2) ah))))) bh) (aq (kc (az (aa 4) (bz hu .eq ag)) (aq (Fd (Dy (aa 0) (ae (aj (aj (aa 5) ag) (aj (cb (B 6 _ rfl) (ae (aa 0) ah)) ag)) (ae (qb (B 14 _ rfl) (ae (aa 6) ah)) ah)))) bh) (aq (kc (az (aa 4) (bz hu .eq ag)) (aq (Fd (Bq (aa 0))) bh) (aq (Fd (di (aa 0) (ae (qj (ae (cf (aa 6) ag) (ae (cf (aa 6) ag) (ae (aj (cf (aa 6) ag) (aj (aj (cf (aa 6) ag) (cf (aa 6) ag)) ag)) ah)))) ah))) (aq (oy hu (aa 6) ag (aj (cf (aa 6) ag) (aj (aj (cf (aa 6) ag) (cf (aa 6) ag)) ag))) (aq (bc 0 (K0 hu (B 13 _ rfl) (ae (aa 0) ah))) bh)))) bh)) bh)) bh)) bh)) bh)) (aq (bu (d6 ["span"] (gk (aa 0)) (λ_ _ _ _=>⟨(bp 0),br,(cq (B 3 _ rfl) (ae (aa 0) ah))⟩))) bh)))))))
theorem adx (B:∀(j:Nat) x,qi[j]? = some x->mg x=none):Derived GL P w K mg base ents e31:=dmk λn fa cdv A outer s H E hu C =>
 (aq (bc 3 (aj (aj (aa 2) ag) (cb (B 6 _ rfl) (ae (aa 1) ah)))) (aq (bc 4 (aj (aa 2) ag)) (aq (rj (dh (ai 5 (ai 6 (ai 7 (ai 8 dg))))) (cf (aa 1) (aa 3))) (aq (rj (dh (ai 9 (ai 10 (ai 11 (ai 12 (ai 13 dg)))))) (cf (cf (aa 0) ag) (aa 3))) (aq (bc 7 (qb (B 14 _ rfl) (ae (aa 7) ah))) (aq (bc 14 (qb (B 14 _ rfl) (ae (cf (aa 0) ag) ah))) (aq (bc 15 (aj (aa 4) (cb (B 6 _ rfl) (ae (aa 14) ah)))) (aq (kc (az (aj (aa 2) ag) (bz hu .eq ag)) (aq (bc 5 (ax (C 29 _ rfl) (ae (aa 5) (ae (aa 4) (ae (aa 9) ah))))) bh) (aq (kc (az (aj (aa 2) ag) (bz hu .eq ag)) (aq (bc 6 (ax (C 29 _ rfl) (ae (aa 6) (ae (aa 4) (ae (aa 10) ah))))) bh) (aq (kc (Fc (we (az (aj (aa 2) ag) (bz hu .eq ag)) (qq (az (aj (aa 2) ag) (bz hu .eq ag))))) (aq (oy hu (aa 7) (aa 15) (ax (C 29 _ rfl) (ae (cf (aa 7) (aa 15)) (ae (aj (aa 4) ag) (ae (cf (cf (aa 14) (aa 15)) ag) ah))))) bh) (aq (kc (az (aj (aa 2) ag) (bz hu .eq ag)) (aq (oy hu (aa 14) (aa 15) (jt (ae (cf (cf (aa 14) (aa 15)) ag) (ae (cf (cf (aa 14) (aa 15)) ag) (ae (cq (B 3 _ rfl) (ae (wt (B 13 _ rfl) (B 15 _ rfl) (aj (cf (cf (aa 14) (aa 15)) ag) (jt (ae (aa 3) ah)))) ah)) ah))))) bh) (aq (kc (az (aj (aa 2) ag) (bz hu .eq ag)) (aq (bc 16 (t8 (B 12 _ rfl) (ae ag (ae (ax (C 29 _ rfl) (ae (cf (cf (aa 14) (aa 15)) ag) (ae (aj (aa 4) ag) (ae ag ah)))) ah)))) (aq (oy hu (aa 14) (aa 15) (jt (ae (o8 (B 7 _ rfl) (ae (aa 16) (ae (aj ag ag) ah))) (ae (o8 (B 7 _ rfl) (ae (aa 16) (ae (cf (cf (aa 14) (aa 15)) ag) ah))) (ae (cf (cf (aa 14) (aa 15)) ag) ah))))) bh)) (aq (bc 8 (ax (C 30 _ rfl) (ae (aa 8) (ae (aa 4) (ae (aa 12) (ae (cb (B 6 _ rfl) (ae (aa 14) ah)) ah)))))) bh)) bh)) bh)) bh)) bh)) (aq (bc 1 (aj (aj (Vb (aa 1) U9 (Va (aa 3))) (jt (ae (jt (ae (aa 5) (ae (aa 6) (ae (cq (B 3 _ rfl) (ae (aa 7) ah)) (ae (cq (B 3 _ rfl) (ae (aa 8) ah)) ah))))) ah))) (Vb (aa 1) (Va (aj (aa 3) ag)) U9))) (aq (bu (jt (ae (jt (ae (cf (aa 0) ag) (ae (cf (aa 0) ag) (ae (cq (B 3 _ rfl) (ae (aa 14) ah)) (ae (cf (aa 0) ag) ah))))) (ae (aa 1) ah)))) bh))))))))))
theorem ady (B:∀(j:Nat) x,qi[j]? = some x->mg x=none):Derived GL P w K mg base ents e32:=dmk λn fa cdv A outer s H E hu C =>
 (aq (rj (dh (ai 1 (ai 2 dg))) (ax (C 23 _ rfl) (ae (Ka (B 14 _ rfl) (B 17 _ rfl) (aa 0)) ah))) (aq (bc 3 (aj (Vb (aa 0) (Va (N9 ag)) U9) (qj (ae ag ah)))) (aq (o7 (gm (B 2 _ rfl) (cb (B 6 _ rfl) (ae (aa 3) ah))) (bp 4) (aq (rj (dh (ai 1 (ai 2 dg))) (ax (C 31 _ rfl) (ae (aa 1) (ae (aa 2) (ae (ax (C 15 _ rfl) (ae (aj (cf (aa 3) (aa 4)) (aj ag (aa 4))) ah)) ah))))) (aq (bc 5 (cf (ax (C 27 _ rfl) (ae (aa 1) (ae (aa 2) ah))) ag)) (aq (kc (r6 (ki (ax (C 28 _ rfl) (ae (ax (C 11 _ rfl) (ae (aa 1) (ae (aa 2) ah))) (ae (aa 5) ah))))) (aq (bu M8) bh) bh) (aq (bc 6 (ax (C 12 _ rfl) (ae (aa 1) (ae (aa 2) ah)))) (aq (kc (Fc (we (r6 (ki (J4 (aa 6) (B 9 _ rfl) (B 11 _ rfl)))) (qq (az (aa 6) (bz hu .ne (wc (aa 5) (wb hu .is Bo))))))) (aq (bu M8) bh) bh) bh)))))) (aq (bu M8) bh))))
theorem dvs (B:∀(j:Nat) x,qi[j]? = some x->mg x=none):∀(j:Nat) e,ents[j]? = some e->Derived GL P w K mg base ents e:=(Lp.d7 (dv0 B) (Lp.d7 (dv1 B) (Lp.d7 (dv2 B) (Lp.d7 (dv3 B) (Lp.d7 (dv4 B) (Lp.d7 (dv5 B) (Lp.d7 (dv6 B) (Lp.d7 (dv7 B) (Lp.d7 (dv8 B) (Lp.d7 (dv9 B) (Lp.d7 (ac9 B) (Lp.d7 (ada B) (Lp.d7 (adb B) (Lp.d7 (ade B) (Lp.d7 (adf B) (Lp.d7 (adg B) (Lp.d7 (adh B) (Lp.d7 (adi B) (Lp.d7 (adj B) (Lp.d7 (adk B) (Lp.d7 (adl B) (Lp.d7 (adm B) (Lp.d7 (adn B) (Lp.d7 (ado B) (Lp.d7 (adp B) (Lp.d7 (adq B) (Lp.d7 (ads B) (Lp.d7 (adt B) (Lp.d7 (adu B) (Lp.d7 (adv B) (Lp.d7 (adw B) (Lp.d7 (adx B) (Lp.d7 (ady B) Lp.aag)))))))))))))))))))))))))))))))))
end
end Lp.Law
namespace PySem.W.Fast
def tw17290901120206406893:=0
def tw7796880434239651707:=0
def tw4441061019541084512:=0
def tw4762000673681393047:=0
def tw5741446376972806259:=0
def tw10773045323190785418:=0
def tw7077046521126845079:=0
def tw463219311136860765:=0
def tw382948279096507567:=0
def tw14031679259262134849:=0
def tw1503978992480290812:=0
def tw9671796608526523498:=0
def tw13661010371599206173:=0
def tw15992419381026889653:=0
def tw1889969694232984321:=0
def tw18035645008115427070:=0
def tw3429514189421663611:=0
def tw3496151378328401267:=0
def tw2333180903919185091:=0
def tw6978234891852397429:=0
def tw17929500646245044680:=0
def tw11769315604389053133:=0
def tw5543587319695704384:=0
def tw1765470624573724032:=0
def tw12290259593097550973:=0
def tw6361892843702287733:=0
def tw7142670323852900705:=0
def tw3605952408526848042:=0
def tw3106690736940346470:=0
def tw8552973609658310671:=0
def tw14029786856864224178:=0
def tw2928706010388940227:=0
def tw4641726498193970220:=0
def tw9180019094837210233:=0
def tw10163300978730752874:=0
def tw11821420177095700215:=0
def tw5405254502045876379:=0
def tw229168376075766389:=0
def tw4214062846716959290:=0
def tw11932390222890455667:=0
def tw3876332483944828857:=0
def tw7999647067714029611:=0
def tw8549050267935169274:=0
def tw8184775559066489230:=0
def tw8665075787469441643:=0
def tw3342941103352015503:=0
def tw15659261997757230524:=0
def tw6407098907315738774:=0
def tw7318344210643059469:=0
def tw15052711816002259698:=0
def tw36977021395794581:=0
def tw16686874610913689799:=0
def tw6433834971261085361:=0
def tw4696959945229100817:=0
def tw11488669992991986992:=0
def tw15615079015028862352:=0
def tw5229470433868689696:=0
def tw18009558887352976054:=0
def tw11162624063659466536:=0
def tw8968293991654985756:=0
def tw16099284747637655047:=0
end PySem.W.Fast
open PySem PySem.W PyProof.Rows Lp.Law
open Lp (ModOf)
set_option maxHeartbeats 0 in
theorem PySem.Challenge.cw_lamprota_k08_first_faults_holds : PySem.Challenge.rw_lamprota_k08_first_faults.Holds := by
 w_on;o_law;k_head;(case hw=>w_witness2)
 k_fill
 refine Lp.N8 (l:=PySem.Challenge.rw_lamprota_k08_first_faults) (n:=8) ⟨rfl,by decide,by decide⟩ rfl rfl (λw h Y=>PySem.W.kIn_of Y) ?F
 case F =>
  intro w mg fa h KX G hmg
  have m0:ModOf (L2.KOf KX) mg e0:=by
   dsimp only[L2.KOf]
   refine' Lp.c6 (e:=e0) KX G ?a ?l ?c ?k λ_ _ _ _ _ _=>ar1 λ_=>rfl
   all_goals try dsimp only[e0]
   (case a=>k_is);(case l=>k_is);(case c=>k_is);(case k=>k_is)
  have m1:ModOf (L2.KOf KX) mg e1:=by
   dsimp only[L2.KOf]
   refine' Lp.c6 (e:=e1) KX G ?a ?l ?c ?k λ_ _ _ _ _ _=>ar3 λ_ _ _=>rfl
   all_goals try dsimp only[e1]
   (case a=>k_is);(case l=>k_is);(case c=>k_is);(case k=>k_is)
  have m2:ModOf (L2.KOf KX) mg e2:=by
   dsimp only[L2.KOf]
   refine' Lp.c6 (e:=e2) KX G ?a ?l ?c ?k λ_ _ _ _ _ _=>ar2 λ_ _=>rfl
   all_goals try dsimp only[e2]
   (case a=>k_is);(case l=>k_is);(case c=>k_is);(case k=>k_is)
  have m3:ModOf (L2.KOf KX) mg e3:=by
   dsimp only[L2.KOf]
   refine' Lp.c6 (e:=e3) KX G ?a ?l ?c ?k λ_ _ _ _ _ _=>ar2 λ_ _=>rfl
   all_goals try dsimp only[e3]
   (case a=>k_is);(case l=>k_is);(case c=>k_is);(case k=>k_is)
  have m4:ModOf (L2.KOf KX) mg e4:=by
   dsimp only[L2.KOf]
   refine' Lp.c6 (e:=e4) KX G ?a ?l ?c ?k λ_ _ _ _ _ _=>ar3 λ_ _ _=>rfl
   all_goals try dsimp only[e4]
   (case a=>k_is);(case l=>k_is);(case c=>k_is);(case k=>k_is)
  have m5:ModOf (L2.KOf KX) mg e5:=by
   dsimp only[L2.KOf]
   refine' Lp.c6 (e:=e5) KX G ?a ?l ?c ?k λ_ _ _ _ _ _=>ar3 λ_ _ _=>rfl
   all_goals try dsimp only[e5]
   (case a=>k_is);(case l=>k_is);(case c=>k_is);(case k=>k_is)
  have m6:ModOf (L2.KOf KX) mg e6:=by
   dsimp only[L2.KOf]
   refine' Lp.c6 (e:=e6) KX G ?a ?l ?c ?k λ_ _ _ _ _ _=>ar1 λ_=>rfl
   all_goals try dsimp only[e6]
   (case a=>k_is);(case l=>k_is);(case c=>k_is);(case k=>k_is)
  have m7:ModOf (L2.KOf KX) mg e7:=by
   dsimp only[L2.KOf]
   refine' Lp.c6 (e:=e7) KX G ?a ?l ?c ?k λ_ _ _ _ _ _=>ar2 λ_ _=>rfl
   all_goals try dsimp only[e7]
   (case a=>k_is);(case l=>k_is);(case c=>k_is);(case k=>k_is)
  have m8:ModOf (L2.KOf KX) mg e8:=by
   dsimp only[L2.KOf]
   refine' Lp.c6 (e:=e8) KX G ?a ?l ?c ?k λ_ _ _ _ _ _=>ar3 λ_ _ _=>rfl
   all_goals try dsimp only[e8]
   (case a=>k_is);(case l=>k_is);(case c=>k_is);(case k=>k_is)
  have m9:ModOf (L2.KOf KX) mg e9:=by
   dsimp only[L2.KOf]
   refine' Lp.c6 (e:=e9) KX G ?a ?l ?c ?k λ_ _ _ _ _ _=>ar4 λ_ _ _ _=>rfl
   all_goals try dsimp only[e9]
   (case a=>k_is);(case l=>k_is);(case c=>k_is);(case k=>k_is)
  have m10:ModOf (L2.KOf KX) mg e10:=by
   dsimp only[L2.KOf]
   refine' Lp.c6 (e:=e10) KX G ?a ?l ?c ?k λ_ _ _ _ _ _=>ar4 λ_ _ _ _=>rfl
   all_goals try dsimp only[e10]
   (case a=>k_is);(case l=>k_is);(case c=>k_is);(case k=>k_is)
  have m11:ModOf (L2.KOf KX) mg e11:=by
   dsimp only[L2.KOf]
   refine' Lp.c6 (e:=e11) KX G ?a ?l ?c ?k λ_ _ _ _ _ _=>ar2 λ_ _=>rfl
   all_goals try dsimp only[e11]
   (case a=>k_is);(case l=>k_is);(case c=>k_is);(case k=>k_is)
  have m12:ModOf (L2.KOf KX) mg e12:=by
   dsimp only[L2.KOf]
   refine' Lp.c6 (e:=e12) KX G ?a ?l ?c ?k λ_ _ _ _ _ _=>ar2 λ_ _=>rfl
   all_goals try dsimp only[e12]
   (case a=>k_is);(case l=>k_is);(case c=>k_is);(case k=>k_is)
  have m13:ModOf (L2.KOf KX) mg e13:=by
   dsimp only[L2.KOf]
   refine' Lp.c6 (e:=e13) KX G ?a ?l ?c ?k λ_ _ _ _ _ _=>ar1 λ_=>rfl
   all_goals try dsimp only[e13]
   (case a=>k_is);(case l=>k_is);(case c=>k_is);(case k=>k_is)
  have m14:ModOf (L2.KOf KX) mg e14:=by
   dsimp only[L2.KOf]
   refine' Lp.c6 (e:=e14) KX G ?a ?l ?c ?k λ_ _ _ _ _ _=>ar1 λ_=>rfl
   all_goals try dsimp only[e14]
   (case a=>k_is);(case l=>k_is);(case c=>k_is);(case k=>k_is)
  have m15:ModOf (L2.KOf KX) mg e15:=by
   dsimp only[L2.KOf]
   refine' Lp.c6 (e:=e15) KX G ?a ?l ?c ?k λ_ _ _ _ _ _=>ar1 λ_=>rfl
   all_goals try dsimp only[e15]
   (case a=>k_is);(case l=>k_is);(case c=>k_is);(case k=>k_is)
  have m16:ModOf (L2.KOf KX) mg e16:=by
   dsimp only[L2.KOf]
   refine' Lp.c6 (e:=e16) KX G ?a ?l ?c ?k λ_ _ _ _ _ _=>ar2 λ_ _=>rfl
   all_goals try dsimp only[e16]
   (case a=>k_is);(case l=>k_is);(case c=>k_is);(case k=>k_is)
  have m17:ModOf (L2.KOf KX) mg e17:=by
   dsimp only[L2.KOf]
   refine' Lp.c6 (e:=e17) KX G ?a ?l ?c ?k λ_ _ _ _ _ _=>ar3 λ_ _ _=>rfl
   all_goals try dsimp only[e17]
   (case a=>k_is);(case l=>k_is);(case c=>k_is);(case k=>k_is)
  have m18:ModOf (L2.KOf KX) mg e18:=by
   dsimp only[L2.KOf]
   refine' Lp.c6 (e:=e18) KX G ?a ?l ?c ?k λ_ _ _ _ _ _=>ar4 λ_ _ _ _=>rfl
   all_goals try dsimp only[e18]
   (case a=>k_is);(case l=>k_is);(case c=>k_is);(case k=>k_is)
  have m19:ModOf (L2.KOf KX) mg e19:=by
   dsimp only[L2.KOf]
   refine' Lp.c6 (e:=e19) KX G ?a ?l ?c ?k λ_ _ _ _ _ _=>ar2 λ_ _=>rfl
   all_goals try dsimp only[e19]
   (case a=>k_is);(case l=>k_is);(case c=>k_is);(case k=>k_is)
  have m20:ModOf (L2.KOf KX) mg e20:=by
   dsimp only[L2.KOf]
   refine' Lp.c6 (e:=e20) KX G ?a ?l ?c ?k λ_ _ _ _ _ _=>ar1 λ_=>rfl
   all_goals try dsimp only[e20]
   (case a=>k_is);(case l=>k_is);(case c=>k_is);(case k=>k_is)
  have m21:ModOf (L2.KOf KX) mg e21:=by
   dsimp only[L2.KOf]
   refine' Lp.c6 (e:=e21) KX G ?a ?l ?c ?k λ_ _ _ _ _ _=>ar2 λ_ _=>rfl
   all_goals try dsimp only[e21]
   (case a=>k_is);(case l=>k_is);(case c=>k_is);(case k=>k_is)
  have m22:ModOf (L2.KOf KX) mg e22:=by
   dsimp only[L2.KOf]
   refine' Lp.c6 (e:=e22) KX G ?a ?l ?c ?k λ_ _ _ _ _ _=>ar1 λ_=>rfl
   all_goals try dsimp only[e22]
   (case a=>k_is);(case l=>k_is);(case c=>k_is);(case k=>k_is)
  have m23:ModOf (L2.KOf KX) mg e23:=by
   dsimp only[L2.KOf]
   refine' Lp.c6 (e:=e23) KX G ?a ?l ?c ?k λ_ _ _ _ _ _=>ar1 λ_=>rfl
   all_goals try dsimp only[e23]
   (case a=>k_is);(case l=>k_is);(case c=>k_is);(case k=>k_is)
  have m24:ModOf (L2.KOf KX) mg e24:=by
   dsimp only[L2.KOf]
   refine' Lp.c6 (e:=e24) KX G ?a ?l ?c ?k λ_ _ _ _ _ _=>ar3 λ_ _ _=>rfl
   all_goals try dsimp only[e24]
   (case a=>k_is);(case l=>k_is);(case c=>k_is);(case k=>k_is)
  have m25:ModOf (L2.KOf KX) mg e25:=by
   dsimp only[L2.KOf]
   refine' Lp.c6 (e:=e25) KX G ?a ?l ?c ?k λ_ _ _ _ _ _=>ar3 λ_ _ _=>rfl
   all_goals try dsimp only[e25]
   (case a=>k_is);(case l=>k_is);(case c=>k_is);(case k=>k_is)
  have m26:ModOf (L2.KOf KX) mg e26:=by
   dsimp only[L2.KOf]
   refine' Lp.c6 (e:=e26) KX G ?a ?l ?c ?k λ_ _ _ _ _ _=>ar5 λ_ _ _ _ _=>rfl
   all_goals try dsimp only[e26]
   (case a=>k_is);(case l=>k_is);(case c=>k_is);(case k=>k_is)
  have m27:ModOf (L2.KOf KX) mg e27:=by
   dsimp only[L2.KOf]
   refine' Lp.c6 (e:=e27) KX G ?a ?l ?c ?k λ_ _ _ _ _ _=>ar2 λ_ _=>rfl
   all_goals try dsimp only[e27]
   (case a=>k_is);(case l=>k_is);(case c=>k_is);(case k=>k_is)
  have m28:ModOf (L2.KOf KX) mg e28:=by
   dsimp only[L2.KOf]
   refine' Lp.c6 (e:=e28) KX G ?a ?l ?c ?k λ_ _ _ _ _ _=>ar2 λ_ _=>rfl
   all_goals try dsimp only[e28]
   (case a=>k_is);(case l=>k_is);(case c=>k_is);(case k=>k_is)
  have m29:ModOf (L2.KOf KX) mg e29:=by
   dsimp only[L2.KOf]
   refine' Lp.c6 (e:=e29) KX G ?a ?l ?c ?k λ_ _ _ _ _ _=>ar3 λ_ _ _=>rfl
   all_goals try dsimp only[e29]
   (case a=>k_is);(case l=>k_is);(case c=>k_is);(case k=>k_is)
  have m30:ModOf (L2.KOf KX) mg e30:=by
   dsimp only[L2.KOf]
   refine' Lp.c6 (e:=e30) KX G ?a ?l ?c ?k λ_ _ _ _ _ _=>ar4 λ_ _ _ _=>rfl
   all_goals try dsimp only[e30]
   (case a=>k_is);(case l=>k_is);(case c=>k_is);(case k=>k_is)
  have m31:ModOf (L2.KOf KX) mg e31:=by
   dsimp only[L2.KOf]
   refine' Lp.c6 (e:=e31) KX G ?a ?l ?c ?k λ_ _ _ _ _ _=>ar3 λ_ _ _=>rfl
   all_goals try dsimp only[e31]
   (case a=>k_is);(case l=>k_is);(case c=>k_is);(case k=>k_is)
  have m32:ModOf (L2.KOf KX) mg e32:=by
   dsimp only[L2.KOf]
   refine' Lp.c6 (e:=e32) KX G ?a ?l ?c ?k λ_ _ _ _ _ _=>ar1 λ_=>rfl
   all_goals try dsimp only[e32]
   (case a=>k_is);(case l=>k_is);(case c=>k_is);(case k=>k_is)
  have b0:mg "zip"=none:=BH KX G (by k_is)
  have b1:mg "all"=none:=BH KX G (by k_is)
  have b2:mg "range"=none:=BH KX G (by k_is)
  have b3:mg "tuple"=none:=BH KX G (by k_is)
  have b4:mg "any"=none:=BH KX G (by k_is)
  have b5:mg "sum"=none:=BH KX G (by k_is)
  have b6:mg "len"=none:=BH KX G (by k_is)
  have b7:mg "min"=none:=BH KX G (by k_is)
  have b8:mg "enumerate"=none:=BH KX G (by k_is)
  have b9:mg "isinstance"=none:=BH KX G (by k_is)
  have b10:mg "int"=none:=BH KX G (by k_is)
  have b11:mg "bool"=none:=BH KX G (by k_is)
  have b12:mg "max"=none:=BH KX G (by k_is)
  have b13:mg "sorted"=none:=BH KX G (by k_is)
  have b14:mg "list"=none:=BH KX G (by k_is)
  have b15:mg "set"=none:=BH KX G (by k_is)
  have b16:mg "str"=none:=BH KX G (by k_is)
  have b17:mg "reversed"=none:=BH KX G (by k_is)
  exact Lp.Th (T:=Lp.GL) (es:=ents) (n:=8) (j:=32) (e:=e32) (Lp.d7 m0 (Lp.d7 m1 (Lp.d7 m2 (Lp.d7 m3 (Lp.d7 m4 (Lp.d7 m5 (Lp.d7 m6 (Lp.d7 m7 (Lp.d7 m8 (Lp.d7 m9 (Lp.d7 m10 (Lp.d7 m11 (Lp.d7 m12 (Lp.d7 m13 (Lp.d7 m14 (Lp.d7 m15 (Lp.d7 m16 (Lp.d7 m17 (Lp.d7 m18 (Lp.d7 m19 (Lp.d7 m20 (Lp.d7 m21 (Lp.d7 m22 (Lp.d7 m23 (Lp.d7 m24 (Lp.d7 m25 (Lp.d7 m26 (Lp.d7 m27 (Lp.d7 m28 (Lp.d7 m29 (Lp.d7 m30 (Lp.d7 m31 (Lp.d7 m32 Lp.aag))))))))))))))))))))))))))))))))) (λbase=>dvs (Lp.d7 b0 (Lp.d7 b1 (Lp.d7 b2 (Lp.d7 b3 (Lp.d7 b4 (Lp.d7 b5 (Lp.d7 b6 (Lp.d7 b7 (Lp.d7 b8 (Lp.d7 b9 (Lp.d7 b10 (Lp.d7 b11 (Lp.d7 b12 (Lp.d7 b13 (Lp.d7 b14 (Lp.d7 b15 (Lp.d7 b16 (Lp.d7 b17 Lp.aag))))))))))))))))))) rfl hmg rfl (λns hn=>Lr.aax ns)
